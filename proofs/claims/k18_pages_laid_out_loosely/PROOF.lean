import PyProof.Rows.All
import Wide.All
import OpenK.AllK
import Wide.FinOn
import Lean
import PyProof.EqAt
import PyProof.EqKinds
import PyProof.TupleCall
import OpenK.KRaise
import OpenK.KOwn
import KE.KTryMore
import KE.RegKTryMore
import PyProof.ExcArgsOwn
import KE.KIntText
import KE.KSortTup
import KE.KDictOf
import KE.KRevIter
import KE.KEqDict
import PyProof.Rows.SetFrom
import PyProof.TupleKey
import PyProof.Rows.SetObj
import PyProof.SetRoads
import PyProof.IsiH_list
import PyProof.ZipIter
import PyProof.Rows.TupIter
import PyProof.DictValues
import PyProof.DictWalks
import KE.KDictSum
import KE.KNest
import KE.KLam
import KE.KNestM
import KE.KDictList
import KE.KDictLaws
import PyProof.Rows.SetFrom
import PyProof.TupleKey
import PyProof.Rows.SetObj
import PyProof.SetRoads
import PyProof.StrLawsRepr
import PyProof.ReprStr
import PyProof.FString
import PyProof.EnumMake
import PySem.Challenge.RW_wirefloor_k18_pages_laid_out_loosely
set_option Elab.async false
set_option linter.all false
set_option maxRecDepth 100000
set_option tactic.hygienic false
open PySem renaming wpAny_bind -> Jc, wpAny_pure -> Jf, wpAny_mono -> JU, wpAny_holding -> JV, wpAny_call_entry -> JY, wpAny_field -> J1, wpAny_rule -> Kj, wpAny_truthy_bool -> Kn, wpAny_newObj_type -> Kt, wpAny_attempt -> Ku, wpAny_callSpecial?_slot -> KF, wpAny_dictEntries -> KG
open PySem renaming wpAny_pyIter_list -> KP, wpAny_seqItems -> K0, wpAny_passesOwn -> K5, wpAny_Call_Name_kw -> K7, wpAny_isInstance -> Lb, wpAny_dictEpoch -> Ln, wpAny_setField_rec -> Lp, wpAny_notOrdered_dict -> LY, wpAny_typeNameOfWhole_keyiter -> LZ, wpAny_typeNameOfWhole_valiter -> L0
open List renaming length_map -> Jd, mem_map -> Jk, map_append -> Jl, mem_cons -> Jo, mem_cons_self -> Jp, mem_cons_of_mem -> Jq, map_cons -> Jr, length_append -> Js, map_map -> Jt, mem_singleton -> Jv, mem_of_getElem? -> Jy, mem_append -> Jz
open List renaming length_take -> JB, length_cons -> JC, getElem?_eq_some_iff -> JE, size_toArray -> JF, getElem?_map -> JG, take_length -> JI, append_assoc -> JJ, append_nil -> JK, getElem?_eq_getElem -> JL, not_mem_nil -> JM, lookup_cons -> JX, mem_iff_getElem? -> JZ
open List renaming getElem?_drop -> J2, foldl_cons -> J8, sum_cons -> J9, mem_append_right -> J_, length_drop -> Ka, getD_eq_getElem?_getD -> Kb, mem_filterMap -> Kd, filterMap_cons -> Ke, filter_append -> Kl, nodup_cons -> Ko, getElem?_append_right -> Kq, getElem?_take_of_lt -> Kr
open List renaming length_replicate -> Ks, take_append_drop -> Kw, lookup -> KB, replicate_succ -> KD, map_take -> KI, map_drop -> KJ, filterMap_append -> KL, map_nil -> KR, foldl -> KU, take_succ -> KY, nodup_append -> K1, pairwise_map -> K2
open List renaming mem_append_left -> K4, getElem?_append_left -> K8, any_cons -> K9, all_eq_true -> La, take_of_length_le -> Ld, map_congr_left -> Lf, find?_cons -> Lj, nodup_nil -> Lk, mem_filter -> Lu, mem_range -> Lv, flatten_cons -> Lz, ext_getElem? -> LC
open List renaming eq_nil_of_length_eq_zero -> LD, filter_cons_of_pos -> LF, filter_cons_of_neg -> LG, getElem?_eq_none -> LH, perm_append_comm -> LI, drop_eq_getElem_cons -> LK, take_zero -> LL, mem_of_mem_take -> LM, pairwise_iff_getElem -> LN, length_filter_le -> LP, sum_append -> LQ, any_eq_false -> LR
open List renaming reverse_cons -> LX, reverse_append -> L4, pairwise_append -> L6, extract_eq_drop_take -> L7, pairwise_cons -> L8, flatMap_append -> L_
open PySem.W renaming Frag -> Je, kitOne -> JN, fnOf -> JQ, findIn -> JS, keepIn -> JW, kia_one -> Kf, codeIn -> Kg, emptyDict -> KA, instObj -> KM, isFn -> KQ, mg_of -> Lq, plainGet -> Lx
open PySem.W renaming hasDictIn -> LS, specialIn -> LU, callWith_K -> LV, methodCall_KW -> LW
open Nat renaming le_refl -> Jg, le_trans -> Jn, ne_of_lt -> Jw, zero_le -> JA, lt_of_lt_of_le -> JO, lt_irrefl -> Km, le_of_lt -> Ky, succ_le_succ -> KC, ne_of_gt -> KN, le_add_right -> KZ, min_eq_left -> Le, lt_of_le_of_lt -> Ll
open Nat renaming mul_le_mul -> Lm, lt_succ_self -> Ly, lt_succ_of_lt -> LA, eq_zero_or_pos -> LO
open PyProof.Rows renaming wpS_bind -> Jh, wpS_pure -> Ji, wpS_mono -> JR, wpS_forRange -> JT, wpS_get -> Kc, wpS_modify -> Kx
open PySem.Heap renaming get?_push_of_some -> Jj, lt_size -> Jm, get?_push_size -> Jx, size_push -> J6, get?_update_self -> KS, get?_none_of_le -> Lw
open Bool renaming false_ne_true -> Ju, and_eq_true -> Ki, false_eq_true -> KW, eq_iff_iff -> K6, or_eq_true -> LB
open Array renaming length_toList -> JD, size_push -> J3, getElem?_toList -> J7, toList_append -> Kk, mem_toList_iff -> Kz, toList_push -> KH, getElem?_eq_getElem -> Lc, toList_extract -> LJ, getElem?_eq_none -> L1, getElem?_eq_some_iff -> L3, size_append -> L9, getD_eq_getD_getElem? -> Md
open Array renaming toList_setIfInBounds -> Me
open Ne renaming symm -> JH
open PySem.F renaming plainAttrs_list -> JP, slot_list_append -> J4, type_list_append -> J5, plainAttrs_str -> Ls, entry_tuple_add -> Mb, args_tuple_add_2 -> Mc
open Int renaming toNat -> J0, toNat_natCast -> Kh, emod_nonneg -> K3, emod_lt_of_pos -> Lg, eq_ofNat_of_zero_le -> Lr
open Option renaming map_eq_some_iff -> K_, map_some -> Li, isSome_iff_exists -> Ma
noncomputable section
namespace L2
open PySem PySem.Spec PyProof.Rows
abbrev cP:=Sum Int Str
noncomputable def m7:cP->Value->Bool
 | .inl k,v=>Value.isInt k v
 | .inr x,v=>Value.isStrOf x v
noncomputable def Iq (w:World):cP->Int
 | .inl k=>hashInt k
 | .inr x=>hashStr w x
theorem cv:∀{k:cP} {v:Value},m7 k v=true->(∃i t,k=Sum.inl i/\v=Value.int i t)\/(∃x t,k=Sum.inr x/\v=Value.str x t)
 | .inl i,v,h=>by
  obtain⟨t,e⟩:=Value.isInt_shape (k:=i) (v:=v) h
  exact .inl ⟨i,t,rfl,e⟩
 | .inr x,v,h=>by
  obtain⟨t,e⟩:=Value.isStrOf_shape (x:=x) (v:=v) h
  exact .inr ⟨x,t,rfl,e⟩
theorem xp (i:Int)(t:Tok):m7 (.inl i) (.int i t)=true:=by simp[m7,Value.isInt]
theorem xb (x:Str)(t:Tok):m7 (.inr x) (.str x t)=true:=by simp[m7,Value.isStrOf]
theorem FI (a b:Int):decide ((Sum.inl a:cP)=Sum.inl b)=(a==b):=by
 by_cases e:a=b
 ·subst e;simp
 ·have h:¬(Sum.inl a:cP)=Sum.inl b:=fun q=>e (Sum.inl.inj q)
  rw[decide_eq_false h]
  exact(beq_eq_false_iff_ne.mpr e).symm
theorem Fw (a b:Str):decide ((Sum.inr a:cP)=Sum.inr b)=decide (a=b):=by
 by_cases e:a=b
 ·subst e;simp
 ·have h:¬(Sum.inr a:cP)=Sum.inr b:=fun q=>e (Sum.inr.inj q)
  rw[decide_eq_false h,decide_eq_false e]
theorem FT (a:Int)(b:Str):decide ((Sum.inl a:cP)=Sum.inr b)=false:=decide_eq_false (fun q=>nomatch q)
theorem EI (a:Str)(b:Int):decide ((Sum.inr a:cP)=Sum.inl b)=false:=decide_eq_false (fun q=>nomatch q)
noncomputable def aY (prog:Program) (w:World):PySem.KeyKind prog w cP where
 is:=m7
 hash:=Iq w
 inj:=fun v a b ha d=>by
  rcases cv ha with ⟨i,t,rfl,rfl⟩|⟨x,t,rfl,rfl⟩
  ·rcases cv d with ⟨j,u,rfl,e⟩|⟨y,u,rfl,e⟩
   ·injection e with e1 _;rw[e1]
   ·exact nomatch e
  ·rcases cv d with ⟨j,u,rfl,e⟩|⟨y,u,rfl,e⟩
   ·exact nomatch e
   ·injection e with e1 _;rw[e1]
 byValue:=fun k v h=>by
  rcases cv h with ⟨i,t,rfl,rfl⟩|⟨x,t,rfl,rfl⟩<;>rfl
 pyHash:=fun c h=>by
  rcases cv c with ⟨i,t,rfl,rfl⟩|⟨x,t,rfl,rfl⟩
  ·exact wpAny_pyHash_int h
  ·exact wpAny_pyHash_str h
 eqBool:=fun f c h=>by
  rcases cv f with ⟨i,t,rfl,rfl⟩|⟨x,t,rfl,rfl⟩
  ·rcases cv c with ⟨j,u,rfl,rfl⟩|⟨y,u,rfl,rfl⟩
   ·rw[FI] at h;exact wpAny_eqBool_int h
   ·rw[FT] at h;exact SeqAt.EqAt.int_str i t y u _ _ _ _ h
  ·rcases cv c with ⟨j,u,rfl,rfl⟩|⟨y,u,rfl,rfl⟩
   ·rw[EI] at h;exact SeqAt.EqAt.str_int x t j u _ _ _ _ h
   ·rw[Fw] at h;exact wpAny_eqBool_str h
 «strs»:=fun k x t v h=>by
  rcases cv h with ⟨i,u,rfl,e⟩|⟨y,u,rfl,e⟩
  ·exact nomatch e
  ·injection e with e1 _
   subst e1
   cases v<;>rfl
theorem rY (prog:Program)(w:World)(i:Int)(t:Tok):(aY prog w).is (.inl i) (.int i t)=true:=xp i t
theorem rq (prog:Program)(w:World)(x:Str)(t:Tok):(aY prog w).is (.inr x) (.str x t)=true:=xb x t
inductive V where
 |non|bl (b:Bool)|int (i:Int)|str (x:Str)|byt (b:Array UInt8)|flt (b:UInt64)|ref (a:Addr)|ty (n:String)
 deriving DecidableEq
noncomputable def aQ:V->Value->Prop
 | .non,u=>u=Value.none
 | .bl b,u=>u=Value.bool b
 | .int i,u=>∃t,u=Value.int i t
 | .str x,u=>∃t,u=Value.str x t
 | .byt b,u=>∃t,u=Value.bytes b t
 | .flt b,u=>∃t,u=Value.float b t
 | .ref a,u=>u=Value.ref a
 | .ty n,u=>u=Value.type n
abbrev aS:List V->List Value->Prop:=Paired aQ
theorem aS.length(r:aS xs us):xs.length=us.length:=Paired.length r
theorem Aj {c d:Type}{R:c->d->Prop}{as:List c}{bs:List d}(h:Paired R as bs):∀{i:Nat} {a:c},as[i]?=some a->∃b,bs[i]?=some b/\R a b:=by
 induction h with
 |nil=>intro i a e;simp at e
 |cons r t ih=>
  intro i a e
  cases i with
  |zero=>simp at e;subst e;exact⟨_,rfl,r⟩
  |succ i=>
   obtain⟨u,h1,h2⟩:=ih (i:=i) (a:=a) (by simpa using e)
   exact⟨u,by simpa using h1,h2⟩
theorem aS.get {xs:List V}{us:List Value}{i:Nat}{x:V}(h:aS xs us)(e:xs[i]?=some x):∃u,us[i]?=some u/\aQ x u:=Aj h e
theorem aS.set {x:V}{u:Value}(r:aQ x u){xs:List V}{us:List Value}(i:Nat)(h:aS xs us):aS (xs.set i x) (us.set i u):=by
 induction h generalizing i with
 |nil=>exact .nil
 |cons q t ih=>
  cases i with
  |zero=>exact .cons r t
  |succ i=>exact .cons q (ih i)
theorem kY {a c:Type}{F:a->c->Prop}{as bs:List a}{cs b:List c}(h:Paired F as cs)(t:Paired F bs b):Paired F (as++bs) (cs++b):=by
 induction h with
 |nil=>exact t
 |cons h s ih=>exact .cons h ih
theorem aS.append(h:aS xs us)(t:aS ys ws):aS (xs++ys) (us++ws):=kY h t
theorem fO {a b:Type}{R:a->b->Prop}(k:Nat){as:List a}{bs:List b}(h:Paired R as bs):Paired R (as.take k) (bs.take k):=by
 induction h generalizing k with
 |nil=>rw[List.take_nil,List.take_nil];exact .nil
 |cons r t ih=>
  cases k with
  |zero=>exact .nil
  |succ k=>exact .cons r (ih k)
theorem aS.take {xs:List V}{us:List Value}(n:Nat)(h:aS xs us):aS (xs.take n) (us.take n):=fO n h
theorem fP {a b:Type}{R:a->b->Prop}(k:Nat){as:List a}{bs:List b}(h:Paired R as bs):Paired R (as.drop k) (bs.drop k):=by
 induction h generalizing k with
 |nil=>rw[List.drop_nil,List.drop_nil];exact .nil
 |cons r t ih=>
  cases k with
  |zero=>exact .cons r t
  |succ k=>exact ih k
theorem aS.drop {xs:List V}{us:List Value}(n:Nat)(h:aS xs us):aS (xs.drop n) (us.drop n):=fP n h
noncomputable def iq:Option V->Option Value->Prop
 |some v,some u=>aQ v u
 |none,none=>True
 |_,_=>False
noncomputable def KV {a:Type}:List (a×V)->List (a×Value)->Prop:=Paired fun(p:a×V) (q:a×Value)=>p.1=q.1/\aQ p.2 q.2
def kV:cP->V
 | .inl i=> .int i
 | .inr x=> .str x
inductive HO where
 |lst (xs:List V)
 |tup (xs:List V)
 |dK (kvs:List (cP×V))|dT (kvs:List (List cP×V))
 |set (S:Int->Bool) (n:Nat)
 |ins (C dx:Addr) (fs:List (Str×V))
 |own (x:Addr)
 |xd (fs:List (Str×V))
 |met (f x:Addr)
 |rng (lo hi:Int)
 |frz (o:Obj) (u:HO)
 |tbl (ps:Array Value)
 |ext (φ:Heap->Prop)
abbrev Hp:=Addr->Option HO
noncomputable def upd (H:Hp) (a:Addr) (o:HO):Hp:=fun b=>if b=a then some o else H b
theorem ae:upd H a o a=some o:=by unfold upd;rw[if_pos rfl]
theorem ak(h:b≠a):upd H a o b=H b:=by unfold upd;rw[if_neg h]
theorem gC:upd (upd H a o) a u=upd H a u:=by
 funext b;unfold upd;split<;>rfl
theorem jL {H:Hp}{a b:Addr}{o u:HO}(h:H a=some o)(h':H b=some u)(d:o≠u):a≠b:=by
 intro e;subst e;rw[h] at h';exact d (Option.some.inj h')
theorem ar {H:Hp}{a b:Addr}{o:HO}(h:H a=some o)(h':H b=none):a≠b:=by
 intro e;subst e;rw[h] at h';cases h'
section
variable (P:Program) (w:World)
noncomputable def bM (H:Hp) (h:Heap) (a:Addr):HO->Prop
 | .lst xs=>xs.length<=sizeLine/\∃(b:List Value) (n:Nat),aS xs b/\h.get? a=some {cls:=.type "list",data:=.seq b.toArray n}
 | .tup xs=>xs.length<=sizeLine/\∃b:List Value,aS xs b/\IsTup h a b.toArray
 | .dK kvs=>kvs.length<=sizeLine/\(a==sysModules)=false/\∃vs,KV kvs vs/\h.DictOf (aY P w) a vs
 | .dT kvs=>kvs.length<=sizeLine/\(a==sysModules)=false/\∃xs:List (List cP×Addr×Value),
   Paired (fun(p:List cP×V) (q:List cP×Addr×Value)=>p.1=q.1/\H q.2.1=some (.tup (p.1.map kV))/\aQ p.2 q.2.2) kvs xs/\
   ∃o es ep,h.get? a=some o/\o.ExactDict/\o.data=.dict es ep/\es.toList=xs.map (entryOfKey (tupleKind (aY P w)))/\(xs.map (·.1)).Nodup
 | .set S n=>h.SetOf (intKind P w) a S n
 | .ins C dx fs=>H dx=some (.own a)/\fs.length<=1000/\dx≠a/\h.get? a=some (KM C dx)/\
   ∃mA,h.Ns1 dx mA/\(∀f,iq (fs.lookup f) (mA f))/\PySem.Within mA (fs.map (·.1))
 | .own _=>∃o,h.get? a=some o
 | .xd fs=>∃mA,h.Ns1 a mA/\∀f,iq (fs.lookup f) (mA f)
 | .rng lo hi=>∃t u v,h.get? a=some {cls:=.type "range",data:=.fields #[.int lo t,.int hi u,.int 1 v]}
 | .frz o u=>h.get? a=some o/\bM H h a u
 | .tbl ps=>h.get? a=some {cls:=.none,data:=.fields ps}
 | .met f x=>h.get? a=some (PySem.W.methodObj (.ref f) (.ref x))
 | .ext φ=>φ h/\(∃o,h.get? a=some o)/\∀h1 h2:Heap,φ h1->(∀o,h1.get? a=some o->h2.get? a=some o)->φ h2
def h_ (H:Hp) (h:Heap):Prop:=∀a o,H a=some o->bM P w H h a o
end
section
variable {P:Program} {w:World} {H H':Hp} {h h':Heap} {a:Addr} {o:HO}
theorem bM.lt (x:bM P w H h a o):a<h.objs.size:=by
 cases o with
 |lst xs=>obtain⟨_,_,_,_,e⟩:=x;exact Jm e
 |tup xs=>obtain⟨_,_,_,p⟩:=x;exact p.lt
 |dK kvs=>obtain⟨_,_,_,_,o,_,_,e,_⟩:=x;exact Jm e
 |dT kvs=>obtain⟨_,_,_,_,o,_,_,e,_⟩:=x;exact Jm e
 |set S n=>obtain⟨o,_,_,_,e,_⟩:=x;exact Jm e
 |ins C dx fs=>obtain⟨_,_,_,e,_⟩:=x;exact Jm e
 |own y=>obtain⟨_,e⟩:=x;exact Jm e
 |xd fs=>obtain⟨_,⟨_,_,_,e,_⟩,_⟩:=x;exact Jm e
 |rng lo hi=>obtain⟨_,_,_,e⟩:=x;exact Jm e
 |frz ob u=>obtain⟨e,_⟩:=x;exact Jm e
 |tbl ps=>exact Jm (show h.get? a=some _ from x)
 |met f y=>exact Jm (show h.get? a=some _ from x)
 |ext φ=>obtain⟨_,⟨_,e⟩,_⟩:=x;exact Jm e
theorem Paired.mapP {c d:Type}{F G:c->d->Prop}{l₁:List c}{l₂:List d}(h:Paired F l₁ l₂)(f:∀a b,F a b->G a b):Paired G l₁ l₂:=by
 induction h with
 |nil=>exact .nil
 |cons r t ih=>exact .cons (f _ _ r) ih
theorem bM.stay (x:bM P w H h a o)(k:∀b u,(b=a\/H b=some (.own a))->h.get? b=some u->h'.get? b=some u)
  (m:∀b,H b=some (.own a)->H' b=some (.own a)) (l:∀b xs,H b=some (.tup xs)->H' b=some (.tup xs)):bM P w H' h' a o:=by
 induction o with
 |lst xs=>obtain⟨z,g,n,r,e⟩:=x;exact⟨z,g,n,r,k _ _ (.inl rfl) e⟩
 |tup xs=>obtain⟨z,g,r,i,e,c⟩:=x;exact⟨z,g,r,i,k _ _ (.inl rfl) e,c⟩
 |dK kvs=>obtain⟨z,y,vs,r,i,es,ep,e,c⟩:=x;exact⟨z,y,vs,r,i,es,ep,k _ _ (.inl rfl) e,c⟩
 |dT kvs=>
  obtain⟨z,y,xs,r,i,es,ep,e,c⟩:=x
  exact⟨z,y,xs,Paired.mapP r fun p q z=>⟨z.1,l _ _ z.2.1,z.2.2⟩,i,es,ep,k _ _ (.inl rfl) e,c⟩
 |set S n=>obtain⟨i,es,ep,t,e,c⟩:=x;exact⟨i,es,ep,t,k _ _ (.inl rfl) e,c⟩
 |ins C dx fs=>
  obtain⟨d,z,s,e,mA,⟨j,es,ep,A,c⟩,r⟩:=x
  exact⟨m _ d,z,s,k _ _ (.inl rfl) e,mA,⟨j,es,ep,k _ _ (.inr d) A,c⟩,r⟩
 |own y=>obtain⟨i,e⟩:=x;exact⟨i,k _ _ (.inl rfl) e⟩
 |xd fs=>obtain⟨mA,⟨j,es,ep,e,c⟩,r⟩:=x;exact⟨mA,⟨j,es,ep,k _ _ (.inl rfl) e,c⟩,r⟩
 |rng lo hi=>obtain⟨t,u,v,e⟩:=x;exact⟨t,u,v,k _ _ (.inl rfl) e⟩
 |frz i u ih=>obtain⟨e,q⟩:=x;exact⟨k _ _ (.inl rfl) e,ih q⟩
 |tbl ps=>
  have e:h.get? a=some {cls:=.none,data:=.fields ps}:=x
  show h'.get? a=some {cls:=.none,data:=.fields ps}
  exact k a _ (.inl rfl) e
 |met f y=>
  have e:h.get? a=some (PySem.W.methodObj (.ref f) (.ref y)):=x
  show h'.get? a=some (PySem.W.methodObj (.ref f) (.ref y))
  exact k a _ (.inl rfl) e
 |ext φ=>obtain⟨p,⟨o,e⟩,st⟩:=x;exact⟨st _ _ p fun o q=>k _ _ (.inl rfl) q,⟨o,k _ _ (.inl rfl) e⟩,st⟩
theorem h_.lt (x:h_ P w H h)(e:H a=some o):a<h.objs.size:=(x a o e).lt
theorem h_.fresh (x:h_ P w H h)(e:h.objs.size<=a):H a=none:=by
 cases q:H a with
 |none=>rfl
 |some u=>exact absurd (JO (x.lt q) e) (Km _)
theorem h_.kept (x:h_ P w H h)(k:∀b u,h.get? b=some u->h'.get? b=some u):h_ P w H h':=fun a o e=>
 (x a o e).stay (fun b u _ q=>k b u q) (fun _ q=>q) fun _ _ q=>q
theorem h_.laid (x:h_ P w H h)(k:∀b u,h.get? b=some u->h'.get? b=some u)(f:h.objs.size<=a)(new:bM P w (upd H a o) h' a o):h_ P w (upd H a o) h':=fun b u e=>by
 have d:=x.fresh f
 by_cases hb:b=a
 ·subst hb;rw[ae] at e;cases e;exact new
 ·rw[ak hb] at e
  exact(x b u e).stay (fun c v _ q=>k c v q) (fun c q=>by rw[ak (ar q d)];exact q) fun c xs q=>by rw[ak (ar q d)];exact q
end
def Rd (H:Hp) (a:Addr) (u:HO):Prop:=H a=some u\/∃o,H a=some (.frz o u)
theorem Rd.ok(r:Rd H a u)(x:h_ P w H h):bM P w H h a u:=by
 rcases r with r|⟨o,r⟩
 ·exact x a u r
 ·obtain⟨_,q⟩:=x a _ r
  exact q
noncomputable def Co:Option HO->Prop
 |some (.lst _)=>True
 |some (.dK _)=>True
 |some (.dT _)=>True
 |some (.set _ _)=>True
 |some (.ins _ _ _)=>True
 |some (.ext _)=>True
 |_=>False
section
variable {P:Program} {w:World} {H:Hp} {h h':Heap} {x e:Addr} {o':HO}
theorem h_.write (ok:h_ P w H h)(f:Co (H x))(i:e=x\/H e=some (.own x))(k:∀b u,b≠e->h.get? b=some u->h'.get? b=some u)(g:∃u,h'.get? e=some u)
  (new:bM P w (upd H x o') h' x o'):h_ P w (upd H x o') h':=fun b u q=>by
 have a:∀c y,H c=some (.own y)->c≠x:=fun c y r z=>by subst z;rw[r] at f;exact f
 have d:∀c xs,H c=some (.tup xs)->c≠x:=fun c xs r z=>by subst z;rw[r] at f;exact f
 by_cases hb:b=x
 ·subst hb;rw[ae] at q;cases q;exact new
 ·rw[ak hb] at q
  by_cases hbe:b=e
  ·have j:H b=some (.own x):=by
    rcases i with z|z
    ·exact absurd (hbe.trans z) hb
    ·rw[hbe];exact z
   rw[q] at j;cases j
   obtain⟨v,l⟩:=g
   exact⟨v,by rw[hbe];exact l⟩
  ·refine(ok b u q).stay (fun c v hc r=>k c v ?_ r) (fun c r=>by rw[ak (a c b r)];exact r) fun c xs r=>by rw[ak (d c xs r)];exact r
   rcases hc with rfl|hc
   ·exact hbe
   ·rintro rfl
    rcases i with z|z
    ·exact a c b hc z
    ·rw[hc] at z;cases z;exact hb rfl
end
structure Un (fs ex:List Addr) (H H':Hp) (h h':Heap):Prop where
 keep:∀b o,h.get? b=some o->H b=none->b∉fs->b∉ex->h'.get? b=some o
 slot:∀b o,h.get? b=some o->H b=none->b∈fs->b∉ex->∃sl,h'.get? b=some {o with slots:=sl}
 free:∀b o,h.get? b=some o->H b=none->b∉ex->H' b=none
 there:∀b o,h.get? b=some o->b∉ex->∃o',h'.get? b=some o'
 tups:∀b xs,H b=some (.tup xs)->H' b=some (.tup xs)
 frzs:∀b o u,H b=some (.frz o u)->H' b=some (.frz o u)
 tbls:∀b ps,H b=some (.tbl ps)->∃more,H' b=some (.tbl (ps++more))
section
variable {fs fs' ex ex':List Addr} {H H1 H2:Hp} {h h1 h2 h':Heap} {a x e:Addr} {o:HO}
theorem Un.any (u:Un fs ex H H1 h h1){b:Addr}{a:Obj}(q:h.get? b=some a)(n:H b=none)(hx:b∉ex):∃c,h1.get? b=some {a with slots:=c}:=by
 by_cases hb:b∈fs
 ·exact u.slot b a q n hb hx
 ·exact⟨a.slots,u.keep b a q n hb hx⟩
theorem Un.kept (k:∀b u,h.get? b=some u->h'.get? b=some u):Un fs ex H H h h':=
 ⟨fun b a q _ _ _=>k b a q,fun b a q _ _ _=>⟨a.slots,k b a q⟩,fun _ _ _ n _=>n,fun b a q _=>⟨a,k b a q⟩,fun _ _ q=>q,fun _ _ _ q=>q,fun _ ps q=>⟨#[],by rw[q];simp⟩⟩
theorem Un.refl:Un fs ex H H h h:=Un.kept fun _ _ q=>q
theorem Un.laid (k:∀b u,h.get? b=some u->h'.get? b=some u)(d:h.objs.size<=a)(c:H a=none):Un fs ex H (upd H a o) h h' where
 keep:=fun b u q _ _ _=>k b u q
 slot:=fun b u q _ _ _=>⟨u.slots,k b u q⟩
 free:=fun b u q n _=>by rw[ak (Jw (JO (Jm q) d))];exact n
 there:=fun b u q _=>⟨u,k b u q⟩
 tups:=fun b xs q=>by rw[ak (ar q c)];exact q
 frzs:=fun b u xs q=>by rw[ak (ar q c)];exact q
 tbls:=fun b ps q=>⟨#[],by rw[ak (ar q c),q];simp⟩
theorem Un.write (a:Co (H x))(i:e=x\/H e=some (.own x))(k:∀b u,b≠e->h.get? b=some u->h'.get? b=some u)(d:∃u,h'.get? e=some u):Un fs ex H (upd H x o) h h':=by
 have g:∀b,H b=none->b≠x:=fun b n z=>by subst z;rw[n] at a;exact a
 have f:∀b,H b=none->b≠e:=fun b n z=>by
  subst z
  rcases i with r|r
  ·exact g b n r
  ·rw[n] at r;cases r
 have c:∀b u,H b=some u->¬Co (some u)->b≠x:=fun b u q nm z=>by subst z;rw[q] at a;exact nm a
 refine⟨fun b u q n _ _=>k b u (f b n) q,fun b u q n _ _=>⟨u.slots,k b u (f b n) q⟩,fun b u q n _=>by rw[ak (g b n)];exact n,fun b u q _=>?_,
  fun b xs q=>by rw[ak (c b _ q fun z=>z)];exact q,fun b u xs q=>by rw[ak (c b _ q fun z=>z)];exact q,fun b ps q=>⟨#[],by rw[ak (c b _ q fun z=>z),q];simp⟩⟩
 by_cases hbe:b=e
 ·subst hbe;exact d
 ·exact⟨u,k b u hbe q⟩
end
noncomputable def sy (h:Heap) (H:Hp):List Addr:=(List.range h.objs.size).filter fun a=>(H a).isSome
def pF (h:Heap) (H:Hp):Heap:=PySem.W.hideAll h (sy h H)
theorem wQ (h:Heap)(H:Hp):(pF h H).objs.size=h.objs.size:=PySem.W.hideAll_size _ _
theorem Bv(e:h.get? b=some o)(n:H b=none):(pF h H).get? b=some o:=
 PySem.W.hideAll_get _ e fun a=>by
  have q:(H b).isSome=true:=(Lu.mp a).2
  rw[n] at q;simp at q
theorem DH(e:(pF h H).get? b=some o):h.get? b=some o/\H b=none:=by
 have a:h.get? b=some o:=PySem.W.of_hideAll (sy h H) e
 refine⟨a,?_⟩
 cases q:H b with
 |none=>rfl
 |some x=>
  have c:b∈sy h H:=Lu.mpr ⟨Lv.mpr (Jm a),by simp[q]⟩
  have z:(pF h H).get? b=none:=PySem.W.hideAll_none (sy h H) c
  rw[z] at e;cases e
noncomputable def ip (g h:Heap) (L:Addr):List (Addr×Obj):=(List.range h.objs.size).filterMap fun a=>if a=L\/(g.get? a).isSome=true then none else (h.get? a).map fun o=>(a,o)
theorem fL{L:Addr}(h1:a≠L)(c:g.get? a=none)(b:h.get? a=some o):(a,o)∈ip g h L:=
 Kd.mpr ⟨a,Lv.mpr (Jm b),by simp[h1,c,b]⟩
theorem km{L:Addr}{p:Addr×Obj}(a:p∈ip g h L):p.1≠L/\g.get? p.1=none/\h.get? p.1=some p.2:=by
 obtain⟨b,_,e⟩:=Kd.mp a
 split at e
 ·cases e
 ·rename_i hn
  cases q:h.get? b with
  |none=>rw[q] at e;simp at e
  |some u=>
   rw[q] at e
   simp only[Li,Option.some.injEq] at e
   subst e
   refine⟨fun z=>hn (.inl z),?_,q⟩
   show g.get? b=none
   cases r:g.get? b with
   |none=>rfl
   |some v=>exact(hn (.inr (by simp[r]))).elim
noncomputable def rest (g h:Heap) (L d:Addr):List (Addr×Obj):=(ip g h L).filter fun p=>decide (p.1≠d)
theorem lE{L:Addr}:News g L h (ip g h L):=fun p d=>let ⟨a,b,c⟩:=km d;⟨c,a,b⟩
structure Mod (K:Je) (mg:Str->Option Value) (base:Heap):Prop where
 kin:K.In base
 glob:base.Ns mainGlobals mg
 blt:∃mb,base.Ns builtinsNs mb/\∀x:Str,x≠ "__name__" ->mb x=bootBuiltins x
 nolimit:base.NoLimit
structure Cx where
 prog:Program
 w:World
 K:Je
 mg:Str->Option Value
 base:Heap
 A:Around
 N:List Str
 s₀:Shared
 H₀:Hp
 env:Env
 outer:List Env
 stack:List Env
 ex:List Addr
 fn:Str->Bool
 calm:Bool
 pn:List (Addr×Obj)
 xe:Value->Shared->Prop
def zH (l:List Env):List Addr:=l.filterMap (·.frame)
abbrev Cx.fs (X:Cx):List Addr:=zH X.outer
def IA (a:Scope) (x:Str):Prop:=a.names.lookup x=some .local\/a.names.lookup x=some .cell\/a.names.lookup x=some .free
def Ge (a:Scope) (x:Str):Prop:=a.names.lookup x=some .local\/a.names.lookup x=some .cell
def HR (env:Env) (h:Heap) (m:Str->Option Value) (x:Str) (u:Value):Prop:=
 (env.kindOf x=some .local/\m x=some u)\/((env.kindOf x=some .cell\/env.kindOf x=some .free)/\∃c,env.cells.lookup x=some c/\h.IsCell c (some u))
structure Cx.Ok (X:Cx):Prop where
 mod:Mod X.K X.mg X.base
 kind:X.env.scope.kind=.function
 glob:X.env.globals=mainGlobals
 blt:X.env.builtins=builtinsNs
 above:X.s₀.heap.objs.size<=X.env.locals
 inj:∀x y c,X.env.cells.lookup x=some c->X.env.cells.lookup y=some c->x=y
 has:∀x,(X.env.kindOf x=some .cell\/X.env.kindOf x=some .free)->∃c,X.env.cells.lookup x=some c
 cab:∀x c,X.fn x=true->X.env.cells.lookup x=some c->X.s₀.heap.objs.size<=c
 hd:X.calm=true->X.A.handled=none
 frames:X.A.frames=some X.stack
 stk:X.stack=X.outer\/(X.stack=X.env::X.outer/\X.env.frame=some X.env.locals)
 exf:∀b∈X.ex,b≠X.env.locals/\∀x c,X.env.cells.lookup x=some c->c≠b
 bs:∀b o,X.base.get? b=some o->X.s₀.heap.get? b=some o/\X.H₀ b=none
 bsz:X.base.objs.size<=X.s₀.heap.objs.size
 noex:∀b o,X.base.get? b=some o->b∉X.ex
 exfs:∀b∈X.ex,b∉X.fs
 funs:X.s₀.heap.FunFrames X.base X.outer
 frf:∀b∈X.fs,X.H₀ b=none
structure aI (X:Cx) (pins:List (Addr×Obj)) (σ:List (Option V)) (H:Hp) (s:Shared):Prop where
 ok:X.Ok
 os:s.os=X.s₀.os
 bare:AllBare s.gens
 base:Un X.fs X.ex X.H₀ H X.s₀.heap s.heap
 loc:∃m,s.heap.Ns X.env.locals m/\∀(i:Nat) (x:Str) (v:V),X.N[i]?=some x->σ[i]?=some (some v)->IA X.env.scope x->∃u,aQ v u/\HR X.env s.heap m x u
 cell:∀x c,X.env.cells.lookup x=some c->∃v,s.heap.IsCell c v
 free:H X.env.locals=none
 freeC:∀x c,X.env.cells.lookup x=some c->H c=none
 pin:∀p∈X.pn++pins,s.heap.get? p.1=some p.2/\H p.1=none/\p.1≠X.env.locals/\p.1∉X.fs/\∀v,p.2.data≠.cell v
 hok:h_ X.prog X.w H s.heap
 len:σ.length=X.N.length
section
variable {X:Cx} {pins:List (Addr×Obj)} {σ:List (Option V)} {H H':Hp} {s:Shared} {h':Heap}
theorem Cx.Ok.nofr (ok:X.Ok){b:Addr}{o:Obj}(e:X.base.get? b=some o):b∉X.fs:=fun a=>by
 have:=(ok.funs.mem a).1
 rw[e] at this;cases this
theorem aI.bs (I:aI X pins σ H s):∀b o,X.base.get? b=some o->s.heap.get? b=some o/\H b=none:=fun b o e=>
 ⟨I.base.keep b o (I.ok.bs b o e).1 (I.ok.bs b o e).2 (I.ok.nofr e) (I.ok.noex b o e),I.base.free b o (I.ok.bs b o e).1 (I.ok.bs b o e).2 (I.ok.noex b o e)⟩
theorem aI.bk (I:aI X pins σ H s):∀b o,X.base.get? b=some o->s.heap.get? b=some o:=fun b o e=>(I.bs b o e).1
theorem aI.mod (I:aI X pins σ H s):Mod X.K X.mg X.base:=I.ok.mod
theorem aI.kIn (I:aI X pins σ H s):X.K.In s.heap:=I.ok.mod.kin.keeps I.bk
theorem aI.lt (I:aI X pins σ H s):X.env.locals<s.heap.objs.size:=let ⟨_,hn,_⟩:=I.loc;hn.lt
theorem aI.sz (I:aI X pins σ H s):X.s₀.heap.objs.size<=s.heap.objs.size:=Jn I.ok.above (Ky I.lt)
theorem aI.nofs (I:aI X pins σ H s){a:Addr}(h:s.heap.objs.size<=a):a∉X.fs:=fun b=>by
 obtain⟨_,o,c,_⟩:=I.ok.funs.mem b
 exact absurd (JO (Jm c) (Jn I.sz h)) (Km _)
theorem aI.cne (I:aI X pins σ H s):∀x c,X.env.cells.lookup x=some c->c≠X.env.locals:=fun x c e z=>by
 obtain⟨v,o,d,hd⟩:=I.cell x c e
 obtain⟨m,⟨o',es,ep,a,b,_⟩,_⟩:=I.loc
 rw[z,a] at d;cases d;rw[b] at hd;cases hd
theorem aI.funs (I:aI X pins σ H s):s.heap.FunFrames X.base X.outer:=by
 have all:∀(l:List Env),(∀b∈zH l,b∈X.fs)->X.s₀.heap.FunFrames X.base l->s.heap.FunFrames X.base l:=by
  intro l
  induction l with
  |nil=>intro _ _;trivial
  |cons env r ih=>
   intro f j
   obtain⟨g,⟨L,o,a,i,h,hd⟩,hr⟩:=j
   have c:L∈X.fs:=f L (by unfold zH;rw[Ke,a];exact Jp)
   obtain⟨m,e⟩:=I.base.slot L o h (I.ok.frf L c) c fun z=>I.ok.exfs L z c
   exact⟨g,⟨L,_,a,i,e,hd⟩,ih (fun b d=>f b (by unfold zH;rw[Ke,a];exact Jq _ d)) hr⟩
 exact all X.outer (fun _ d=>d) I.ok.funs
theorem aI.stack (I:aI X pins σ H s):s.heap.FunFrames X.base X.stack:=by
 rcases I.ok.stk with e|⟨e,b⟩
 ·rw[e];exact I.funs
 ·rw[e]
  obtain⟨m,a,_⟩:=I.loc
  refine .cons (by rw[I.ok.kind];decide) b a ?_ I.funs
  exact Lw (Jn I.ok.bsz I.ok.above)
theorem aI.stkSub (I:aI X pins σ H s):∀b∈zH X.stack,b∈X.env.locals::X.fs:=fun b a=>by
 rcases I.ok.stk with e|⟨e,c⟩
 ·rw[e] at a;exact Jq _ a
 ·rw[e] at a
  unfold zH at a
  rw[Ke,c] at a
  exact a
theorem aI.stkFree (I:aI X pins σ H s):∀b∈zH X.stack,H b=none:=fun b hb=>by
 rcases Jo.mp (I.stkSub b hb) with e|hb
 ·rw[e];exact I.free
 ·obtain⟨_,o,a,_⟩:=I.ok.funs.mem hb
  exact I.base.free b o a (I.ok.frf b hb) fun z=>I.ok.exfs b z hb
theorem aI.step {g':Array GenState}{t':Nat}{d':Drawn}{ch:List Addr}(I:aI X pins σ H s)
  (A:∀b∈ch,(b∈X.ex\/X.s₀.heap.objs.size<=b)/\b≠X.env.locals/\(∀x c,X.env.cells.lookup x=some c->c≠b)/\∀p∈X.pn++pins,p.1≠b)
  (keep:∀b o,b≠X.env.locals->b∉X.fs->b∉ch->s.heap.get? b=some o->H b=none->h'.get? b=some o)
  (C:∀b o,b≠X.env.locals->b∈X.fs->b∉ch->s.heap.get? b=some o->H b=none->∃M,h'.get? b=some {o with slots:=M}) (free:∀b o,b∉ch->s.heap.get? b=some o->H b=none->H' b=none)
  (there:∀b o,b∉ch->s.heap.get? b=some o->∃o',h'.get? b=some o')
  (tups:∀b xs,H b=some (.tup xs)->H' b=some (.tup xs)) (G:∀b o u,H b=some (.frz o u)->H' b=some (.frz o u)) (F:∀b ps,H b=some (.tbl ps)->∃more,H' b=some (.tbl (ps++more)))
  (ns:∀m,s.heap.Ns X.env.locals m->h'.Ns X.env.locals m) (K:h_ X.prog X.w H' h') (T:AllBare g'):
  aI X pins σ H' {s with heap:=h',gens:=g',drawn:=d',toks:=t'}:=by
 have h:∀b o,X.s₀.heap.get? b=some o->b≠X.env.locals:=fun b o e=>Jw (JO (Jm e) I.ok.above)
 have f:∀b o,X.s₀.heap.get? b=some o->b∉X.ex->b∉ch:=fun b o e y D=>by
  rcases(A b D).1 with z|z
  ·exact y z
  ·exact absurd (JO (Jm e) z) (Km _)
 have g:∀x c,X.env.cells.lookup x=some c->∀v,s.heap.IsCell c v->h'.IsCell c v:=fun x c e v ⟨o,E,hd⟩=>by
  have a:c∉ch:=fun z=>(A c z).2.2.1 x c e rfl
  by_cases hc:c∈X.fs
  ·obtain⟨M,q⟩:=C c o (I.cne x c e) hc a E (I.freeC x c e)
   exact⟨_,q,hd⟩
  ·exact⟨o,keep c o (I.cne x c e) hc a E (I.freeC x c e),hd⟩
 refine⟨I.ok,I.os,T,⟨fun b o e n D y=>?_,fun b o e n D y=>?_,fun b o e n y=>?_,fun b o e y=>?_,fun b xs e=>tups b xs (I.base.tups b xs e),fun b o xs e=>G b o xs (I.base.frzs b o xs e),fun b ps e=>?_⟩,?_,fun x c e=>?_,?_,fun x c e=>?_,fun p P=>?_,K,I.len⟩
 ·exact keep b o (h b o e) D (f b o e y) (I.base.keep b o e n D y) (I.base.free b o e n y)
 ·obtain⟨M,B⟩:=I.base.slot b o e n D y
  obtain⟨j,J⟩:=C b _ (h b o e) D (f b o e y) B (I.base.free b o e n y)
  exact⟨j,J⟩
 ·obtain⟨o',B⟩:=I.base.there b o e y
  exact free b o' (f b o e y) B (I.base.free b o e n y)
 ·obtain⟨o',B⟩:=I.base.there b o e y
  exact there b o' (f b o e y) B
 ·obtain⟨S,B⟩:=I.base.tbls b ps e
  obtain⟨R,J⟩:=F b _ B
  exact⟨S++R,by rw[J,Array.append_assoc]⟩
 ·obtain⟨m,U,W⟩:=I.loc
  refine⟨m,ns m U,fun i x v B J Q=>?_⟩
  obtain⟨u,r,l⟩:=W i x v B J Q
  refine⟨u,r,?_⟩
  rcases l with l|⟨k,c,e,z⟩
  ·exact .inl l
  ·exact .inr ⟨k,c,e,g x c e _ z⟩
 ·obtain⟨v,z⟩:=I.cell x c e
  exact⟨v,g x c e v z⟩
 ·obtain⟨m,⟨o,_,_,E,_⟩,_⟩:=I.loc
  exact free _ o (fun z=>(A _ z).2.1 rfl) E I.free
 ·obtain⟨v,o,E,hd⟩:=I.cell x c e
  exact free c o (fun z=>(A c z).2.2.1 x c e rfl) E (I.freeC x c e)
 ·obtain⟨e,n,N,O,d⟩:=I.pin p P
  have a:p.1∉ch:=fun z=>(A p.1 z).2.2.2 p P rfl
  exact⟨keep p.1 p.2 N O a e n,free p.1 p.2 a e n,N,O,d⟩
theorem aI.un(I:aI X pins σ H s)(u:Un X.fs [] H H' s.heap h')(g:h_ X.prog X.w H' h'):aI X pins σ H' {s with heap:=h',toks:=t'}:=by
 obtain⟨m,⟨o,es,ep,h,r⟩,_⟩:=id I.loc
 obtain⟨p,i⟩:=u.any h I.free (by simp)
 exact I.step (g':=s.gens) (d':=s.drawn) (ch:=[]) (fun _ z=>nomatch z) (fun b o _ f _ e n=>u.keep b o e n f (by simp)) (fun b o _ f _ e n=>u.slot b o e n f (by simp)) (fun b o _ e n=>u.free b o e n (by simp)) (fun b o _ e=>u.there b o e (by simp)) u.tups u.frzs u.tbls (fun q j=>by
  obtain⟨o',c,d,a,l⟩:=j
  rw[h] at a;cases a
  exact⟨_,c,d,i,l⟩) g I.bare
theorem aI.call {g':Array GenState}{d':Drawn}(I:aI X pins σ H s)(u:Un (zH X.stack) ch H H' s.heap h')(j:h_ X.prog X.w H' h')(A:AllBare g')
  (h:∀b∈ch,(b∈X.ex\/X.s₀.heap.objs.size<=b)/\b≠X.env.locals/\(∀x c,X.env.cells.lookup x=some c->c≠b)/\∀p∈X.pn++pins,p.1≠b):
  aI X pins σ H' {s with heap:=h',gens:=g',drawn:=d',toks:=t'}:=by
 obtain⟨m,⟨o,es,ep,l,r⟩,_⟩:=id I.loc
 obtain⟨B,i⟩:=u.any l I.free fun z=>(h _ z).2.1 rfl
 exact I.step (ch:=ch) h (fun b o i q g e n=>u.keep b o e n (fun z=>(Jo.mp (I.stkSub b z)).elim i q) g) (fun b o _ _ g e n=>u.any e n g) (fun b o g e n=>u.free b o e n g) (fun b o g e=>u.there b o e g) u.tups u.frzs u.tbls (fun C v=>by
  obtain⟨o',d,f,a,y⟩:=v
  rw[l] at a;cases a
  exact⟨_,d,f,i,y⟩) j A
theorem aI.turned{it:Addr}(I:aI X pins σ H s)(k:∀b o,b≠it->s.heap.get? b=some o->h'.get? b=some o)(j:H it=none)(f:it≠X.env.locals)
  (h1:it∈X.ex\/X.s₀.heap.objs.size<=it) (w:∀x c,X.env.cells.lookup x=some c->c≠it) (h:∀p∈X.pn++pins,p.1≠it):aI X pins σ H {s with heap:=h',toks:=t'}:=by
 have a:∀b u,H b=some u->b≠it:=fun b u e z=>by rw[z,j] at e;cases e
 refine I.step (g':=s.gens) (d':=s.drawn) (ch:=[it]) (fun b i=>?_) (fun b o _ _ d e _=>k b o (fun z=>d (by simp[z])) e) (fun b o _ _ d e _=>⟨o.slots,k b o (fun z=>d (by simp[z])) e⟩) (fun _ _ _ _ n=>n)
  (fun b o d e=>⟨o,k b o (fun z=>d (by simp[z])) e⟩) (fun _ _ e=>e) (fun _ _ _ e=>e) (fun b ps e=>⟨#[],by rw[e];simp⟩) (fun m l=>?_) (fun b u e=>?_) I.bare
 ·have e:b=it:=by simpa using i
  subst e
  exact⟨h1,f,w,h⟩
 ·obtain⟨o,es,ep,g,r⟩:=l
  exact⟨o,es,ep,k _ o (JH f) g,r⟩
 ·refine(I.hok b u e).stay (fun c v d q=>k c v ?_ q) (fun _ q=>q) fun _ _ q=>q
  rcases d with z|z
  ·rw[z];exact a b u e
  ·exact a c _ z
theorem aI.tok (I:aI X pins σ H s)(t:Nat):aI X pins σ H {s with toks:=t}:=I.un (h':=s.heap) (t':=t) Un.refl I.hok
theorem aI.kept(I:aI X pins σ H s)(k:∀b u,s.heap.get? b=some u->h'.get? b=some u):aI X pins σ H {s with heap:=h',toks:=t'}:=I.un (Un.kept k) (I.hok.kept k)
theorem aI.laid(I:aI X pins σ H s)(k:∀b u,s.heap.get? b=some u->h'.get? b=some u)(c:s.heap.objs.size<=a)(new:bM X.prog X.w (upd H a o) h' a o):
  aI X pins σ (upd H a o) {s with heap:=h',toks:=t'}:=I.un (Un.laid k c (I.hok.fresh c)) (I.hok.laid k c new)
theorem aI.write(I:aI X pins σ H s)(c:Co (H x))(d:e=x\/H e=some (.own x))(k:∀b u,b≠e->s.heap.get? b=some u->h'.get? b=some u)(a:∃u,h'.get? e=some u)
  (new:bM X.prog X.w (upd H x o) h' x o):aI X pins σ (upd H x o) {s with heap:=h',toks:=t'}:=I.un (Un.write c d k a) (I.hok.write c d k a new)
theorem aI.pins_of {a:List (Addr×Obj)}(I:aI X pins σ H s)(h:∀p∈a,s.heap.get? p.1=some p.2/\H p.1=none/\p.1≠X.env.locals/\p.1∉X.fs/\∀v,p.2.data≠.cell v):aI X a σ H s:=
 ⟨I.ok,I.os,I.bare,I.base,I.loc,I.cell,I.free,I.freeC,fun p b=>(Jz.mp b).elim (fun z=>I.pin p (K4 _ z)) (h p),I.hok,I.len⟩
theorem rH {N:List Str}(c:N.Nodup){i j:Nat}{x:Str}(a:N[i]?=some x)(b:N[j]?=some x):i=j:=by
 obtain⟨h1,d⟩:=JE.mp a
 obtain⟨h2,e⟩:=JE.mp b
 exact(List.getElem_inj c).mp (d.trans e.symm)
theorem mO{Q:Unit->Shared->Prop}(I:aI X pins σ H s)(hN:X.N.Nodup)(P:X.N[i]?=some x)(hx:Ge X.env.scope x)(r:aQ v u)
  (h:∀s',aI X pins (σ.set i (some v)) H s'->(∃a,Heap.SameBut a s.heap s'.heap/\(a=X.env.locals\/X.env.cells.lookup x=some a))->Q () s') (hf:X.fn x=true\/X.env.scope.names.lookup x=some .local):wpAny M A (storeName X.env x u) Q E s:=by
 obtain⟨m,hn,hl⟩:=id I.loc
 have C:(X.env.scope.kind==.class||(X.env.scope.kind==.module&&X.env.locals !=X.env.globals))=false:=by rw[I.ok.kind];rfl
 have w:i<σ.length:=by rw[I.len];exact(JE.mp P).1
 have cne:=I.cne
 have f:∀{a:Addr} {h':Heap},(∃o,s.heap.get? a=some o/\H a=none)->Heap.SameBut a s.heap h'->h_ X.prog X.w H h':=fun{a h'} ha G b ob e=>by
  obtain⟨_,_,g⟩:=ha
  refine(I.hok b ob e).stay (fun c S hc q=>(G.2 c ?_).trans q) (fun _ q=>q) fun _ _ q=>q
  rintro rfl
  rcases hc with rfl|hc
  ·rw[g] at e;cases e
  ·rw[g] at hc;cases hc
 rcases hx with hk|hk
 ·refine wpAny_storeName_local hk hn (fun h' ac G=>?_) C
  obtain⟨oL,_,_,F,_⟩:=id hn
  refine h _ ⟨I.ok,I.os,I.bare,⟨fun b o e n O hx=>?_,fun b o e n O hx=>?_,I.base.free,fun b o e hx=>?_,I.base.tups,I.base.frzs,I.base.tbls⟩,⟨_,ac,fun j y Y J K W=>?_⟩,fun y c e=>?_,I.free,I.freeC,fun p hp=>?_,f ⟨oL,F,I.free⟩ G,by simpa using I.len⟩ ⟨_,G,.inl rfl⟩
  ·exact(G.2 b (Jw (JO (Jm e) I.ok.above))).trans (I.base.keep b o e n O hx)
  ·obtain⟨Z,J⟩:=I.base.slot b o e n O hx
   exact⟨Z,(G.2 b (Jw (JO (Jm e) I.ok.above))).trans J⟩
  ·obtain⟨o',J⟩:=I.base.there b o e hx
   exact⟨o',(G.2 b (Jw (JO (Jm e) I.ok.above))).trans J⟩
  ·by_cases hj:j=i
   ·subst hj
    rw[P] at J;cases J
    rw[List.getElem?_set_self w] at K
    cases K
    exact⟨u,r,.inl ⟨hk,by simp⟩⟩
   ·rw[List.getElem?_set_ne (JH hj)] at K
    obtain⟨u',r',q⟩:=hl j y Y J K W
    refine⟨u',r',?_⟩
    rcases q with ⟨k,e⟩|⟨k,c,e,z⟩
    ·refine .inl ⟨k,?_⟩
     have:y≠x:=fun e=>hj (rH hN J (e▸P))
     simp[this,e]
    ·exact .inr ⟨k,c,e,z.sameBut G (cne y c e)⟩
  ·obtain⟨S,z⟩:=I.cell y c e
   exact⟨S,z.sameBut G (cne y c e)⟩
  ·obtain⟨e,n,T,nf,d⟩:=I.pin p hp
   exact⟨(G.2 p.1 T).trans e,n,T,nf,d⟩
 ·have l:X.fn x=true:=by
   rcases hf with z|z
   ·exact z
   ·rw[z] at hk;cases hk
  obtain⟨c,hc⟩:=I.ok.has x (.inl hk)
  obtain⟨S,z⟩:=I.cell x c hc
  refine wpAny_storeName_cell I.ok.kind hk hc z (fun h' R G=>?_)
  obtain⟨oc,B,D⟩:=id z
  refine h {s with heap:=h'} ⟨I.ok,I.os,I.bare,⟨fun b o e n O hx=>?_,fun b o e n O hx=>?_,I.base.free,fun b o e hx=>?_,I.base.tups,I.base.frzs,I.base.tbls⟩,⟨m,hn.sameBut G (JH (cne x c hc)),fun j y Y J K W=>?_⟩,fun y U e=>?_,I.free,I.freeC,fun p hp=>?_,f ⟨oc,B,I.freeC x c hc⟩ G,by simpa using I.len⟩ ⟨c,G,.inr hc⟩
  ·exact(G.2 b (Jw (JO (Jm e) (I.ok.cab x c l hc)))).trans (I.base.keep b o e n O hx)
  ·obtain⟨Z,J⟩:=I.base.slot b o e n O hx
   exact⟨Z,(G.2 b (Jw (JO (Jm e) (I.ok.cab x c l hc)))).trans J⟩
  ·obtain⟨o',J⟩:=I.base.there b o e hx
   exact⟨o',(G.2 b (Jw (JO (Jm e) (I.ok.cab x c l hc)))).trans J⟩
  ·by_cases hj:j=i
   ·subst hj
    rw[P] at J;cases J
    rw[List.getElem?_set_self w] at K
    cases K
    exact⟨u,r,.inr ⟨.inl hk,c,hc,R⟩⟩
   ·rw[List.getElem?_set_ne (JH hj)] at K
    obtain⟨u',r',q⟩:=hl j y Y J K W
    refine⟨u',r',?_⟩
    rcases q with q|⟨k,U,e,z'⟩
    ·exact .inl q
    ·refine .inr ⟨k,U,e,z'.sameBut G ?_⟩
     rintro rfl
     exact hj (rH hN J (I.ok.inj _ _ _ e hc▸P))
  ·by_cases hcc:U=c
   ·subst hcc;exact⟨_,R⟩
   ·obtain⟨w2,z2⟩:=I.cell y U e
    exact⟨w2,z2.sameBut G hcc⟩
  ·obtain⟨e,n,T,nf,d⟩:=I.pin p hp
   refine⟨(G.2 p.1 ?_).trans e,n,T,nf,d⟩
   intro q
   rw[q,B] at e
   have q':oc=p.2:=Option.some.inj e
   exact d S (by rw[<-q'];exact D)
theorem qL{Q:Unit->Shared->Prop}(I:aI X pins σ H s)(b:X.N.Nodup)(a:X.N[i]?=some x)(hx:Ge X.env.scope x)(r:aQ v u)
  (h:∀s',aI X pins (σ.set i (some v)) H s'->Q () s') (c:X.fn x=true\/X.env.scope.names.lookup x=some .local):wpAny M A (storeName X.env x u) Q E s:=
 mO I b a hx r (fun s' I' _=>h s' I') c
theorem aI.call'(I:aI X pins σ H s)(i:s'.os=s.os)(u:Un (zH X.stack) ch H H' s.heap s'.heap)(a:h_ X.prog X.w H' s'.heap)(j:AllBare s'.gens)
  (d:∀b∈ch,(b∈X.ex\/X.s₀.heap.objs.size<=b)/\b≠X.env.locals/\(∀x c,X.env.cells.lookup x=some c->c≠b)/\∀p∈X.pn++pins,p.1≠b):aI X pins σ H' s':=by
 obtain⟨h',h,f,g,o'⟩:=s'
 have e:o'=s.os:=i
 subst e
 exact I.call (g':=h) (t':=g) (d':=f) u a j d
end
abbrev XK:=Value->Option Addr->Hp->Prop
abbrev St:=List (Option V)
abbrev VK:=V->Hp->Prop
abbrev TE:=St->Hp->VK->Prop
abbrev TT:=St->Hp->(Bool->Hp->Prop)->Prop
abbrev TA:=St->Hp->(List V->Hp->Prop)->Prop
structure fJ where
 nx:St->Hp->Prop
 rt:VK
 bk:St->Hp->Prop:=fun _ _=>False
 ct:St->Hp->Prop:=fun _ _=>False
abbrev TS:=fJ->St->Hp->Prop
def EP (X:Cx) (a:List (Addr×Obj)) (c:St) (Q:VK) (u:Value) (b:Shared):Prop:=∃v H',aI X a c H' b/\aQ v u/\Q v H'
def TP (X:Cx) (a:List (Addr×Obj)) (d:St) (Q:Bool->Hp->Prop) (b:Bool) (c:Shared):Prop:=∃H',aI X a d H' c/\Q b H'
def AP (X:Cx) (a:List (Addr×Obj)) (c:St) (Q:List V->Hp->Prop) (us:List Value) (b:Shared):Prop:=∃vs H',aI X a c H' b/\aS vs us/\Q vs H'
def SP (X:Cx) (b:List (Addr×Obj)) (D:fJ) (f:Flow) (c:Shared):Prop:=
 match f with
 | .next=>∃a H',aI X b a H' c/\D.nx a H'
 | .brk=>∃a H',aI X b a H' c/\D.bk a H'
 | .cont=>∃a H',aI X b a H' c/\D.ct a H'
 | .ret u=>∃v a H',aI X b a H' c/\aQ v u/\D.rt v H'
def PE (X:Cx) (e:Expr) (t:TE):Prop:=
 ∀(pins:List (Addr×Obj)) (s:Shared) (σ:St) (H:Hp) (Q:VK),aI X pins σ H s->t σ H Q->wpAny (model X.prog X.w) X.A (eval e X.env) (EP X pins σ Q) X.xe s
def PT (X:Cx) (e:Expr) (t:TT):Prop:=
 ∀(pins:List (Addr×Obj)) (s:Shared) (σ:St) (H:Hp) (Q:Bool->Hp->Prop),aI X pins σ H s->t σ H Q->wpAny (model X.prog X.w) X.A (isTrue e X.env (eval e X.env)) (TP X pins σ Q) X.xe s
def PW (X:Cx) (e:Expr) (t:TT):Prop:=
 ∀(a:Sem Value) (pins:List (Addr×Obj)) (s:Shared) (σ:St) (H:Hp) (Q:Bool->Hp->Prop),aI X pins σ H s->t σ H Q->wpAny (model X.prog X.w) X.A (isTrue e X.env a) (TP X pins σ Q) X.xe s
theorem PW.pt(h:PW X e t):PT X e t:=h _
def PA (X:Cx) (es:List Expr) (t:TA):Prop:=
 ∀(pos:Pos) (pins:List (Addr×Obj)) (s:Shared) (σ:St) (H:Hp) (Q:List V->Hp->Prop),aI X pins σ H s->t σ H Q->wpAny (model X.prog X.w) X.A (spliced (backTo pos (starEach es X.env))) (AP X pins σ Q) X.xe s
def PS (X:Cx) (st:Stmt) (t:TS):Prop:=
 ∀(pins:List (Addr×Obj)) (s:Shared) (σ:St) (H:Hp) (D:fJ),aI X pins σ H s->t D σ H->wpAny (model X.prog X.w) X.A (exec st X.env) (SP X pins D) X.xe s
def mh (X:Cx) (st:List Stmt) (t:TS):Prop:=
 ∀(pins:List (Addr×Obj)) (s:Shared) (σ:St) (H:Hp) (D:fJ),aI X pins σ H s->t D σ H->wpAny (model X.prog X.w) X.A (execs st X.env) (SP X pins D) X.xe s
theorem bZ {b:Type}{t:Sem b}{Q c:b->Shared->Prop}(h:wpAny M A t Q E s)(d:∀a s,Q a s->c a s):wpAny M A t c E s:=JU h d fun _ _ x=>x
section
variable {X:Cx}
theorem HU(q:PE X a ta)(p:PE X b tb){c:List (Addr×Obj)}{s:Shared}{d:St}{H:Hp}{R:V->V->Hp->Prop}(I:aI X c d H s)(h:ta d H fun x H1=>tb d H1 fun y H2=>R x y H2)
  {j:Type} {Q:j->Shared->Prop} {f:Value->Value->Sem j}
  (l:∀v u i x y H2,aI X c d H2 i->aQ x v->aQ y u->R x y H2->wpAny (model X.prog X.w) X.A (f v u) Q X.xe i):
  wpAny (model X.prog X.w) X.A (eval a X.env) (fun v e=>wpAny (model X.prog X.w) X.A (eval b X.env) (fun u g=>wpAny (model X.prog X.w) X.A (f v u) Q X.xe g) X.xe e) X.xe s:=by
 refine bZ (q c s d H _ I h) fun v m ⟨x,H1,I1,z,o⟩=>?_
 refine bZ (p c m d H1 _ I1 o) fun u i ⟨y,H2,I2,n,r⟩=>?_
 exact l v u i x y H2 I2 z n r
def dE (i:Nat):TE:=fun σ H Q=>∃v,σ[i]?=some (some v)/\Q v H
def tC (v:V):TE:=fun _ H Q=>Q v H
theorem FU(g:X.N[i]?=some x)(j:IA X.env.scope x)(hd:(x==("__debug__" :Str))=false:=by decide)(d:(x==("__classdict__" :Str))=false:=by decide):PE X (.Name x pos) (dE i):=by
 intro pins s σ H Q I h
 obtain⟨v,e,h⟩:=h
 obtain⟨m,o,p⟩:=I.loc
 obtain⟨u,r,l⟩:=p i x v g e j
 have a:EP X pins σ Q u s:=⟨v,H,I,r,h⟩
 rcases l with ⟨hk,n⟩|⟨hk,c,f,b⟩
 ·exact wpAny_Name (wpAny_loadName_local I.ok.kind hk o n a) hd
 ·rcases hk with hk|hk
  ·exact wpAny_Name (wpAny_loadName_cell I.ok.kind hk f b a) hd
  ·exact wpAny_Name (wpAny_loadName_free I.ok.kind hk f b a d) hd
theorem ag {i j pos}:PE X (.Constant (.int i) j pos) (tC (.int i)):=fun _ _ _ H _ I h=>wpAny_Constant_int ⟨.int i,H,I.tok _,⟨_,rfl⟩,h⟩
theorem dH {b j pos}:PE X (.Constant (.bool b) j pos) (tC (.bl b)):=fun _ _ _ H _ I h=>Constant_bool ⟨.bl b,H,I,rfl,h⟩
theorem bR {j pos}:PE X (.Constant .none j pos) (tC .non):=fun _ _ _ H _ I h=>Constant_none ⟨.non,H,I,rfl,h⟩
theorem aL {x j pos}:PE X (.Constant (.str x) j pos) (tC (.str x)):=fun _ _ _ H _ I h=>Calls.Constant_str ⟨.str x,H,I.tok _,⟨_,rfl⟩,h⟩
def Gl (X:Cx) (x:Str):Prop:=X.env.kindOf x=some .globalImplicit
theorem n8{a:List (Addr×Obj)}(I:aI X a σ H s)(c:Gl X x)(b:X.mg x=some u)(h:Q u s)
  (hd:(x==("__debug__" :Str))=false:=by decide):wpAny (model X.prog X.w) X.A (eval (.Name x pos) X.env) Q E s:=
 Calls.Name_function_global I.ok.kind c (Calls.loadGlobal_global (by rw[I.ok.glob];exact I.mod.glob.keeps I.bk) b h) hd
theorem gF{a:List (Addr×Obj)}(I:aI X a σ H s)(e:Gl X x)(b:X.mg x=none)(d:bootBuiltins x=some u)(h:Q u s)
  (c:x≠ "__name__" :=by decide) (hd:(x==("__debug__" :Str))=false:=by decide):wpAny (model X.prog X.w) X.A (eval (.Name x pos) X.env) Q E s:=by
 obtain⟨f,h1,h2⟩:=I.mod.blt
 exact Calls.Name_function_global I.ok.kind e (Calls.loadGlobal_builtin (by rw[I.ok.glob];exact I.mod.glob.keeps I.bk) b (by rw[I.ok.blt];exact h1.keeps I.bk) ((h2 x c).trans d) h) hd
theorem uB(b:Gl X x)(a:X.mg x=some u)(r:aQ v u)(hd:(x==("__debug__" :Str))=false:=by decide):PE X (.Name x pos) (tC v):=
 fun _ _ _ H _ I h=>n8 I b a ⟨v,H,I,r,h⟩ hd
theorem eg(d:Gl X x)(a:X.mg x=none)(c:bootBuiltins x=some u)(r:aQ v u)(b:x≠ "__name__" :=by decide)(hd:(x==("__debug__" :Str))=false:=by decide):PE X (.Name x pos) (tC v):=
 fun _ _ _ H _ I h=>gF I d a c ⟨v,H,I,r,h⟩ b hd
variable {a b:Expr} {ta tb:TE} {pos:Pos}
def PC (X:Cx) (e:CmpOp) (a b:Expr) (t:TE):Prop:=
 ∀(pins:List (Addr×Obj)) (s:Shared) (σ:St) (H:Hp) (Q:VK),aI X pins σ H s->t σ H Q->
  wpAny (model X.prog X.w) X.A (eval a X.env) (fun v d=>wpAny (model X.prog X.w) X.A (eval b X.env) (fun u c=>wpAny (model X.prog X.w) X.A (compareOp e v u) (EP X pins σ Q) X.xe c) X.xe d) X.xe s
def tB (t:TE):TT:=fun σ H Q=>t σ H fun x H1=>∃c,x=.bl c/\Q c H1
theorem FB(h:PC X op a b t)(h1:behindInMarks op b=false:=by rfl):PE X (.Compare a [op] [b] pos) t:=fun pins s σ H Q I c=>wpAny_Compare1 (h pins s σ H Q I c) h1
theorem An(h:PC X op a b t)(h1:behindInMarks op b=false:=by rfl):PT X (.Compare a [op] [b] pos) (tB t):=by
 intro pins s σ H Q I e
 refine wpAny_isTrue_Compare1 (bZ (h pins s σ H _ I e) fun v i h1=>bZ h1 fun u l h2=>bZ h2 fun c j ⟨x,H1,I1,g,f⟩=>?_) h1
 obtain⟨d,rfl,q⟩:=f
 cases g
 exact Kn ⟨H1,I1,q⟩
theorem cJ(h:PE X e t)(c:∀a,isTrue e X.env a=(do let v<-a;standAt e.pos;holding [v] (truthy v)):=by intro _;rfl):PT X e (tB t):=by
 intro pins s σ H Q I b
 refine isTrue_plain (bZ (h pins s σ H _ I b) fun v i ⟨x,H1,I1,g,f⟩=>?_) (c _)
 obtain⟨d,rfl,q⟩:=f
 cases g
 exact Kn ⟨H1,I1,q⟩
variable {tA tB':TT} {rest:List Expr}
def Gi (t u:TT):TT:=fun σ H Q=>t σ H fun c H1=>if c=true then u σ H1 Q else Q false H1
def Fs (t u:TT):TT:=fun σ H Q=>t σ H fun c H1=>if c=true then Q true H1 else u σ H1 Q
def wk (t:TT):TT:=fun σ H Q=>t σ H fun c H1=>Q (!c) H1
theorem oG (b:PT X a tA):PW X (.BoolOp .And [a] pos) tA:=by
 intro f pins s σ H Q I h
 refine isTrue_and (bZ (b pins s σ H Q I h) fun c d e=>?_)
 cases c with
 |true=>exact isTrue_and_nil e
 |false=>exact e
theorem dr (b:PT X a tA):PW X (.BoolOp .Or [a] pos) tA:=by
 intro f pins s σ H Q I h
 refine isTrue_or (bZ (b pins s σ H Q I h) fun c d e=>?_)
 cases c with
 |false=>exact isTrue_or_nil e
 |true=>exact e
theorem ud (f:PT X a tA)(e:PW X (.BoolOp .And (b::rest) pos) tB'):PW X (.BoolOp .And (a::b::rest) pos) (Gi tA tB'):=by
 intro i pins s σ H Q I h
 refine isTrue_and (bZ (f pins s σ H _ I h) fun c g ⟨H1,I1,d⟩=>?_)
 cases c with
 |true=>exact e i pins g σ H1 Q I1 d
 |false=>exact⟨H1,I1,d⟩
theorem eU (f:PT X a tA)(e:PW X (.BoolOp .Or (b::rest) pos) tB'):PW X (.BoolOp .Or (a::b::rest) pos) (Fs tA tB'):=by
 intro i pins s σ H Q I h
 refine isTrue_or (bZ (f pins s σ H _ I h) fun c g ⟨H1,I1,d⟩=>?_)
 cases c with
 |true=>exact⟨H1,I1,d⟩
 |false=>exact e i pins g σ H1 Q I1 d
theorem bY (b:PT X a tA):PT X (.UnaryOp .Not a pos) (wk tA):=by
 intro pins s σ H Q I h
 exact isTrue_not (b pins s σ H (fun c H1=>Q (!c) H1) I h)
def Eo (ta a:TE):TE:=fun σ H Q=>ta σ H fun x H1=>∃c,x=.bl c/\if c=true then a σ H1 Q else Q (.bl false) H1
def GX (ta a:TE):TE:=fun σ H Q=>ta σ H fun x H1=>∃c,x=.bl c/\if c=true then Q (.bl true) H1 else a σ H1 Q
def D8 (ta:TE):TE:=fun σ H Q=>ta σ H fun x H1=>∃c,x=.bl c/\Q (.bl (!c)) H1
theorem kx {op}{t:TE}(h:PE X a t):PE X (.BoolOp op [a] pos) t:=fun pins s σ H Q I b=>BoolOp_one (h pins s σ H Q I b)
theorem jE (f:PE X a ta)(e:PE X (.BoolOp .And (b::rest) pos) tb):PE X (.BoolOp .And (a::b::rest) pos) (Eo ta tb):=by
 intro pins s σ H Q I h
 refine BoolOp_and (bZ (f pins s σ H _ I h) fun v g ⟨x,H1,I1,i,d⟩=>?_)
 obtain⟨c,rfl,d⟩:=d
 cases i
 refine Kn ?_
 cases c with
 |true=>exact e pins g σ H1 Q I1 d
 |false=>exact⟨.bl false,H1,I1,rfl,d⟩
theorem Hb (f:PE X a ta)(e:PE X (.BoolOp .Or (b::rest) pos) tb):PE X (.BoolOp .Or (a::b::rest) pos) (GX ta tb):=by
 intro pins s σ H Q I h
 refine BoolOp_or (bZ (f pins s σ H _ I h) fun v g ⟨x,H1,I1,i,d⟩=>?_)
 obtain⟨c,rfl,d⟩:=d
 cases i
 refine Kn ?_
 cases c with
 |false=>exact e pins g σ H1 Q I1 d
 |true=>exact⟨.bl true,H1,I1,rfl,d⟩
theorem Af (d:PE X a ta):PE X (.UnaryOp .Not a pos) (D8 ta):=by
 intro pins s σ H Q I h
 refine UnaryOp_ (bZ (d pins s σ H _ I h) fun v f ⟨x,H1,I1,e,b⟩=>?_)
 obtain⟨c,rfl,b⟩:=b
 cases e
 exact not_of (Kn ⟨.bl (!c),H1,I1,rfl,b⟩)
def IK (t:TT) (ta a:TE):TE:=fun σ H Q=>t σ H fun c H1=>if c=true then ta σ H1 Q else a σ H1 Q
theorem fz(g:PT X c tA)(j:PE X a ta)(i:PE X b tb):PE X (.IfExp c a b pos) (IK tA ta tb):=by
 intro pins s σ H Q I h
 refine wpAny_IfExp (bZ (g pins s σ H _ I h) fun d e ⟨H1,I1,f⟩=>?_)
 cases d with
 |true=>exact j pins e σ H1 Q I1 f
 |false=>exact i pins e σ H1 Q I1 f
end
def aH (K:Je) (H:Hp) (a:Addr) (xs:List V):Prop:=
 Rd H a (.lst xs)\/
  ∃(o:Obj) (b:Array Value) (n:Nat),K.lookup a=some o/\o.cls=.type "list" /\o.dict=none/\o.data=.seq b n/\b.size<=sizeLine/\aS xs b.toList
def cn (K:Je) (H:Hp) (a:Addr) (xs:List V):Prop:=
 Rd H a (.tup xs)\/
  ∃(o:Obj) (b:Array Value) (n:Nat),K.lookup a=some o/\o.cls=.type "tuple" /\o.data=.seq b n/\b.size<=sizeLine/\aS xs b.toList
noncomputable def HQ:Value->Option V
 | .none=>some .non
 | .bool b=>some (.bl b)
 | .int i _=>some (.int i)
 | .str x _=>some (.str x)
 | .bytes b _=>some (.byt b)
 | .float b _=>some (.flt b)
 | .ref a=>some (.ref a)
 | .type n=>some (.ty n)
 |_=>none
theorem aQ.abs(r:aQ x u):HQ u=some x:=by
 cases x with
 |non=>cases r;rfl
 |bl _=>cases r;rfl
 |int _=>obtain⟨t,rfl⟩:=r;rfl
 |str _=>obtain⟨t,rfl⟩:=r;rfl
 |byt _=>obtain⟨t,rfl⟩:=r;rfl
 |flt _=>obtain⟨t,rfl⟩:=r;rfl
 |ref _=>cases r;rfl
 |ty _=>cases r;rfl
theorem aQ.inj(r:aQ x u)(q:aQ y u):x=y:=Option.some.inj (r.abs.symm.trans q.abs)
theorem aS.inj:∀{xs ys:List V} {us:List Value},aS xs us->aS ys us->xs=ys
 |_,_,_,.nil,.nil=>rfl
 |_,_,_,.cons r t,.cons r' t'=>by rw[r.inj r',aS.inj t t']
section
variable {X:Cx} {pins:List (Addr×Obj)} {σ:St} {H:Hp} {s:Shared} {a:Addr} {xs ys:List V}
theorem aH.of {K:Je}(h:H a=some (.lst xs)):aH K H a xs:=.inl (.inl h)
theorem cn.of {K:Je}(h:H a=some (.tup xs)):cn K H a xs:=.inl (.inl h)
theorem aI.list (I:aI X pins σ H s)(h:aH X.K H a xs):∃b:List Value,aS xs b/\PlainL s.heap a b.toArray/\xs.length<=sizeLine:=by
 rcases h with h|⟨o,b,n,d,c,hd,f,g,r⟩
 ·obtain⟨z,b,n,r,e⟩:=h.ok I.hok
  exact⟨b,r,⟨_,n,e,rfl,rfl,rfl⟩,z⟩
 ·refine⟨b.toList,r,⟨o,n,I.kIn a o d,c,hd,by simpa using f⟩,?_⟩
  have e:=r.length
  simp only[JD] at e
  omega
theorem aI.tuple (I:aI X pins σ H s)(h:cn X.K H a xs):∃b:List Value,aS xs b/\IsTup s.heap a b.toArray/\xs.length<=sizeLine:=by
 rcases h with h|⟨o,b,n,c,f,d,g,r⟩
 ·obtain⟨z,b,r,p⟩:=h.ok I.hok
  exact⟨b,r,p,z⟩
 ·refine⟨b.toList,r,⟨o,I.kIn a o c,f,n,by simpa using d⟩,?_⟩
  have e:=r.length
  simp only[JD] at e
  lia
theorem aI.list_inj (I:aI X pins σ H s)(h:aH X.K H a xs)(h':aH X.K H a ys):xs=ys:=by
 obtain⟨b,r,⟨o,n,e,_,_,d⟩,_⟩:=I.list h
 obtain⟨its',g,⟨o',i,f,_,_,c⟩,_⟩:=I.list h'
 rw[e] at f;cases f
 rw[d] at c
 injection c with d1 _
 have:b=its':=by simpa using congrArg Array.toList d1
 subst this
 exact r.inj g
theorem aI.tuple_inj (I:aI X pins σ H s)(h:cn X.K H a xs)(h':cn X.K H a ys):xs=ys:=by
 obtain⟨b,r,⟨o,e,_,n,d⟩,_⟩:=I.tuple h
 obtain⟨its',g,⟨o',f,_,i,c⟩,_⟩:=I.tuple h'
 rw[e] at f;cases f
 rw[d] at c
 injection c with d1 _
 have:b=its':=by simpa using congrArg Array.toList d1
 subst this
 exact r.inj g
end
abbrev Cx.wish (X:Cx) (E:Value->Shared->Prop):Cx:={X with xe:=E}
abbrev Cx.nox (X:Cx):Cx:=X.wish fun _ _=>False
theorem Cx.Ok.wish {X:Cx}(ok:X.Ok)(E:Value->Shared->Prop):(X.wish E).Ok:=
 ⟨ok.mod,ok.kind,ok.glob,ok.blt,ok.above,ok.inj,ok.has,ok.cab,ok.hd,ok.frames,ok.stk,ok.exf,ok.bs,ok.bsz,ok.noex,ok.exfs,ok.funs,ok.frf⟩
theorem Cx.Ok.unwish {X:Cx}{E:Value->Shared->Prop}(ok:(X.wish E).Ok):X.Ok:=
 ⟨ok.mod,ok.kind,ok.glob,ok.blt,ok.above,ok.inj,ok.has,ok.cab,ok.hd,ok.frames,ok.stk,ok.exf,ok.bs,ok.bsz,ok.noex,ok.exfs,ok.funs,ok.frf⟩
section
variable {X:Cx} {pins:List (Addr×Obj)} {σ:St} {H:Hp} {s:Shared} {E:Value->Shared->Prop}
theorem aI.wish (I:aI X pins σ H s)(E:Value->Shared->Prop):aI (X.wish E) pins σ H s:=⟨I.ok.wish E,I.os,I.bare,I.base,I.loc,I.cell,I.free,I.freeC,I.pin,I.hok,I.len⟩
theorem aI.unwish (I:aI (X.wish E) pins σ H s):aI X pins σ H s:=⟨I.ok.unwish,I.os,I.bare,I.base,I.loc,I.cell,I.free,I.freeC,I.pin,I.hok,I.len⟩
theorem SP.unwish{f:Flow}(h:SP (X.wish E) pins D f s'):SP X pins D f s':=by
 cases f with
 |next=>obtain⟨a,H',I,q⟩:=h;exact⟨a,H',I.unwish,q⟩
 |brk=>obtain⟨a,H',I,q⟩:=h;exact⟨a,H',I.unwish,q⟩
 |cont=>obtain⟨a,H',I,q⟩:=h;exact⟨a,H',I.unwish,q⟩
 |ret u=>obtain⟨v,a,H',I,r,q⟩:=h;exact⟨v,a,H',I.unwish,r,q⟩
theorem mh.nox{st:List Stmt}(h:mh X.nox st t):mh X st t:=fun pins s σ H D I a=>
 JU (h pins s σ H D (I.wish _) a) (fun _ _ q=>q.unwish) fun _ _ z=>False.elim z
end
section
variable {X:Cx} {st:Stmt} {rest:List Stmt} {t u:TS} {e:Expr} {te:TE} {pos:Pos}
def lX:TS:=fun D σ H=>D.nx σ H
def fG (t u:TS):TS:=fun D σ H=>t {D with nx:=u D} σ H
theorem jg:mh X [] lX:=fun _ _ σ H _ I h=>wpAny_execs_nil ⟨σ,H,I,h⟩
theorem ai (h1:PS X st t)(c:mh X rest u):mh X (st::rest) (fG t u):=by
 intro pins s σ H D I h
 refine wpAny_execs_cons (bZ (h1 pins s σ H {D with nx:=u D} I h) fun f b q=>?_)
 cases f with
 |next=>
  obtain⟨a,H',I',q⟩:=q
  exact c pins b a H' D I' q
 |ret v=>exact q
 |brk=>exact q
 |cont=>exact q
theorem aD (h1:PS X st t):mh X [st] t:=by
 intro pins s σ H D I h
 refine wpAny_execs_cons (bZ (h1 pins s σ H D I h) fun f a q=>?_)
 cases f with
 |next=>exact wpAny_execs_nil q
 |ret v=>exact q
 |brk=>exact q
 |cont=>exact q
theorem aI.quiet {a:List (Addr×Obj)}(I:aI X a σ H s):interactive X.env=false:=by simp[interactive,I.ok.kind]
def uD (a:TE):TS:=fun D σ H=>a σ H fun _ H1=>D.nx σ H1
theorem aM (a:PE X e te)(c:swapsWith e none pos.line X.env=pure false:=by rfl):PS X (.Expr e pos) (uD te):=by
 intro pins s σ H D I h
 exact wpAny_Expr_any (bZ (a pins s σ H _ I h) fun v d ⟨x,H1,I1,f,b⟩=>⟨σ,H1,I1,b⟩) I.quiet c
def zD (a:TE):TS:=fun D σ H=>a σ H D.rt
theorem aw (a:PE X e te):PS X (.Return (some e) pos) (zD te):=by
 intro pins s σ H D I h
 exact wpAny_Return_some (bZ (a pins s σ H _ I h) fun v d ⟨x,H1,I1,c,b⟩=>⟨x,σ,H1,I1,c,b⟩)
def lJ (c:TT) (t u:TS):TS:=fun D σ H=>c σ H fun b H1=>if b=true then t D σ H1 else u D σ H1
theorem ji(g:PT X c tc)(j:mh X a t)(i:mh X b u):PS X (.If c a b pos) (lJ tc t u):=by
 intro pins s σ H D I h
 refine wpAny_If (bZ (g pins s σ H _ I h) fun d e ⟨H1,I1,f⟩=>?_)
 cases d with
 |true=>exact j pins e σ H1 D I1 f
 |false=>exact i pins e σ H1 D I1 f
def EJ:TS:=fun _ _ _=>False
theorem bX:PS X st EJ:=fun _ _ _ _ _ _ h=>h.elim
end
abbrev TG:=V->St->Hp->(St->Hp->Prop)->Prop
abbrev Gf:=List V->St->Hp->(St->Hp->Prop)->Prop
def PG (X:Cx) (a:Expr) (t:TG):Prop:=
 ∀(pins:List (Addr×Obj)) (s:Shared) (σ:St) (H:Hp) (v:V) (u:Value) (Q:St->Hp->Prop),aI X pins σ H s->aQ v u->t v σ H Q->
  wpAny (model X.prog X.w) X.A (assign a X.env u) (fun _ s'=>∃b H',aI X pins b H' s'/\Q b H') X.xe s
def GC (X:Cx) (ts:List Expr) (t:Gf):Prop:=
 ∀(pins:List (Addr×Obj)) (s:Shared) (σ:St) (H:Hp) (vs:List V) (us:List Value) (Q:St->Hp->Prop),aI X pins σ H s->aS vs us->t vs σ H Q->
  wpAny (model X.prog X.w) X.A (assignInOrder ((assignEach ts X.env).map (·.2)) us) (fun _ s'=>∃a H',aI X pins a H' s'/\Q a H') X.xe s
abbrev Gb:=V->V->V->Hp->(Hp->Prop)->Prop
def G2 (X:Cx) (t:Gb):Prop:=
 ∀(pins:List (Addr×Obj)) (s:Shared) (σ:St) (H:Hp) (o i v:V) (ov a u:Value) (Q:Hp->Prop),aI X pins σ H s->aQ o ov->aQ i a->aQ v u->t o i v H Q->
  wpAny (model X.prog X.w) X.A (setItem ov a u) (fun _ s'=>∃H',aI X pins σ H' s'/\Q H') X.xe s
section
variable {X:Cx} {pos:Pos}
def cT (i:Nat):TG:=fun v σ H Q=>Q (σ.set i (some v)) H
theorem Dh(b:X.N.Nodup)(a:X.N[i]?=some x)(hx:Ge X.env.scope x)(c:X.fn x=true\/X.env.scope.names.lookup x=some .local):PG X (.Name x pos) (cT i):=by
 intro pins s σ H v u Q I r h
 exact wpAny_assign_Name (qL I b a hx r (fun s' I'=>⟨_,H,I',h⟩) c)
def GZ:Gf:=fun vs σ H Q=>vs=[]/\Q σ H
noncomputable def uI (t:TG) (u:Gf):Gf:=fun vs σ H Q=>∃v r,vs=v::r/\t v σ H fun a H'=>u r a H' Q
theorem cf:GC X [] GZ:=by
 intro pins s σ H vs us Q I r h
 obtain⟨e,h⟩:=h
 subst e
 cases r
 exact assignInOrder_nil ⟨σ,H,I,h⟩
theorem ax(h1:PG X e t)(g:GC X es u)
  (f:(assignEach (e::es) X.env).map (·.2)=assign e X.env::(assignEach es X.env).map (·.2):=by rfl):GC X (e::es) (uI t u):=by
 intro pins s σ H vs us Q I r h
 obtain⟨v,i,c,h⟩:=h
 subst c
 cases r with
 |cons r rr=>
  rw[f]
  refine assignInOrder_cons (bZ (h1 pins s σ H _ _ _ I r h) fun _ b ⟨a,H1,I1,d⟩=>?_)
  exact g pins b a H1 _ _ Q I1 rr d
def F8 (K:Je) (n:Nat) (t:Gf):TG:=fun v σ H Q=>∃a xs,v=.ref a/\cn K H a xs/\xs.length=n/\t xs σ H Q
theorem dS(q:X.calm=true)(h:GC X es t)
  (w:(assignEach es X.env).length=n:=by rfl) (f:(assignEach es X.env).findIdx? (·.1)=none:=by rfl):PG X (.Tuple es k pos) (F8 X.K n t):=by
 intro pins s σ H v u Q I r d
 obtain⟨a,xs,p,i,x,d⟩:=d
 subst p
 cases r
 obtain⟨c,g,j,y⟩:=I.tuple i
 refine assign_Tuple_tuple (I.ok.hd q) j (by simp[w,<-x,g.length]) f fun h' l=>?_
 have m:aI X pins σ H {s with heap:=h'}:=I.kept (t':=s.toks) fun b o e=>l b o (Jw (Jm e)) e
 exact h pins _ σ H xs _ Q m (by simpa using g) d
def Ir (a b:TE) (t:Gb):TG:=fun v σ H Q=>a σ H fun o H1=>b σ H1 fun i H2=>t o i v H2 fun H3=>Q σ H3
theorem yD{t:Gb}(c:PE X o to)(b:PE X i ti)(g:G2 X t)
  (j:∀v,assign (.Subscript o i pos) X.env v=(do
   let ov<-holding [v] (eval o X.env)
   let a<-holding [v,ov] (eval i X.env)
   standAt pos
   holding [v,ov,a] (setItem ov a v)
   release [v,ov,a] []):=by intro _;rfl):PG X (.Subscript o i pos) (Ir to ti t):=by
 intro pins s σ H v u Q I r h
 rw[j]
 refine Jc (JV (bZ (c pins s σ H _ I h) fun ov d ⟨x,H1,I1,p,f⟩=>?_))
 refine Jc (JV (bZ (b pins d σ H1 _ I1 f) fun a m ⟨y,H2,I2,e,l⟩=>?_))
 refine Jc (wpAny_standAt (Jc (JV (bZ (g pins m σ H2 x y v ov a u _ I2 p e r l) fun _ q ⟨H3,I3,n⟩=>?_))))
 exact wpAny_release ⟨σ,H3,I3,n⟩
def mf (a:TE) (g:TG):TS:=fun D σ H=>a σ H fun x H1=>g x σ H1 D.nx
theorem gA(b:PE X e te)(i:PG X tg g)(f:swapsWithSole [tg] e pos.line X.env=pure false:=by rfl)(a:swappedStores [tg] e X.env=pure none:=by rfl)
  (h1:(assignEach [tg] X.env).map (·.2)=[assign tg X.env]:=by rfl):PS X (.Assign [tg] e pos) (mf te g):=by
 intro pins s σ H D I h
 refine wpAny_Assign_stores (bZ (b pins s σ H _ I h) fun v c ⟨x,H1,I1,j,d⟩=>?_) f a
 rw[h1]
 exact bZ (i pins c σ H1 x v _ I1 j d) fun _ l q=>q
theorem F6(c:X.N.Nodup)(a:X.N[i]?=some x)(hx:Ge X.env.scope x)(b:PE X e te)(g:swapsWith e (some (.Name x pos')) pos.line X.env=pure false:=by rfl)(d:X.fn x=true\/X.env.scope.names.lookup x=some .local):
  PS X (.Assign [.Name x pos'] e pos) (mf te (cT i)):=by
 intro pins s σ H D I h
 refine wpAny_Assign_Name (bZ (b pins s σ H _ I h) fun v l ⟨y,H1,I1,j,f⟩=>?_) g
 exact qL I1 c a hx j (fun m I2=>⟨_,H1,I2,f⟩) d
end
section
variable {X:Cx} {pos:Pos}
def FA (c:TT) (e:TS):TS:=fun D σ H=>∃W:Nat->St->Hp->Prop,(∃m,W m σ H)/\∀m σ H,W m σ H->
 c σ H fun b H1=>if b=true then∃N:St->Hp->Prop,(∀a H',N a H'->∃d,d<m/\W d a H')/\e {D with nx:=N,ct:=N,bk:=D.nx} σ H1 else D.nx σ H1
theorem Bt(r:PassesOwn (model X.prog X.w) X.A X.env X.xe)(z:PT X c tc)(B:mh X body tb):PS X (.While c body [] pos) (FA tc tb):=by
 intro pins s σ H D I h
 obtain⟨W,⟨C,x⟩,a⟩:=h
 refine wpAny_While (codeAny_whileLoop (fun n s'=>∃g H',aI X pins g H' s'/\W n g H') ?_ C ⟨σ,H,I,x⟩)
 rintro n u ⟨e,H1,I1,y⟩
 refine K5 r (bZ (z pins u e H1 _ I1 (a n e H1 y)) fun b E ⟨H2,I2,i⟩=>?_)
 cases b with
 |true=>
  obtain⟨N,q,i⟩:=i
  rw[if_pos rfl]
  refine K5 r (bZ (B pins E e H2 _ I2 i) fun f F j=>?_)
  cases f with
  |next=>
   obtain⟨d,H3,I3,p⟩:=j
   obtain⟨m,o,l⟩:=q d H3 p
   exact⟨m,o,d,H3,I3,l⟩
  |cont=>
   obtain⟨d,H3,I3,p⟩:=j
   obtain⟨m,o,l⟩:=q d H3 p
   exact⟨m,o,d,H3,I3,l⟩
  |brk=>exact j
  |ret v=>exact j
 |false=>
  rw[if_neg Ju]
  exact wpAny_execs_nil ⟨e,H2,I2,i⟩
end
structure It where
 go:Nat->Hp->Prop
 yld:Nat->Hp->V->Hp->Prop
 stop:Nat->Hp->Prop
def js (X:Cx) (a:List (Addr×Obj)) (H:Hp) (b:Addr):Prop:=
 H b=none/\b≠X.env.locals/\b∉X.fs/\(b∈X.ex\/X.s₀.heap.objs.size<=b)/\(∀x c,X.env.cells.lookup x=some c->c≠b)/\∀p∈X.pn++a,p.1≠b
theorem aI.fpOk{a:List (Addr×Obj)}(I:aI X a σ H s)(d:s.heap.objs.size<=b)(f:H' b=none):js X a H' b:=by
 refine⟨f,KN (JO I.lt d),I.nofs d,.inr (Jn I.sz d),fun x c e z=>?_,fun p g z=>?_⟩
 ·obtain⟨v,q⟩:=I.cell x c e
  exact absurd (JO q.lt (by rw[z];exact d)) (Km _)
 ·exact absurd (JO (Jm (I.pin p g).1) (by rw[z];exact d)) (Km _)
structure kP (P:Program) (w:World) (K:Je) (tg:Expr) (J:It) (fp:List Addr) (it:Addr) (tn:Nat->Heap->Prop):Prop where
 mem:it∈fp
 obj:∀i h,tn i h->∀b∈fp,∃o,h.get? b=some o/\∀v,o.data≠.cell v
 keep:∀i h h',tn i h->(∀b∈fp,∀o,h.get? b=some o->h'.get? b=some o)->tn i h'
 item:∀(X:Cx),X.prog=P->X.w=w->X.K=K->X.calm=true->∀(i:Nat) (pins:List (Addr×Obj)) (s:Shared) (σ:St) (H:Hp) (E:Value->Shared->Prop),aI X pins σ H s->(∀b∈fp,js X pins H b)->tn i s.heap->J.go i H->
  wpAny (model P w) X.A (pyNext (.ref it)) (fun r s1=>∃u,r=some u/\
   wpAny (model P w) X.A (letOwnedTupleGo tg (.ref it) u) (fun _ s2=>∃x H',aI X pins σ H' s2/\aQ x u/\J.yld i H x H'/\tn (i+1) s2.heap/\∀b∈fp,H' b=none) E s1) E s
 done:∀(X:Cx),X.prog=P->X.w=w->X.K=K->X.calm=true->∀(i:Nat) (pins:List (Addr×Obj)) (s:Shared) (σ:St) (H:Hp) (E:Value->Shared->Prop),aI X pins σ H s->(∀b∈fp,js X pins H b)->tn i s.heap->J.stop i H->
  wpAny (model P w) X.A (pyNext (.ref it)) (fun r s1=>r=none/\aI X pins σ H s1) E s
 self:∀(A:Around) (i:Nat) (s:Shared) (Q:Value->Shared->Prop) (E:Value->Shared->Prop),tn i s.heap->Q (.ref it) s->wpAny (model P w) A (pyIter (.ref it)) Q E s
abbrev TI:=St->Hp->(It->Hp->Prop)->Prop
def Iy (X:Cx) (a:List (Addr×Obj)) (f:St) (e:Expr) (R:It->Hp->Prop) (c:Value) (d:Shared):Prop:=
 ∃(it:Addr) (fp:List Addr) (tn:Nat->Heap->Prop) (J:It) (H':Hp),c=.ref it/\aI X a f H' d/\kP X.prog X.w X.K e J fp it tn/\tn 0 d.heap/\(∀b∈fp,js X a H' b)/\R J H'
def PI (X:Cx) (b a:Expr) (d:TI):Prop:=
 ∀(pins:List (Addr×Obj)) (s:Shared) (σ:St) (H:Hp) (R:It->Hp->Prop),aI X pins σ H s->d σ H R->
  wpAny (model X.prog X.w) X.A (eval a X.env) (fun v c=>wpAny (model X.prog X.w) X.A (pyIter v) (Iy X pins σ b R) X.xe c) X.xe s
theorem mK{it:Addr}{Q:Unit->Shared->Prop}(d:s.heap.get? it=some o)(b:o.cls=.type n)(hd:o.data=.fields vs)
  (c:["enumerate", "zip", "dict_itemiterator", "dict_reverseitemiterator", "odict_iterator", "itertools.zip_longest", "itertools.pairwise"].contains n=false) (a:Q () s):wpAny M A (letOwnedTupleGo tg (.ref it) u) Q E s:=by
 unfold letOwnedTupleGo
 cases tg<;>first
  |exact Jf a
  |(cases u<;>first
    |exact Jf a
    |(refine Jc (wpAny_load d ?_)
      rw[b,hd]
      show wpAny M A (if (["enumerate", "zip", "dict_itemiterator", "dict_reverseitemiterator", "odict_iterator", "itertools.zip_longest", "itertools.pairwise"].contains n&&vs[0]?==some (rawInt _))=true then _ else _) Q E s
      rw[if_neg (by intro h;rw[c,Bool.false_and] at h;cases h)]
      exact Jf a))
noncomputable def pM (K:Je) (a:Addr):It:=
 ⟨fun i H=>∃xs x,aH K H a xs/\xs[i]?=some x,fun i H x H'=>H'=H/\∀xs,aH K H a xs->xs[i]?=some x,fun i H=>∃xs,aH K H a xs/\xs.length<=i⟩
noncomputable def Gw (K:Je) (a:Addr):It:=
 ⟨fun i H=>∃xs x,cn K H a xs/\xs[i]?=some x,fun i H x H'=>H'=H/\∀xs,cn K H a xs->xs[i]?=some x,fun i H=>∃xs,cn K H a xs/\xs.length<=i⟩
noncomputable def wH (a:Int) (n:Nat):It:=⟨fun i _=>i<n,fun i H x H'=>H'=H/\x=.int (a+i),fun i _=>n<=i⟩
theorem xg {P:Program}{w:World}{K:Je}{Q:Expr}(a it:Addr):kP P w K Q (pM K a) [it] it (fun i h=>h.IsListIter it a i) where
 mem:=by simp
 obj:=fun i h st b g=>by
  have e:b=it:=by simpa using g
  subst e
  obtain⟨o,e,c,d⟩:=st
  exact⟨o,e,fun v z=>by rw[d] at z;cases z⟩
 keep:=fun i h h' st k=>st.at fun o e=>k it (by simp) o e
 item:=by
  intro X A n F J i pins s σ H E I m st hg
  subst A n F
  obtain⟨xs,x,l,y⟩:=hg
  obtain⟨f,D,p,M⟩:=I.list l
  obtain⟨u,S,R⟩:=D.get y
  obtain⟨C,G,O,B,q,r⟩:=m it (by simp)
  refine wpAny_pyNext_list_item st p.isList (x:=u) (by simpa using S) fun h' j sb=>?_
  have T:aI X pins σ H {s with heap:=h'}:=I.turned (t':=s.toks) (fun b o g e=>(sb.2 b g).trans e) C G B q r
  obtain⟨o,e,c,d⟩:=id j
  exact⟨u,rfl,mK (s:={s with heap:=h'}) e c d (by decide) ⟨x,H,T,R,⟨rfl,fun ys U=>by rw[I.list_inj U l];exact y⟩,j,fun b g=>(m b g).1⟩⟩
 done:=by
  intro X A n F J i pins s σ H E I m st hg
  subst A n F
  obtain⟨xs,l,y⟩:=hg
  obtain⟨f,D,p,M⟩:=I.list l
  obtain⟨C,G,O,B,q,r⟩:=m it (by simp)
  have W:=D.length
  exact wpAny_pyNext_list_end (I.ok.hd J) st p.isList (by simp;lia) fun h' N=>⟨rfl,I.turned (t':=s.toks) (fun b o g e=>N b o g e) C G B q r⟩
 self:=fun _ _ _ _ _ st h=>wpAny_pyIter_listiter st h
theorem tU {P:Program}{w:World}{K:Je}{Q:Expr}(a it:Addr):kP P w K Q (Gw K a) [it] it (fun i h=>h.IsTupleIter it a i) where
 mem:=by simp
 obj:=fun i h st b g=>by
  have e:b=it:=by simpa using g
  subst e
  obtain⟨o,e,c,d⟩:=st
  exact⟨o,e,fun v z=>by rw[d] at z;cases z⟩
 keep:=fun i h h' st k=>st.at fun o e=>k it (by simp) o e
 item:=by
  intro X A n F J i pins s σ H E I m st hg
  subst A n F
  obtain⟨xs,x,l,y⟩:=hg
  obtain⟨f,D,p,M⟩:=I.tuple l
  obtain⟨u,S,R⟩:=D.get y
  obtain⟨C,G,O,B,q,r⟩:=m it (by simp)
  refine wpAny_pyNext_tuple_item st (show s.heap.IsTuple a f.toArray from p) (x:=u) (by simpa using S) fun h' j sb=>?_
  have T:aI X pins σ H {s with heap:=h'}:=I.turned (t':=s.toks) (fun b o g e=>(sb.2 b g).trans e) C G B q r
  obtain⟨o,e,c,d⟩:=id j
  exact⟨u,rfl,mK (s:={s with heap:=h'}) e c d (by decide) ⟨x,H,T,R,⟨rfl,fun ys U=>by rw[I.tuple_inj U l];exact y⟩,j,fun b g=>(m b g).1⟩⟩
 done:=by
  intro X A n F J i pins s σ H E I m st hg
  subst A n F
  obtain⟨xs,l,y⟩:=hg
  obtain⟨f,D,p,M⟩:=I.tuple l
  obtain⟨C,G,O,B,q,r⟩:=m it (by simp)
  have W:=D.length
  exact wpAny_pyNext_tuple_end (I.ok.hd J) st (show s.heap.IsTuple a f.toArray from p) (by simp;lia) fun h' N=>⟨rfl,I.turned (t':=s.toks) (fun b o g e=>N b o g e) C G B q r⟩
 self:=fun _ _ _ _ _ st h=>wpAny_pyIter_tupleiter st h
theorem tY {P:Program}{w:World}{K:Je}{C:Expr}(it:Addr)(d:Int)(n:Nat):kP P w K C (wH d n) [it] it (fun i h=>IsRangeIter h it (d+(i:Nat)*1) ((n:Int) - (i:Nat)) 1) where
 mem:=by simp
 obj:=fun i h st b a=>by
  have e:b=it:=by simpa using a
  subst e
  exact⟨_,st,fun v z=>by
   have D:Data.fields _=Data.cell v:=z
   cases D⟩
 keep:=fun i h h' st k=>k it (by simp) _ st
 item:=by
  intro X m g u p i pins s σ H E I f st hg
  subst m g u
  obtain⟨r,x,A,q,j,l⟩:=f it (by simp)
  have W:=Walks.range (prog:=X.prog) (w:=X.w) (I.ok.hd p) it d 1 n
  refine W.item i s _ _ hg st fun v h' tk B c F=>?_
  obtain⟨t,rfl⟩:=B
  have G:aI X pins σ H {s with heap:=h',toks:=tk}:=I.turned (fun b o a e=>F b o (by simpa using a) e) r x q j l
  refine⟨_,rfl,mK (s:={s with heap:=h',toks:=tk}) (n:= "range_iterator") c rfl rfl (by decide) ⟨.int (d+i),H,G,⟨t,?_⟩,⟨rfl,rfl⟩,c,fun b a=>(f b a).1⟩⟩
  rw[Int.mul_one]
 done:=by
  intro X m g u p i pins s σ H E I f st hg
  subst m g u
  obtain⟨r,x,A,q,j,l⟩:=f it (by simp)
  exact wpAny_pyNext_range_end (I.ok.hd p) st (by have:n<=i:=hg;omega) fun h' y=>⟨rfl,I.turned (t':=s.toks) (fun b o a e=>y b o a e) r x q j l⟩
 self:=fun _ _ _ _ _ st h=>wpAny_pyIter_rangeiter st h
section
variable {X:Cx} {tg:Expr}
def lL (K:Je) (tl:TE):TI:=fun σ H R=>tl σ H fun x H1=>∃a,x=.ref a/\(∃xs,aH K H1 a xs)/\R (pM K a) H1
def GY (K:Je) (tl:TE):TI:=fun σ H R=>tl σ H fun x H1=>∃a,x=.ref a/\(∃xs,cn K H1 a xs)/\R (Gw K a) H1
theorem aK(j:PE X l tl):PI X tg l (lL X.K tl):=by
 intro pins s σ H R I h
 refine bZ (j pins s σ H _ I h) fun v d ⟨x,H1,I1,m,g⟩=>?_
 obtain⟨a,e,⟨xs,f⟩,q⟩:=g
 subst e
 cases m
 obtain⟨c,r,p,n⟩:=I1.list f
 refine KP p.isList ?_
 refine⟨d.heap.objs.size,[d.heap.objs.size],_,_,H1,rfl,I1.kept (t':=d.toks) fun b o e=>Jj _ e,xg a _,⟨_,Jx _ rfl,rfl,rfl⟩,fun b i=>?_,q⟩
 have e:b=d.heap.objs.size:=by simpa using i
 subst e
 exact I1.fpOk (Jg _) (I1.hok.fresh (Jg _))
theorem Bz(j:PE X l tl):PI X tg l (GY X.K tl):=by
 intro pins s σ H R I h
 refine bZ (j pins s σ H _ I h) fun v d ⟨x,H1,I1,m,g⟩=>?_
 obtain⟨a,e,⟨xs,f⟩,q⟩:=g
 subst e
 cases m
 obtain⟨c,r,p,n⟩:=I1.tuple f
 refine wpAny_pyIter_tuple (show d.heap.IsTuple a c.toArray from p) ?_
 refine⟨d.heap.objs.size,[d.heap.objs.size],_,_,H1,rfl,I1.kept (t':=d.toks) fun b o e=>Jj _ e,tU a _,⟨_,Jx _ rfl,rfl,rfl⟩,fun b i=>?_,q⟩
 have e:b=d.heap.objs.size:=by simpa using i
 subst e
 exact I1.fpOk (Jg _) (I1.hok.fresh (Jg _))
theorem qV {c:List (Addr×Obj)}{f:St}{H:Hp}{s:Shared}{R:It->Hp->Prop}{E:Value->Shared->Prop}{lo a:Int}{t u v:Tok}{tk:Nat}(I:aI X c f H s)(h1: -(2^62)<=lo)(l:lo<2^62)(i: -(2^62)<=a)(m:a<2^62)
  (q:R (wH lo (a - lo).toNat) H):wpAny (model X.prog X.w) X.A (pyIter (.ref s.heap.objs.size)) (Iy X c f tg R) E {s with heap:=s.heap.push {cls:=.type "range",data:=.fields #[.int lo t,.int a u,.int 1 v]},toks:=tk}:=by
 refine wpAny_pyIter_range (IsRange.new ..) (small_one h1 l i m) ?_
 have d:aI X c f H {s with heap:=s.heap.push {cls:=.type "range",data:=.fields #[.int lo t,.int a u,.int 1 v]},toks:=tk}:=I.kept fun b o e=>Jj _ e
 refine⟨(s.heap.push {cls:=.type "range",data:=.fields #[.int lo t,.int a u,.int 1 v]}).objs.size,[(s.heap.push {cls:=.type "range",data:=.fields #[.int lo t,.int a u,.int 1 v]}).objs.size],_,_,H,rfl,
  d.kept (t':=tk) fun b o e=>Jj _ e,tY _ lo (a - lo).toNat,?_,fun b j=>?_,q⟩
 ·have g:lo+((0:Nat):Int)*1=lo:=by simp
  have h:(((a - lo).toNat:Nat):Int) - ((0:Nat):Int)=Builtin.Range.rangeSize lo a 1:=by rw[rangeSize_one];split<;>lia
  show IsRangeIter _ _ (lo+((0:Nat):Int)*1) ((((a - lo).toNat:Nat):Int) - ((0:Nat):Int)) 1
  rw[g,h]
  exact Jx _ rfl
 ·have e:b=(s.heap.push {cls:=.type "range",data:=.fields #[.int lo t,.int a u,.int 1 v]}).objs.size:=by simpa using j
  subst e
  exact d.fpOk (Jg _) (d.hok.fresh (Jg _))
def rO (ta:TA):TI:=fun σ H R=>ta σ H fun vs H1=>∃j:Int,vs=[.int j]/\ -(2^62)<=j/\j<2^62/\R (wH 0 j.toNat) H1
def zJ (ta:TA):TI:=fun σ H R=>ta σ H fun vs H1=>∃i j:Int,vs=[.int i,.int j]/\(-(2^62)<=i/\i<2^62/\ -(2^62)<=j/\j<2^62)/\R (wH i (j - i).toNat) H1
theorem wM(i:Gl X "range")(d:X.mg "range" =none)(f:PA X [a] ta)(c:starEach [a] X.env=[(false,eval a X.env)]:=by rfl):PI X tg (.Call (.Name "range" p) [a] [] pos) (rO ta):=by
 intro pins s σ H R I h
 refine Call_ (gF I i d boot_range (PyProof.Rows.callWith_type1 (bZ (f pos pins s σ H _ I h) fun us m ⟨vs,H1,I1,l,b⟩=>?_) c rfl))
 obtain⟨j,e,b,g,q⟩:=b
 subst e
 cases l with
 |cons r rr=>
  cases rr
  obtain⟨t,rfl⟩:=r
  exact call_range_1 (qV I1 (by lia) (by lia) b g (by simpa using q))
theorem f9(u:Gl X "range")(l:X.mg "range" =none)(m:PA X [a,b] ta)(g:starEach [a,b] X.env=[(false,eval a X.env),(false,eval b X.env)]:=by rfl)(c:starEach [b] X.env=[(false,eval b X.env)]:=by rfl):
  PI X tg (.Call (.Name "range" p) [a,b] [] pos) (zJ ta):=by
 intro pins s σ H R I h
 refine Call_ (gF I u l boot_range (PyProof.Rows.callWith_type1 (bZ (m pos pins s σ H _ I h) fun us w ⟨vs,H1,I1,v,d⟩=>?_) (by rw[g,c]) (by rw[c];rfl)))
 obtain⟨i,j,e,⟨d,n,o,f⟩,q⟩:=d
 subst e
 cases v with
 |cons r rr=>
  cases rr with
  |cons r' rr=>
   cases rr
   obtain⟨t,rfl⟩:=r
   obtain⟨x,rfl⟩:=r'
   exact call_range_2 (qV I1 d n o f q)
def fT (e:TI) (g:TG) (d:TS):TS:=fun D σ H=>e σ H fun J H1=>∃W:Nat->Nat->St->Hp->Prop,(∃m,W 0 m σ H1)/\∀i m σ H,W i m σ H->
 (J.stop i H/\D.nx σ H)\/(J.go i H/\∃N:St->Hp->Prop,(∀a H',N a H'->∃c,c<m/\W (i+1) c a H')/\∀x H',J.yld i H x H'->g x σ H' fun b H2=>d {D with nx:=N,ct:=N,bk:=D.nx} b H2)
noncomputable def lR (fp:List Addr) (h:Heap):List (Addr×Obj):=fp.filterMap fun b=>(h.get? b).map fun o=>(b,o)
theorem gJ(a:b∈fp)(e:h.get? b=some o):(b,o)∈lR fp h:=Kd.mpr ⟨b,a,by rw[e];rfl⟩
theorem xW{p:Addr×Obj}(d:p∈lR fp h):p.1∈fp/\h.get? p.1=some p.2:=by
 obtain⟨b,a,e⟩:=Kd.mp d
 cases q:h.get? b with
 |none=>rw[q] at e;cases e
 |some o=>
  rw[q] at e
  have c:(b,o)=p:=Option.some.inj e
  subst c
  exact⟨a,q⟩
theorem aI.pinned {a:List (Addr×Obj)}(I:aI X a σ H s)(h:∀b∈fp,js X a H b)(g:∀b∈fp,∃o,s.heap.get? b=some o/\∀v,o.data≠.cell v):aI X (a++lR fp s.heap) σ H s:=
 I.pins_of fun p m=>(Jz.mp m).elim (fun z=>I.pin p (J_ _ z)) fun z=>by
  obtain⟨f,e⟩:=xW z
  obtain⟨j,l,i,_⟩:=h p.1 f
  obtain⟨o,c,d⟩:=g p.1 f
  rw[e] at c;cases c
  exact⟨e,j,l,i,d⟩
theorem aI.unpinned {a pl:List (Addr×Obj)}(I:aI X (a++pl) σ H s):aI X a σ H s:=I.pins_of fun p b=>I.pin p (J_ _ (K4 _ b))
theorem ED(M:PassesOwn (model X.prog X.w) X.A X.env X.xe)(Y:X.calm=true)(Z:PI X tg iter wi)(hg:PG X tg g)(C:mh X body tb)
  (hs:∀x,foldedSetIterable iter X.env x=pure x:=by intro _;rfl):PS X (.For tg iter body [] pos) (fT wi g tb):=by
 intro pins s σ H D I h
 refine wpAny_For (bZ (Z pins s σ H _ I h) fun v s1 h1=>bZ h1 fun ac s2 h2=>?_) hs
 obtain⟨it,fp,tn,J,H2,e,I2,T,w,R,W,⟨m0,w0⟩,q⟩:=h2
 subst e
 have a:∀{H':Hp},(∀b∈fp,H' b=none)->∀b∈fp,js X pins H' b:=fun hn b C=>⟨hn b C,(R b C).2⟩
 refine codeAny_forLoop_any (fun n s'=>∃i E H',aI X pins E H' s'/\tn i s'.heap/\(∀b∈fp,H' b=none)/\W i n E H') ?_ m0 ⟨0,σ,H2,I2,w,fun b C=>(R b C).1,w0⟩
 rintro n S ⟨i,B,H3,I3,p,l,w3⟩
 rcases q i n B H3 w3 with ⟨K,qn⟩|⟨go,N,hN,step⟩
 ·refine K5 M (bZ (T.done X rfl rfl rfl Y i pins S B H3 X.xe I3 (a l) p K) fun r s4 ⟨hr,I4⟩=>?_)
  subst hr
  exact wpAny_execs_nil ⟨B,H3,I4,qn⟩
 ·refine K5 M (bZ (T.item X rfl rfl rfl Y i pins S B H3 X.xe I3 (a l) p go) fun r s4 ⟨u,hr,h4⟩=>?_)
  subst hr
  refine K5 M (bZ h4 fun _ U z9=>?_)
  obtain⟨x,H5,I5,r5,y5,j,y⟩:=z9
  have O:=I5.pinned (a y) (T.obj _ _ j)
  refine K5 M (bZ (hg _ U B H5 x u _ O r5 (step x H5 y5)) fun _ s6 ⟨Q,H6,I6,q6⟩=>?_)
  refine K5 M (bZ (C _ s6 Q H6 _ I6 q6) fun f P F=>?_)
  have c:∀{z:St} {H7:Hp},aI X (pins++lR fp U.heap) z H7 P->N z H7->∃m,m<n/\∃i E H',aI X pins E H' P/\tn i P.heap/\(∀b∈fp,H' b=none)/\W i m E H':=fun{z H7} I7 G=>by
   obtain⟨m',hm,w7⟩:=hN z H7 G
   refine⟨m',hm,i+1,z,H7,I7.unpinned,T.keep _ _ _ j fun b C o e=>(I7.pin (b,o) (J_ _ (J_ _ (gJ C e)))).1,fun b C=>?_,w7⟩
   obtain⟨o,e,d⟩:=T.obj _ _ j b C
   exact(I7.pin (b,o) (J_ _ (J_ _ (gJ C e)))).2.1
  cases f with
  |next=>obtain⟨z,H7,I7,G⟩:=F;exact c I7 G
  |cont=>obtain⟨z,H7,I7,G⟩:=F;exact c I7 G
  |brk=>obtain⟨z,H7,I7,F⟩:=F;exact⟨z,H7,I7.unpinned,F⟩
  |ret v=>obtain⟨x7,z,H7,I7,r7,F⟩:=F;exact⟨x7,z,H7,I7.unpinned,r7,F⟩
end
theorem cG {K:Je}{a:Addr}{xs:List V}{g:TG}{h:TS}{D:fJ}{b:St}{H:Hp}(c:Nat->St->Hp->Prop)(h0:c 0 b H)(o:∀i b H,i<=xs.length->c i b H->aH K H a xs)
  (n:∀i x b H,xs[i]?=some x->c i b H->g x b H fun d H2=>h {D with nx:=c (i+1),ct:=c (i+1),bk:=D.nx} d H2) (hd:∀b H,c xs.length b H->D.nx b H):
  ∃W:Nat->Nat->St->Hp->Prop,(∃m,W 0 m b H)/\∀i m b H,W i m b H->
   ((pM K a).stop i H/\D.nx b H)\/((pM K a).go i H/\∃N:St->Hp->Prop,(∀f H',N f H'->∃j,j<m/\W (i+1) j f H')/\∀x H',(pM K a).yld i H x H'->g x b H' fun d H2=>h {D with nx:=N,ct:=N,bk:=D.nx} d H2):=by
 refine⟨fun i m b H=>m=xs.length - i/\i<=xs.length/\c i b H,⟨xs.length,by simp,JA _,h0⟩,?_⟩
 rintro i m b H ⟨rfl,hi,p⟩
 have q:=o i b H hi p
 by_cases hlt:i<xs.length
 ·refine .inr ⟨⟨xs,xs[i],q,by simp[hlt]⟩,c (i+1),fun f H' l=>⟨xs.length - (i+1),by lia,rfl,hlt,l⟩,fun x H' y=>?_⟩
  obtain⟨e,y⟩:=y
  subst e
  exact n i x b _ (y xs q) p
 ·have e:i=xs.length:=by lia
  subst e
  exact .inl ⟨⟨xs,q,Jg _⟩,hd b H p⟩
theorem cK {f:Int}{n:Nat}{g:TG}{h:TS}{D:fJ}{a:St}{H:Hp}(b:Nat->St->Hp->Prop)(h0:b 0 a H)
  (o:∀i a H,i<n->b i a H->g (.int (f+i)) a H fun c H2=>h {D with nx:=b (i+1),ct:=b (i+1),bk:=D.nx} c H2) (hd:∀a H,b n a H->D.nx a H):
  ∃W:Nat->Nat->St->Hp->Prop,(∃m,W 0 m a H)/\∀i m a H,W i m a H->
   ((wH f n).stop i H/\D.nx a H)\/((wH f n).go i H/\∃N:St->Hp->Prop,(∀d H',N d H'->∃j,j<m/\W (i+1) j d H')/\∀x H',(wH f n).yld i H x H'->g x a H' fun c H2=>h {D with nx:=N,ct:=N,bk:=D.nx} c H2):=by
 refine⟨fun i m a H=>m=n - i/\i<=n/\b i a H,⟨n,by simp,JA _,h0⟩,?_⟩
 rintro i m a H ⟨rfl,hi,p⟩
 by_cases hlt:i<n
 ·refine .inr ⟨hlt,b (i+1),fun d H' l=>⟨n - (i+1),by omega,rfl,hlt,l⟩,fun x H' y=>?_⟩
  obtain⟨e,y⟩:=y
  subst e y
  exact o i a _ hlt p
 ·have e:i=n:=by omega
  subst e
  exact .inl ⟨Jg _,hd a H p⟩
abbrev R2:=V->V->Hp->VK->Prop
def gN (X:Cx) (f:Value->Value->Sem Value) (r:R2):Prop:=
 ∀(pins:List (Addr×Obj)) (s:Shared) (σ:St) (H:Hp) (x y:V) (v u:Value) (Q:VK),aI X pins σ H s->aQ x v->aQ y u->r x y H Q->
  wpAny (model X.prog X.w) X.A (f v u) (EP X pins σ Q) X.xe s
def H_ (X:Cx) (f:Value->Sem Value) (r:V->Hp->VK->Prop):Prop:=
 ∀(pins:List (Addr×Obj)) (s:Shared) (σ:St) (H:Hp) (x:V) (v:Value) (Q:VK),aI X pins σ H s->aQ x v->r x H Q->
  wpAny (model X.prog X.w) X.A (f v) (EP X pins σ Q) X.xe s
def cI (X:Cx) (f:Value) (r:List V->Hp->VK->Prop):Prop:=
 ∀(pins:List (Addr×Obj)) (s:Shared) (σ:St) (H:Hp) (xs:List V) (us:List Value) (Q:VK),aI X pins σ H s->aS xs us->r xs H Q->
  wpAny (model X.prog X.w) X.A (call f us) (EP X pins σ Q) X.xe s
def fZ (r:R2) (ta a:TE):TE:=fun σ H Q=>ta σ H fun x H1=>a σ H1 fun y H2=>r x y H2 Q
def IH (r:V->Hp->VK->Prop) (ta:TE):TE:=fun σ H Q=>ta σ H fun x H1=>r x H1 Q
def rI (C:Int->Int->Prop) (g:Int->Int->V):R2:=fun x y H Q=>∃i j,x=.int i/\y=.int j/\C i j/\Q (g i j) H
def vQ (g:Int->Int->V):R2:=fun x y H Q=>∃i j,x=.int i/\y=.int j/\Q (g i j) H
def rU (g:Int->V):V->Hp->VK->Prop:=fun x H Q=>∃i,x=.int i/\Q (g i) H
section
variable {X:Cx} {a b c:Expr} {ta tb tc:TE} {pos:Pos}
theorem Ft (p:PE X a ta)(o:PE X b tb){c:List (Addr×Obj)}{s:Shared}{d:St}{H:Hp}{R:V->V->Hp->Prop}(I:aI X c d H s)
  (h:ta d H fun x H1=>tb d H1 fun y H2=>R x y H2) {Q:Value->Shared->Prop} {f:Value->Value->Sem Value}
  (j:∀v u i x y H2,aI X c d H2 i->aQ x v->aQ y u->R x y H2->wpAny (model X.prog X.w) X.A (f v u) Q X.xe i):
  wpAny (model X.prog X.w) X.A (eval a X.env) (fun v e=>wpAny (model X.prog X.w) X.A (eval b X.env) (fun u g=>wpAny (model X.prog X.w) X.A (f v u) Q X.xe g) X.xe e) X.xe s:=by
 refine bZ (p c s d H _ I h) fun v l ⟨x,H1,I1,r,n⟩=>?_
 refine bZ (o c l d H1 _ I1 n) fun u i ⟨y,H2,I2,m,q⟩=>?_
 exact j v u i x y H2 I2 r m q
theorem au(d:gN X (binaryOp op) r)(g:PE X a ta)(e:PE X b tb):PE X (.BinOp a op b pos) (fZ r ta tb):=by
 intro pins s σ H Q I h
 exact wpAny_BinOp (Ft g e I h fun v u i x y H2 I2 f c q=>d pins i σ H2 x y v u Q I2 f c q)
theorem GE {b:UnaryOp}{r:V->Hp->VK->Prop}(d:H_ X (unaryOp b) r)(c:PE X a ta):PE X (.UnaryOp b a pos) (IH r ta):=by
 intro pins s σ H Q I h
 exact UnaryOp_ (bZ (c pins s σ H _ I h) fun v e ⟨x,H1,I1,g,f⟩=>d pins e σ H1 x v Q I1 g f)
theorem HG {f:Value->Value->Sem Value}{C:Int->Int->Prop}{g:Int->Int->Int}
  (a:∀(i j:Int) (t u:Tok) (s:Shared) (Q:Value->Shared->Prop) (E:Value->Shared->Prop),C i j->Q (.int (g i j) s.toks) {s with toks:=s.toks+1}->wpAny (model X.prog X.w) X.A (f (.int i t) (.int j u)) Q E s):
  gN X f (rI C fun i j=> .int (g i j)):=by
 intro pins s σ H x y v u Q I c b h
 obtain⟨i,j,rfl,rfl,d,q⟩:=h
 obtain⟨t,rfl⟩:=c
 obtain⟨e,rfl⟩:=b
 exact a i j t e s _ _ d ⟨.int (g i j),H,I.tok _,⟨_,rfl⟩,q⟩
theorem Hk {f:Value->Value->Sem Value}{g:Int->Int->Int}
  (a:∀(i j:Int) (t u:Tok) (s:Shared) (Q:Value->Shared->Prop) (E:Value->Shared->Prop),Q (.int (g i j) s.toks) {s with toks:=s.toks+1}->wpAny (model X.prog X.w) X.A (f (.int i t) (.int j u)) Q E s):
  gN X f (vQ fun i j=> .int (g i j)):=by
 intro pins s σ H x y v u Q I c b h
 obtain⟨i,j,rfl,rfl,q⟩:=h
 obtain⟨t,rfl⟩:=c
 obtain⟨d,rfl⟩:=b
 exact a i j t d s _ _ ⟨.int (g i j),H,I.tok _,⟨_,rfl⟩,q⟩
theorem ES {f:Value->Value->Sem Value}{g:Int->Int->Bool}
  (a:∀(i j:Int) (t u:Tok) (s:Shared) (Q:Value->Shared->Prop) (E:Value->Shared->Prop),Q (.bool (g i j)) s->wpAny (model X.prog X.w) X.A (f (.int i t) (.int j u)) Q E s):
  gN X f (vQ fun i j=> .bl (g i j)):=by
 intro pins s σ H x y v u Q I c b h
 obtain⟨i,j,rfl,rfl,q⟩:=h
 obtain⟨t,rfl⟩:=c
 obtain⟨d,rfl⟩:=b
 exact a i j t d s _ _ ⟨.bl (g i j),H,I,rfl,q⟩
def Fc (i j:Int):Prop:=0<=j/\j<=1000000/\i.natAbs<2^64
def Dj (i j:Int):Prop:=(-(2^64)<i/\i<2^64)\/(-(2^64)<j/\j<2^64)
theorem Dj.ok(h:Dj i j):IntMulOk i j:=by
 rcases h with ⟨h1,h2⟩|⟨h1,h2⟩
 ·exact .of_left (intBits_le_64 h1 h2)
 ·exact .of_right (intBits_le_64 h1 h2)
theorem aZ:gN X (binaryOp .Add) (vQ fun i j=> .int (i+j)):=Hk fun _ _ _ _ _ _ _ q=>add_int q
theorem eJ:gN X (binaryOp .Sub) (vQ fun i j=> .int (i - j)):=Hk fun _ _ _ _ _ _ _ q=>sub_int q
theorem gw:gN X (binaryOp .Mult) (rI Dj fun i j=> .int (i*j)):=HG fun _ _ _ _ _ _ _ a q=>mul_int q a.ok
theorem bF:gN X (binaryOp .Mod) (rI (fun _ j=>0<j) fun i j=> .int (i%j)):=HG fun i j _ _ _ _ _ a q=>by
 have h1:(0:Int)<j:=a
 exact mod_int' (by lia) (by rw[Int.fmod_eq_emod_of_nonneg i (by lia)];exact q)
theorem n_:gN X (binaryOp .Pow) (rI Fc fun i j=> .int (i^j.toNat)):=HG fun _ _ _ _ _ _ _ a q=>pow_int_small a.1 a.2.1 a.2.2 q
theorem IP {f:Value->Sem Value}{g:Int->Int}
  (a:∀(i:Int) (t:Tok) (s:Shared) (Q:Value->Shared->Prop) (E:Value->Shared->Prop),Q (.int (g i) s.toks) {s with toks:=s.toks+1}->wpAny (model X.prog X.w) X.A (f (.int i t)) Q E s):
  H_ X f (rU fun i=> .int (g i)):=by
 intro pins s σ H x v Q I b h
 obtain⟨i,rfl,q⟩:=h
 obtain⟨t,rfl⟩:=b
 exact a i t s _ _ ⟨.int (g i),H,I.tok _,⟨_,rfl⟩,q⟩
theorem EA:H_ X (unaryOp .USub) (rU fun i=> .int (-i)):=IP fun _ _ _ _ _ q=>neg_int q
end
noncomputable def Gv:V->V->Bool
 | .non,.non=>true| .non,.int _=>true| .int _,.non=>true| .non,.bl _=>true| .bl _,.non=>true| .non,.str _=>true| .str _,.non=>true
 | .int _,.int _=>true| .bl _,.bl _=>true| .str _,.str _=>true| .byt _,.byt _=>true
 | .int _,.str _=>true| .str _,.int _=>true| .bl _,.str _=>true| .str _,.bl _=>true
 |_,_=>false
def Hw:R2:=fun x y H Q=>Gv x y=true/\Q (.bl (decide (x=y))) H
def Hx:R2:=fun x y H Q=>Gv x y=true/\Q (.bl (!decide (x=y))) H
theorem j7:decide (V.int i=V.int j)=(i==j):=by
 rw[K6]
 simp
theorem tm:decide (V.bl i=V.bl j)=(i==j):=by
 rw[K6]
 simp
theorem uY:decide (V.str i=V.str j)=(i==j):=by
 rw[K6]
 simp
theorem vy {i j:Array UInt8}:decide (V.byt i=V.byt j)=(i.toList==j.toList):=by
 rw[K6]
 cases i
 cases j
 simp
section
variable {X:Cx} {a b c:Expr} {ta tb tc:TE} {pos:Pos}
theorem ba {a:List (Addr×Obj)}(I:aI X a σ H s)(q:Q (.bl k) H)(e:k=k'):EP X a σ Q (.bool k') s:=by
 subst e
 exact⟨.bl k,H,I,rfl,q⟩
theorem dq:gN X (compareOp .Eq) Hw:=by
 intro pins s σ H x y v u Q I d a h
 obtain⟨c,q⟩:=h
 cases x with
 |non=>
  cases d
  cases y with
  |non=>cases a;exact PySem.EqNone.eq_none_none (ba I q (by simp))
  |bl j=>cases a;exact PySem.EqNone.eq_none_bool (ba I q (by simp))
  |int j=>obtain⟨b,rfl⟩:=a;exact PySem.EqNone.eq_none_int (ba I q (by simp))
  |str j=>obtain⟨b,rfl⟩:=a;exact PySem.EqNone.eq_none_str (ba I q (by simp))
  |_=>exact absurd (show false=true from c) Ju
 |bl i=>
  cases d
  cases y with
  |non=>cases a;exact PySem.EqNone.eq_bool_none (ba I q (by simp))
  |bl j=>cases a;exact eq_bool (ba I q tm)
  |str j=>obtain⟨b,rfl⟩:=a;exact PySem.EqMixed.eq_bool_str (ba I q (by simp))
  |_=>exact absurd (show false=true from c) Ju
 |int i=>
  obtain⟨t,rfl⟩:=d
  cases y with
  |non=>cases a;exact PySem.EqNone.eq_int_none (ba I q (by simp))
  |int j=>obtain⟨b,rfl⟩:=a;exact eq_int (ba I q j7)
  |str j=>obtain⟨b,rfl⟩:=a;exact PySem.EqMixed.eq_int_str (ba I q (by simp))
  |_=>exact absurd (show false=true from c) Ju
 |str i=>
  obtain⟨t,rfl⟩:=d
  cases y with
  |non=>cases a;exact PySem.EqNone.eq_str_none (ba I q (by simp))
  |bl j=>cases a;exact PySem.EqMixed.eq_str_bool (ba I q (by simp))
  |int j=>obtain⟨b,rfl⟩:=a;exact PySem.EqMixed.eq_str_int (ba I q (by simp))
  |str j=>obtain⟨b,rfl⟩:=a;exact eq_str (ba I q uY)
  |_=>exact absurd (show false=true from c) Ju
 |byt i=>
  obtain⟨t,rfl⟩:=d
  cases y with
  |byt j=>obtain⟨b,rfl⟩:=a;exact PySem.W.eq_bytes (ba I q vy)
  |_=>exact absurd (show false=true from c) Ju
 |_=>cases y<;>exact absurd (show false=true from c) Ju
theorem fQ:gN X (compareOp .NotEq) Hx:=by
 intro pins s σ H x y v u Q I d a h
 obtain⟨c,q⟩:=h
 cases x with
 |non=>
  cases d
  cases y with
  |non=>cases a;exact PySem.EqNone.ne_none_none (ba I q (by simp))
  |bl j=>cases a;exact PySem.EqNone.ne_none_bool (ba I q (by simp))
  |int j=>obtain⟨b,rfl⟩:=a;exact PySem.EqNone.ne_none_int (ba I q (by simp))
  |str j=>obtain⟨b,rfl⟩:=a;exact PySem.EqNone.ne_none_str (ba I q (by simp))
  |_=>exact absurd (show false=true from c) Ju
 |bl i=>
  cases d
  cases y with
  |non=>cases a;exact PySem.EqNone.ne_bool_none (ba I q (by simp))
  |bl j=>cases a;exact ne_bool (ba I q (congrArg not tm))
  |str j=>obtain⟨b,rfl⟩:=a;exact PySem.EqMixed.ne_bool_str (ba I q (by simp))
  |_=>exact absurd (show false=true from c) Ju
 |int i=>
  obtain⟨t,rfl⟩:=d
  cases y with
  |non=>cases a;exact PySem.EqNone.ne_int_none (ba I q (by simp))
  |int j=>obtain⟨b,rfl⟩:=a;exact ne_int (ba I q (congrArg not j7))
  |str j=>obtain⟨b,rfl⟩:=a;exact PySem.EqMixed.ne_int_str (ba I q (by simp))
  |_=>exact absurd (show false=true from c) Ju
 |str i=>
  obtain⟨t,rfl⟩:=d
  cases y with
  |non=>cases a;exact PySem.EqNone.ne_str_none (ba I q (by simp))
  |bl j=>cases a;exact PySem.EqMixed.ne_str_bool (ba I q (by simp))
  |int j=>obtain⟨b,rfl⟩:=a;exact PySem.EqMixed.ne_str_int (ba I q (by simp))
  |str j=>obtain⟨b,rfl⟩:=a;exact ne_str (ba I q (congrArg not uY))
  |_=>exact absurd (show false=true from c) Ju
 |byt i=>
  obtain⟨t,rfl⟩:=d
  cases y with
  |byt j=>obtain⟨b,rfl⟩:=a;exact PySem.W.ne_bytes (ba I q (congrArg not vy))
  |_=>exact absurd (show false=true from c) Ju
 |_=>cases y<;>exact absurd (show false=true from c) Ju
theorem vo:gN X (compareOp .Lt) (vQ fun i j=> .bl (decide (i<j))):=ES fun _ _ _ _ _ _ _ q=>lt_int q
theorem di:gN X (compareOp .LtE) (vQ fun i j=> .bl (decide (i<=j))):=ES fun _ _ _ _ _ _ _ q=>le_int q
theorem qF:gN X (compareOp .Gt) (vQ fun i j=> .bl (decide (j<i))):=ES fun _ _ _ _ _ _ _ q=>gt_int q
theorem mJ:gN X (compareOp .In) (fun x y H Q=>∃i j,x=.str i/\y=.str j/\Q (.bl (!(Builtin.Str.occurrences j i 0 j.length 1).isEmpty)) H):=by
 intro pins s σ H x y v u Q I b a h
 obtain⟨i,j,rfl,rfl,q⟩:=h
 obtain⟨t,rfl⟩:=b
 obtain⟨c,rfl⟩:=a
 exact in_str (ba I q rfl)
theorem fB:gN X (compareOp .Is) (fun x y H Q=>y=.non/\Q (.bl (decide (x=.non))) H):=by
 intro pins s σ H x y v u Q I a b h
 obtain⟨rfl,q⟩:=h
 cases b
 refine is_none_gen (ba I q ?_)
 cases x<;>first
  |(cases a;rfl)
  |(obtain⟨t,rfl⟩:=a;rfl)
theorem C4:gN X (compareOp .IsNot) (fun x y H Q=>y=.non/\Q (.bl (!decide (x=.non))) H):=by
 intro pins s σ H x y v u Q I a b h
 obtain⟨rfl,q⟩:=h
 cases b
 refine isnot_none_gen (ba I q ?_)
 cases x<;>first
  |(cases a;rfl)
  |(obtain⟨t,rfl⟩:=a;rfl)
theorem iP:gN X (compareOp .NotIn) (fun x y H Q=>∃i j,x=.str i/\y=.str j/\Q (.bl (!(!(Builtin.Str.occurrences j i 0 j.length 1).isEmpty))) H):=by
 intro pins s σ H x y v u Q I b a h
 obtain⟨i,j,rfl,rfl,q⟩:=h
 obtain⟨t,rfl⟩:=b
 obtain⟨c,rfl⟩:=a
 exact notIn_str (ba I q rfl)
theorem zB (b:Expr){a:CmpOp}(h:a≠.In:=by decide)(d:a≠.NotIn:=by decide):behindInMarks a b=false:=by
 have c:(a==CmpOp.In)=false:=by cases a<;>first|rfl|exact absurd rfl h
 have e:(a==CmpOp.NotIn)=false:=by cases a<;>first|rfl|exact absurd rfl d
 cases b<;>simp[behindInMarks,c,e]
theorem kh(d:gN X (compareOp op) r)(i:PE X a ta)(e:PE X b tb)(g:behindInMarks op b=false):PE X (.Compare a [op] [b] pos) (fZ r ta tb):=by
 intro pins s σ H Q I h
 exact wpAny_Compare1 (Ft i e I h fun v u j x y H2 I2 f c q=>d pins j σ H2 x y v u Q I2 f c q) g
def jk (t:TE):TT:=fun σ H Q=>t σ H fun x H'=>∃k,x=.bl k/\Q k H'
theorem i4(d:gN X (compareOp op) r)(m:PE X a ta)(j:PE X b tb)(l:behindInMarks op b=false):PT X (.Compare a [op] [b] pos) (jk (fZ r ta tb)):=by
 intro pins s σ H Q I h
 refine wpAny_isTrue_Compare1 (bZ (m pins s σ H _ I h) fun v f ⟨x,H1,I1,w,i⟩=>bZ (j pins f σ H1 _ I1 i) fun u p ⟨y,H2,I2,g,n⟩=>
  bZ (d pins p σ H2 x y v u _ I2 w g n) fun c A ⟨z,H3,I3,o,k,e,q⟩=>?_) l
 subst e
 cases o
 exact Kn ⟨H3,I3,q⟩
def ub (r c:R2) (ta a b:TE):TE:=fun σ H Q=>ta σ H fun x H1=>a σ H1 fun y H2=>r x y H2 fun z H3=>∃k,z=.bl k/\
 (if k=true then b σ H3 fun d H4=>c y d H4 Q else Q (.bl false) H3)
theorem lO(l:gN X (compareOp op) r)(f:gN X (compareOp op') r')(D:PE X a ta)(A:PE X b tb)(B:PE X c tc)
  (C:lastMarks [op,op'] [b,c]=false:=by with_unfolding_all rfl):PE X (.Compare a [op,op'] [b,c] pos) (ub r r' ta tb tc):=by
 intro pins s σ H Q I h
 refine Compare_chain (bZ (D pins s σ H _ I h) fun v m ⟨x,H1,I1,J,q⟩=>chain_link (bZ (A pins m σ H1 _ I1 q) fun u G ⟨y,H2,I2,g,E⟩=>
  bZ (l pins G σ H2 x y v u _ I2 J g E) fun d w ⟨z,H3,I3,F,k,e,i⟩=>?_)) C
 subst e
 cases F
 refine Kn ?_
 cases k with
 |false=>exact ite_ff ⟨.bl false,H3,I3,rfl,i⟩
 |true=>exact ite_tt (chain_last (bZ (B pins w σ H3 _ I3 i) fun o s4 ⟨j,H4,I4,n,p⟩=>f pins s4 σ H4 y j u o Q I4 g n p))
theorem dI(j:gN X (compareOp op) r)(f:gN X (compareOp op') r')(D:PE X a ta)(B:PE X b tb)(C:PE X c tc)
  (N:lastMarks [op,op'] [b,c]=false:=by with_unfolding_all rfl):PT X (.Compare a [op,op'] [b,c] pos) (jk (ub r r' ta tb tc)):=by
 intro pins s σ H Q I h
 refine isTrue_chain (bZ (D pins s σ H _ I h) fun v l ⟨x,H1,I1,F,w⟩=>test_link (bZ (B pins l σ H1 _ I1 w) fun u G ⟨y,H2,I2,i,E⟩=>
  bZ (j pins G σ H2 x y v u _ I2 F i E) fun d A ⟨z,H3,I3,P,k,e,g⟩=>?_)) N
 subst e
 cases P
 refine Kn ?_
 cases k with
 |false=>
  obtain⟨k',K,m⟩:=g
  cases K
  exact ite_ff ⟨H3,I3,m⟩
 |true=>
  refine ite_tt (test_last (bZ (C pins A σ H3 _ I3 g) fun R s4 ⟨J,H4,I4,n,p⟩=>bZ (f pins s4 σ H4 y J u R _ I4 i n p) fun S U O=>?_))
  obtain⟨T,H5,I5,q,k2,M,o⟩:=O
  subst M
  cases q
  exact Kn ⟨H5,I5,o⟩
theorem jB:(sizeLine:Nat)<2^63:=by rw[sizeLine_eq];decide
theorem iC:gN X (binaryOp .Add) (fun x y H Q=>∃i j,x=.str i/\y=.str j/\i.length+j.length<=sizeLine/\Q (.str (i++j)) H):=by
 intro pins s σ H x y v u Q I c b h
 obtain⟨i,j,rfl,rfl,a,q⟩:=h
 obtain⟨t,rfl⟩:=c
 obtain⟨d,rfl⟩:=b
 exact add_str (fun d tk=>⟨.str (i++j),H,I.tok _,⟨_,rfl⟩,q⟩) a
theorem df(r:aS [x] us):∃u,us=[u]/\aQ x u:=by
 cases r with
 |cons r1 r2=>cases r2;exact⟨_,rfl,r1⟩
theorem lC(r:aS [x,y] us):∃u w',us=[u,w']/\aQ x u/\aQ y w':=by
 cases r with
 |cons r1 r2=>
  cases r2 with
  |cons r3 r4=>cases r4;exact⟨_,_,rfl,r1,r3⟩
theorem qz:cI X (.builtin "abs") (fun xs H Q=>∃i,xs=[.int i]/\Q (.int (if i<0 then -i else i)) H):=by
 intro pins s σ H xs us Q I r h
 obtain⟨i,rfl,q⟩:=h
 obtain⟨u,rfl,t,rfl⟩:=df r
 exact call_abs_int fun u tk=>⟨.int (if i<0 then -i else i),H,I.tok _,⟨_,rfl⟩,q⟩
theorem dA (a:X.calm=true):cI X (.builtin "max") (fun xs H Q=>∃i j,xs=[.int i,.int j]/\Q (.int (if j>i then j else i)) H):=by
 intro pins s σ H xs us Q I r h
 obtain⟨i,j,rfl,q⟩:=h
 obtain⟨u,c,rfl,⟨t,rfl⟩,⟨b,rfl⟩⟩:=lC r
 refine max_two_ints (I.ok.hd a) fun h' tk k=>⟨_,H,I.kept k,?_,q⟩
 by_cases hj:j>i
 ·rw[if_pos hj,if_pos hj];exact⟨_,rfl⟩
 ·rw[if_neg hj,if_neg hj];exact⟨_,rfl⟩
theorem dz (a:X.calm=true):cI X (.builtin "min") (fun xs H Q=>∃i j,xs=[.int i,.int j]/\Q (.int (if j<i then j else i)) H):=by
 intro pins s σ H xs us Q I r h
 obtain⟨i,j,rfl,q⟩:=h
 obtain⟨u,c,rfl,⟨t,rfl⟩,⟨b,rfl⟩⟩:=lC r
 refine min_two_ints (I.ok.hd a) fun h' tk k=>⟨_,H,I.kept k,?_,q⟩
 by_cases hj:j<i
 ·rw[if_pos hj,if_pos hj];exact⟨_,rfl⟩
 ·rw[if_neg hj,if_neg hj];exact⟨_,rfl⟩
theorem dC:cI X (.type "str") (fun xs H Q=>∃i,xs=[.int i]/\i.natAbs.log2<1920/\Q (.str (toString i)) H):=by
 intro pins s σ H xs us Q I r h
 obtain⟨i,rfl,a,q⟩:=h
 obtain⟨u,rfl,t,rfl⟩:=df r
 exact PySem.P.str_of_int a ⟨.str _,H,I.tok _,⟨_,rfl⟩,q⟩
def AF (K:Je) (x:V) (H:Hp) (n:Nat):Prop:=
 match x with
 | .str y=>y.length<=sizeLine/\n=y.length
 | .byt y=>y.size<=sizeLine/\n=y.size
 | .ref p=>(∃xs,aH K H p xs/\n=xs.length)\/∃xs,cn K H p xs/\n=xs.length
 |_=>False
theorem aV:cI X (.builtin "len") (fun xs H Q=>∃x n,xs=[x]/\AF X.K x H n/\Q (.int n) H):=by
 intro pins s σ H xs us Q I r h
 obtain⟨x,n,rfl,e,q⟩:=h
 obtain⟨u,rfl,f⟩:=df r
 have o:=jB
 have m:sizeLine=16777216:=sizeLine_eq
 cases x with
 |str y=>
  obtain⟨t,rfl⟩:=f
  obtain⟨l,c⟩:y.length<=sizeLine/\n=y.length:=e
  subst c
  exact len_str (by lia) ⟨.int _,H,I.tok _,⟨_,rfl⟩,q⟩
 |byt y=>
  obtain⟨t,rfl⟩:=f
  obtain⟨l,c⟩:y.size<=sizeLine/\n=y.size:=e
  subst c
  exact PySem.W.len_bytes (by lia) ⟨.int _,H,I.tok _,⟨_,rfl⟩,q⟩
 |ref p=>
  cases f
  have c:(∃xs,aH X.K H p xs/\n=xs.length)\/∃xs,cn X.K H p xs/\n=xs.length:=e
  rcases c with ⟨xs,d,c⟩|⟨xs,d,c⟩
  ·subst c
   obtain⟨b,i,g,j⟩:=I.list d
   have a:=i.length
   exact Calls.call_len_list g.isList (by simp only[JF];lia) ⟨.int xs.length,H,I.tok _,⟨_,by simp only[JF];rw[a]⟩,q⟩
  ·subst c
   obtain⟨b,i,g,j⟩:=I.tuple d
   have a:=i.length
   exact len_tuple g (by simp only[JF];lia) ⟨.int xs.length,H,I.tok _,⟨_,by simp only[JF];rw[a]⟩,q⟩
 |_=>exact(show False from e).elim
end
structure si (h:Heap) (x dx C:Addr) (mA:Str->Option Value):Prop where
 obj:h.get? x=some (KM C dx)
 ns:h.Ns1 dx mA
 ne:dx≠x
set_option tactic.hygienic true in
theorem xQ {h:Heap}{f:Addr}{c:Str->Option Value}(n:h.Ns1 f c):∃d,h.get? f=some d/\∀name,PySem.W.lookIn name d=some (c name):=by
 obtain⟨o,es,ep,g,hd,i,_,l⟩:=n
 refine⟨o,g,fun name=>?_⟩
 have e:=l name
 unfold nsFind findBy at e
 rw[<-Array.find?_toList] at e
 unfold PySem.W.lookIn
 rw[hd]
 dsimp only
 split
 ·rename_i y q
  rw[q] at e
  exact congrArg some e
 ·rename_i q
  rw[q] at e
  have a:es.toList.any (·.refKey)=false:=by
   rw[LR]
   intro y m
   obtain⟨z,t,b⟩:=i y (Kz.mp m)
   simp[DictEntry.refKey,b]
  have j:¬es.toList.any (·.refKey)=true:=by rw[a];exact Ju
  rw[if_neg j]
  exact congrArg some e
theorem si.look(I:si h x dx C mA):∃a,PySem.W.InstAt h x (KM C dx) C (some a)/\∀name,PySem.W.lookIn name a=some (mA name):=
 let ⟨a,ho,hl⟩:=xQ I.ns
 ⟨a,⟨I.obj,rfl,rfl,ho⟩,hl⟩
section
variable {prog:Program} {w:World} {A:Around} {E:Value->Shared->Prop} {s:Shared} {K:Je} {x dx C f:Addr} {mA:Str->Option Value} {name:Str} {v:Value}
theorem BZ(X:K.In s.heap)(I:si s.heap x dx C mA)(f:Lx K C name=true)(c:LS K C=true)
  (b:JS K (.ref C) name=some none) (e:mA name=some v) (a:PySem.W.handedIn v=true) (h:Q v {s with toks:=s.toks+1}):
  wpAny (model prog w) A (getAttr (.ref x) name expr) Q E s:=by
 obtain⟨g,J,d⟩:=I.look
 exact PySem.W.get_value X J (PySem.W.plainGet_of f).1 (PySem.W.findObj_own c b rfl (by rw[d,e])) a h
theorem Ad {pl:Sem Bool}{Q:Value×List Value->Shared->Prop}(X:K.In s.heap)(I:si s.heap x dx C mA)(a:Lx K C name=true)
  (c:JS K (.ref C) name=some (some (.ref f))) (b:KQ K (.ref f)=true) (e:mA name=none) (h:Q (.ref f,[.ref x]) s):
  wpAny (model prog w) A (getMethod (.ref x) name pl) Q E s:=by
 obtain⟨g,J,d⟩:=I.look
 exact PySem.W.method_fn X J (PySem.W.plainGet_of a).1 (PySem.W.plainGet_of a).2 c (beq_iff_eq.mp b) (by show(PySem.W.lookIn name g).map (·.isSome)=some false;rw[d,e];rfl) h
theorem C0{ns:List Str}{Q:Unit->Shared->Prop}(X:K.In s.heap)(I:si s.heap x dx C mA)
  (q:JS K (.ref C) "__setattr__" =some (some (.builtin "object.__setattr__"))) (z:PySem.W.plainOver K C=true) (n:PySem.W.takerIn K C name=some none) (o:LS K C=true)
  (m:PySem.Within mA ns) (hsz:ns.length<=sizeLine)
  (h:∀h',si h' x dx C (fun y=>if y=name then some v else mA y)->Heap.SameBut dx s.heap h'->Q () {s with heap:=h',toks:=s.toks+2}):
  wpAny (model prog w) A (setAttr (.ref x) name v) Q E s:=by
 obtain⟨F,J,D⟩:=I.look
 refine PySem.W.set_plain X J q (PySem.W.osa_open (s:={s with toks:=s.toks+1}) (r:=none) X J z n fun b=>?_)
 obtain⟨cd,u,d⟩:=PySem.W.any_some o
 have p:s.heap.get? x=some ⟨.ref C,some dx,.plain,#[]⟩:=I.obj
 refine Jc (Jf (Jc (Jc (wpAny_loadPart p (Jc (PySem.W.Looks.here (s:={s with toks:=s.toks+1}) (PySem.W.looks_clsIn X u) ?_))))))
 rw[d]
 refine Jf (a:=some dx) (Jc (Jf (Jc ?_)))
 refine wpAny_nsSet1 (s:={s with toks:=s.toks+1}) I.ns fun h' l j=>?_
 obtain⟨B,g,i,e,f,c⟩:=l.count (PySem.Within.cons name v m)
 refine Jc (wpAny_lookBehind e (by rw[f];exact pastItsLine_dict (Jn c (by rw[JC];lia))) ?_)
 exact Jf (h _ ⟨(j.2 _ (JH I.ne)).trans I.obj,l,I.ne⟩ j)
theorem AZ{b:List (Str×Value)}(X:K.In s.heap)(e:PySem.W.makesIn K C=true)
  (c:JS K (.ref C) "__init__" =some (some (.ref f))) (i:PySem.W.typeIn K (.ref f)=some (.type "function"))
  (h:codeAny (model prog w) (A.under (.builtin "type.__call__" ⟨.ref C::vs,b⟩)) (.call (.ref f) ⟨.ref (s.heap.objs.size+1)::vs,b⟩) (PySem.W.InitBack (s.heap.objs.size+1) R)
   {s with heap:=(s.heap.push KA).push (KM C s.heap.objs.size)}):
  codeAny (model prog w) A (.call (.ref C) ⟨vs,b⟩) R s:=by
 obtain⟨j,g,d,t,os⟩:=s
 exact PySem.W.make_core (PySem.W.makes_of X e) (PySem.W.looks_findIn X c) (fun a=>PySem.W.bind_fn X a i) (.inl rfl) h
end
noncomputable def eF (f:Str) (v:V):List (Str×V)->List (Str×V)
 |[]=>[(f,v)]
 |(g,x)::r=>if g=f then (g,v)::r else (g,x)::eF f v r
theorem aJ (f g:Str)(v:V):∀fs:List (Str×V),(eF f v fs).lookup g=if g=f then some v else fs.lookup g
 |[]=>by
  show KB g [(f,v)]=_
  by_cases h:g=f
  ·have a:(g==f)=true:=beq_iff_eq.mpr h
   simp only[KB,a,if_pos h]
  ·have a:(g==f)=false:=beq_eq_false_iff_ne.mpr h
   simp only[KB,a,if_neg h]
 |(k,x)::r=>by
  have b:=aJ f g v r
  rw[show eF f v ((k,x)::r)=(if k=f then (k,v)::r else (k,x)::eF f v r) from rfl]
  by_cases hk:k=f
  ·rw[if_pos hk]
   by_cases h:g=k
   ·have a:(g==k)=true:=beq_iff_eq.mpr h
    simp only[KB,a,if_pos (h.trans hk)]
   ·have a:(g==k)=false:=beq_eq_false_iff_ne.mpr h
    simp only[KB,a,if_neg (fun e:g=f=>h (e.trans hk.symm))]
  ·rw[if_neg hk]
   by_cases h:g=k
   ·have a:(g==k)=true:=beq_iff_eq.mpr h
    simp only[KB,a,if_neg (fun e:g=f=>hk (h.symm.trans e))]
   ·have a:(g==k)=false:=beq_eq_false_iff_ne.mpr h
    simp only[KB,a]
    exact b
theorem jF (f:Str)(v:V):∀fs:List (Str×V),f∈(eF f v fs).map (·.1)/\∀g,g∈fs.map (·.1)->g∈(eF f v fs).map (·.1)
 |[]=>⟨by simp[eF],fun g h=>by simp at h⟩
 |(k,x)::r=>by
  obtain⟨a,b⟩:=jF f v r
  rw[show eF f v ((k,x)::r)=(if k=f then (k,v)::r else (k,x)::eF f v r) from rfl]
  by_cases hk:k=f
  ·rw[if_pos hk]
   subst hk
   exact⟨by simp,fun g h=>by simpa using h⟩
  ·rw[if_neg hk]
   refine⟨?_,fun g h=>?_⟩
   ·rw[Jr]
    exact Jq _ a
   ·rw[Jr] at h|-
    rcases Jo.mp h with e|e
    ·exact Jo.mpr (.inl e)
    ·exact Jq _ (b g e)
theorem bq (f:Str)(v:V):∀fs:List (Str×V),(eF f v fs).length<=fs.length+1
 |[]=>by simp[eF]
 |(k,x)::r=>by
  have a:=bq f v r
  rw[show eF f v ((k,x)::r)=(if k=f then (k,v)::r else (k,x)::eF f v r) from rfl]
  by_cases hk:k=f
  ·rw[if_pos hk,JC,JC];lia
  ·rw[if_neg hk,JC,JC];lia
theorem iq.some_of{o:Option Value}(r:iq (some v) o):∃u,o=some u/\aQ v u:=by
 cases o with
 |none=>exact(show False from r).elim
 |some u=>exact⟨u,rfl,r⟩
theorem iq.none_of {o:Option Value}(r:iq none o):o=none:=by
 cases o with
 |none=>rfl
 |some u=>exact(show False from r).elim
theorem xh(r:aQ v u):PySem.W.handedIn u=true:=by
 cases v with
 |non=>cases(show u=Value.none from r);rfl
 |bl b=>cases(show u=Value.bool b from r);rfl
 |int i=>obtain⟨t,e⟩:=(show∃t,u=Value.int i t from r);cases e;rfl
 |str x=>obtain⟨t,e⟩:=(show∃t,u=Value.str x t from r);cases e;rfl
 |byt b=>obtain⟨t,e⟩:=(show∃t,u=Value.bytes b t from r);cases e;rfl
 |flt b=>obtain⟨t,e⟩:=(show∃t,u=Value.float b t from r);cases e;rfl
 |ref a=>cases(show u=Value.ref a from r);rfl
 |ty n=>cases(show u=Value.type n from r);rfl
section
variable {P:Program} {w:World} {H H':Hp} {h h':Heap} {a C dx:Addr} {fs fs':List (Str×V)}
theorem jY (b:h_ P w H h)(e:H a=some (.ins C dx fs)):∃mA,si h a dx C mA/\(∀f,iq (fs.lookup f) (mA f))/\PySem.Within mA (fs.map (·.1))/\fs.length<=1000/\H dx=some (.own a):=by
 obtain⟨d,z,c,g,mA,n,r,q⟩:=(show bM P w H h a (.ins C dx fs) from b a _ e)
 exact⟨mA,⟨g,n,c⟩,r,q,z,d⟩
end
structure jn (K:Je) (C:Addr):Prop where
 pg:Lx K C Str.empty=true
 hd:LS K C=true
 po:PySem.W.plainOver K C=true
 sa:JS K (.ref C) "__setattr__" =some (some (.builtin "object.__setattr__"))
theorem jn.get {K:Je}{C:Addr}(c:jn K C)(f:Str):Lx K C f=true:=c.pg
def a_ (K:Je) (C:Addr) (f:Str):Prop:=JS K (.ref C) f=some none
theorem a_.taker {K:Je}{C:Addr}{f:Str}(n:a_ K C f):PySem.W.takerIn K C f=some none:=by
 unfold PySem.W.takerIn
 rw[show JS K (.ref C) f=some none from n]
 rfl
structure DE (K:Je) (C:Addr) (m:Str) (f:Addr):Prop where
 at_:JS K (.ref C) m=some (some (.ref f))
 fn:KQ K (.ref f)=true
 kp:JW K (.ref f)=true
section
variable {X:Cx} {pins:List (Addr×Obj)} {σ:St} {H:Hp} {s:Shared} {a C dx:Addr} {fs:List (Str×V)} {f:Str} {v:V} {A:Around} {E:Value->Shared->Prop}
theorem tf(I:aI X pins σ H s)(e:H a=some (.ins C dx fs))(c:jn X.K C)(n:a_ X.K C f)(l:fs.lookup f=some v)
  (h:∀u s',aI X pins σ H s'->aQ v u->Q u s'):wpAny (model X.prog X.w) A (getAttr (.ref a) f b) Q E s:=by
 obtain⟨mA,O,r,_,_,_⟩:=jY I.hok e
 obtain⟨u,g,d⟩:=iq.some_of (v:=v) (o:=mA f) (by rw[<-l];exact r f)
 exact BZ I.kIn O (c.get f) c.hd n g (xh d) (h u _ (I.tok _) d)
theorem gq{pl:Sem Bool}{Q:Value×List Value->Shared->Prop}(I:aI X pins σ H s)(e:H a=some (.ins C dx fs))(c:jn X.K C)(k:DE X.K C m g)(l:fs.lookup m=none)
  (h:Q (.ref g,[.ref a]) s):wpAny (model X.prog X.w) A (getMethod (.ref a) m pl) Q E s:=by
 obtain⟨mA,O,r,_,_,_⟩:=jY I.hok e
 have b:mA m=none:=iq.none_of (by rw[<-l];exact r m)
 exact Ad I.kIn O (c.get m) k.at_ k.fn b h
theorem tW{Q:Unit->Shared->Prop}(I:aI X pins σ H s)(e:H a=some (.ins C dx fs))(c:jn X.K C)(n:a_ X.K C f)(m:fs.length<1000)(j:aQ y u)
  (h:∀s',aI X pins σ (upd H a (.ins C dx (eF f y fs))) s'->Q () s'):wpAny (model X.prog X.w) A (setAttr (.ref a) f u) Q E s:=by
 obtain⟨mA,O,r,wi,_,d⟩:=jY I.hok e
 have i:(fs.map (·.1)).length<=sizeLine:=by rw[Jd,sizeLine_eq];lia
 refine C0 I.kIn O c.sa c.po n.taker c.hd wi i fun h' O' sb=>h _ ?_
 have hd:∃o,h'.get? dx=some o:=let ⟨o,_,_,e',_⟩:=O'.ns;⟨o,e'⟩
 refine I.write (x:=a) (e:=dx) (by rw[e];exact True.intro) (.inr d) (fun b q l z=>(sb.2 b l).trans z) hd ?_
 refine⟨by rw[ak O.ne];exact d,?_,O.ne,O'.obj,_,O'.ns,fun g=>?_,fun g hg=>?_⟩
 ·have:=bq f y fs;lia
 ·show iq ((eF f y fs).lookup g) (if g=f then some u else mA g)
  rw[aJ]
  by_cases q:g=f
  ·rw[if_pos q,if_pos q];exact j
  ·rw[if_neg q,if_neg q];exact r g
 ·by_cases q:g=f
  ·rw[q];exact(jF f y fs).1
  ·refine(jF f y fs).2 g (wi g fun z=>hg ?_)
   show(if g=f then some u else mA g)=none
   rw[if_neg q];exact z
theorem aI.made (I:aI X pins σ H s):aI X pins σ (upd (upd H s.heap.objs.size (.own (s.heap.objs.size+1))) (s.heap.objs.size+1) (.ins C s.heap.objs.size []))
  {s with heap:=(s.heap.push KA).push (KM C s.heap.objs.size)}:=by
 have c:(s.heap.push KA).get? s.heap.objs.size=some KA:=Jx s.heap rfl
 have i:((s.heap.push KA).push (KM C s.heap.objs.size)).get? (s.heap.objs.size+1)=some (KM C s.heap.objs.size):=by
  have:=Jx (s.heap.push KA) (o:=KM C s.heap.objs.size) rfl
  rwa [J6] at this
 have g:(s.heap.push KA).Ns s.heap.objs.size (fun _=>none):=⟨KA,#[],_,c,rfl,(fun e f=>absurd f (by simp)),fun _=>rfl⟩
 have h:=I.laid (a:=s.heap.objs.size) (o:=.own (s.heap.objs.size+1)) (h':=s.heap.push KA) (t':=s.toks) (fun b u q=>Jj _ q) (Jg _) ⟨_,c⟩
 refine h.laid (a:=s.heap.objs.size+1) (o:=.ins C s.heap.objs.size []) (t':=s.toks) (fun b u q=>Jj _ q) (Nat.le_of_eq (J6 _ _)) ?_
 have d:s.heap.objs.size≠s.heap.objs.size+1:=Jw (Ly _)
 refine⟨by rw[ak d,ae],JA _,d,i,fun _=>none,(Heap.Ns1.of_empty g).at fun o q=>Jj _ q,fun _=>True.intro,fun y j=>absurd rfl j⟩
theorem CI(b:attributeBase e f env (eval e env)=eval e env)
  (h:wpAny (model prog w) A (eval e env) (fun o a=>wpAny (model prog w) A (getAttr o f true) Q E a) E s):wpAny (model prog w) A (eval (.Attribute e f pos) env) Q E s:=
 Attribute_any_ h (by rw[arm_eval_Attribute,b])
end
def wD (K:Je) (ta:TE) (f:Str):TE:=fun σ H Q=>ta σ H fun x H1=>∃a C dx fs v,x=.ref a/\H1 a=some (.ins C dx fs)/\jn K C/\a_ K C f/\fs.lookup f=some v/\Q v H1
def HJ (K:Je) (ta b:TE) (f:Str):TS:=fun D σ H=>b σ H fun y H1=>ta σ H1 fun x H2=>∃a C dx fs,x=.ref a/\H2 a=some (.ins C dx fs)/\jn K C/\a_ K C f/\fs.length<1000/\
 D.nx σ (upd H2 a (.ins C dx (eF f y fs)))
section
variable {X:Cx} {o e value:Expr} {f:Str} {pos pos' tpos:Pos} {ta tv:TE}
theorem bC (b:PE X e ta)(d:attributeBase e f X.env (eval e X.env)=eval e X.env):PE X (.Attribute e f pos) (wD X.K ta f):=by
 intro pins s σ H Q I h
 refine CI d (bZ (b pins s σ H _ I h) fun u p m=>?_)
 obtain⟨x,H1,I1,g,a,C,dx,fs,v,ex,j,c,n,l,q⟩:=m
 subst ex
 obtain rfl:u=Value.ref a:=g
 exact tf I1 j c n l fun o r I2 i=>⟨v,H1,I2,i,q⟩
theorem eM (j:PE X o ta)(e:PE X value tv)(g:swapsWith value (some (.Attribute o f pos')) pos.line X.env=pure false):PS X (.Assign [.Attribute o f pos'] value pos) (HJ X.K ta tv f):=by
 intro pins s σ H D I h
 refine plainObj_wpAny_Assign_Attribute (bZ (e pins s σ H _ I h) fun u d ⟨y,H1,I1,b,q⟩=>bZ (j pins d σ H1 _ I1 q) fun ov w r=>?_) g
 obtain⟨x,H2,I2,i,a,C,dx,fs,ex,m,c,n,l,p⟩:=r
 subst ex
 obtain rfl:ov=Value.ref a:=i
 exact tW I2 m c n l b fun v I3=>⟨σ,_,I3,p⟩
end
section
variable {X:Cx} {pins:List (Addr×Obj)} {σ:St} {H:Hp} {s:Shared} {A:Around} {E:Value->Shared->Prop} {Q:Value->Shared->Prop} {c:Value} {b:Bool}
inductive gi (K:Je) (H:Hp):V->Value->Prop where
 |non:gi K H .non (.type "NoneType")
 |bl (x:Bool):gi K H (.bl x) (.type "bool")
 |int (i:Int):gi K H (.int i) (.type "int")
 |str (x:Str):gi K H (.str x) (.type "str")
 |flt (x:UInt64):gi K H (.flt x) (.type "float")
 |lst {a:Addr} {xs:List V} (e:H a=some (.lst xs)):gi K H (.ref a) (.type "list")
 |frz {a:Addr} {o:Obj} {xs:List V} (e:H a=some (.frz o (.lst xs))):gi K H (.ref a) (.type "list")
 |tup {a:Addr} {xs:List V} (e:H a=some (.tup xs)):gi K H (.ref a) (.type "tuple")
 |dK {a:Addr} {kvs:List (cP×V)} (e:H a=some (.dK kvs)):gi K H (.ref a) (.type "dict")
 |dT {a:Addr} {kvs:List (List cP×V)} (e:H a=some (.dT kvs)):gi K H (.ref a) (.type "dict")
 |ins {a C dx:Addr} {fs:List (Str×V)} (e:H a=some (.ins C dx fs)) (cl:jn K C) (ha:JS K (.ref C) "__class__" =some (some (.builtin "object.__class__")))
   (hn:LU K (.builtin "object.__class__") "__get__" =some (some (.builtin "getset_descriptor.__get__"))) (htk:PySem.W.takesIn K (.builtin "object.__class__")=some true)
   (hm:PySem.W.mroIn K C (.type "object")=some true):gi K H (.ref a) (.ref C)
theorem nh(I:aI X pins σ H s)(d:aQ x u)(ty:gi X.K H x t)(e:JN X.K t c=some b)(h:∀tk,Q (.bool b) {s with toks:=tk}):
  wpAny (model X.prog X.w) A (call (.builtin "isinstance") [u,c]) Q E s:=by
 cases ty with
 |non=>cases(show u=Value.none from d);exact Kf PySem.W.kitx_none I.kIn True.intro e (fun z=>nomatch z) h
 |bl y=>cases(show u=Value.bool y from d);exact Kf PySem.W.kitx_bool I.kIn True.intro e (fun z=>nomatch z) h
 |int i=>obtain⟨t,q⟩:=(show∃t,u=Value.int i t from d);cases q;exact Kf PySem.W.kitx_int I.kIn True.intro e (fun z=>nomatch z) h
 |str y=>obtain⟨t,q⟩:=(show∃t,u=Value.str y t from d);cases q;exact Kf PySem.W.kitx_str I.kIn True.intro e (fun z=>nomatch z) h
 |flt y=>obtain⟨t,q⟩:=(show∃t,u=Value.float y t from d);cases q;exact Kf PySem.W.kitx_float I.kIn True.intro e (fun z=>nomatch z) h
 | @lst a xs ea=>
  cases(show u=Value.ref a from d)
  obtain⟨_,_,n,_,h1⟩:=(show bM X.prog X.w H s.heap a (.lst xs) from I.hok a _ ea)
  exact Kf PySem.W.kitx_list I.kIn ⟨_,h1,rfl⟩ e (fun z=>nomatch z) h
 | @frz a ob xs ea=>
  cases(show u=Value.ref a from d)
  obtain⟨_,_,_,n,_,h1⟩:=(show bM X.prog X.w H s.heap a (.frz ob (.lst xs)) from I.hok a _ ea)
  exact Kf PySem.W.kitx_list I.kIn ⟨_,h1,rfl⟩ e (fun z=>nomatch z) h
 | @tup a xs ea=>
  cases(show u=Value.ref a from d)
  obtain⟨_,_,_,p⟩:=(show bM X.prog X.w H s.heap a (.tup xs) from I.hok a _ ea)
  obtain⟨o,h1,h2,_⟩:=p
  exact Kf PySem.W.kitx_tuple I.kIn ⟨o,h1,h2⟩ e (fun z=>nomatch z) h
 | @dK a kvs ea=>
  cases(show u=Value.ref a from d)
  obtain⟨_,_,vs,_,p⟩:=(show bM X.prog X.w H s.heap a (.dK kvs) from I.hok a _ ea)
  obtain⟨o,es,ep,h1,h2,_⟩:=p
  exact Kf PySem.W.kitx_dict I.kIn ⟨o,h1,h2.1⟩ e (fun z=>nomatch z) h
 | @dT a kvs ea=>
  cases(show u=Value.ref a from d)
  obtain⟨_,_,xs,_,o,es,ep,h1,h2,_⟩:=(show bM X.prog X.w H s.heap a (.dT kvs) from I.hok a _ ea)
  exact Kf PySem.W.kitx_dict I.kIn ⟨o,h1,h2.1⟩ e (fun z=>nomatch z) h
 | @ins a C dx fs ea cl ha hn htk hm=>
  cases(show u=Value.ref a from d)
  obtain⟨mA,O,_⟩:=jY I.hok ea
  obtain⟨f,J,_⟩:=O.look
  exact Kf (PySem.W.kitx_own (cl.get _) cl.hd ha hn htk hm) I.kIn J e (fun z=>nomatch z) h
end
structure bT (k:Nat) (A:Around):Prop where
 hd:A.handled=none
 dp:A.depth+3*k+5<recursionLimit
 un:A.units+16*k+200<cLine
 gd:A.guards=some []
theorem bT.mono(r:bT k A)(h:j<=k):bT j A:=⟨r.hd,by have:=r.dp;lia,by have:=r.un;lia,r.gd⟩
theorem bT.deeper(r:bT (k+1) A)(env:Env):bT k (A.deeper env):=
 ⟨r.hd,by have:=r.dp;show A.depth+1+3*k+5<_;lia,by have:=r.un;show A.units+3+16*k+200<_;lia,r.gd⟩
theorem sT {A:Around}{C:Addr}{us:List Value}{a:List (Str×Value)}:(A.under (.builtin "type.__call__" ⟨.ref C::us,a⟩)).depth=A.depth+1:=by
 first|rfl|simp[Around.under,Code.weight,Code.isCreation,Code.isGuard,Code.isCaller,Code.frames,Code.isFrame,guardIds]
theorem tD {A:Around}{C:Addr}{us:List Value}{a:List (Str×Value)}:(A.under (.builtin "type.__call__" ⟨.ref C::us,a⟩)).units=A.units+1:=by
 first|rfl|simp[Around.under,Code.cUnits,Code.frames,Code.isFrame]
theorem rR {A:Around}{C:Addr}{us:List Value}{a:List (Str×Value)}:(A.under (.builtin "type.__call__" ⟨.ref C::us,a⟩)).guards=A.guards:=by
 first|rfl|simp[Around.under,Code.isGuard,Code.guards,guardIds]
theorem bT.make(r:bT (k+1) A)(C:Addr)(us:List Value)(a:List (Str×Value)):bT k (A.under (.builtin "type.__call__" ⟨.ref C::us,a⟩)):=
 ⟨r.hd,by have:=r.dp;rw[sT];lia,by have:=r.un;rw[tD];lia,by rw[rR];exact r.gd⟩
theorem bT.depth(r:bT k A):A.depth<recursionLimit:=by have:=r.dp;lia
theorem bT.units(r:bT k A):A.units+64<cLine:=by have:=r.un;lia
def eG:TA:=fun _ H Q=>Q [] H
def b_ (ta:TE) (tr:TA):TA:=fun σ H Q=>ta σ H fun x H1=>tr σ H1 fun xs H2=>Q (x::xs) H2
section
variable {X:Cx} {e:Expr} {es:List Expr} {te:TE} {t:TA} {pos:Pos}
theorem dv:PA X [] eG:=fun _ _ _ _ H Q I h=>Calls.spliced_nil ⟨[],H,I,.nil,h⟩
theorem aA (g:PE X e te)(c:PA X es t)(f:starEach (e::es) X.env=(false,eval e X.env)::starEach es X.env:=by rfl):PA X (e::es) (b_ te t):=by
 intro pos pins s σ H Q I h
 rw[f]
 show wpAny _ _ (spliced ((false,eval e X.env)::backTo pos (starEach es X.env))) _ _ s
 refine Calls.spliced_cons (bZ (g pins s σ H _ I h) fun u a ⟨x,H1,I1,j,d⟩=>?_)
 exact bZ (c pos pins a σ H1 _ I1 d) fun us l ⟨xs,H2,I2,b,i⟩=>⟨x::xs,H2,I2,.cons j b,i⟩
def sJ (t:TA):TE:=fun σ H Q=>t σ H fun xs H1=>xs.length<=sizeLine/\∀p,H1 p=none->Q (.ref p) (upd H1 p (.tup xs))
def ot (t:TA):TE:=fun σ H Q=>t σ H fun xs H1=>xs.length<=sizeLine/\∀p,H1 p=none->Q (.ref p) (upd H1 p (.lst xs))
theorem cE {x1}(h:PA X es t):PE X (.Tuple es x1 pos) (sJ t):=by
 intro pins s σ H Q I c
 refine wpAny_Tuple_spliced (bZ (h pos pins s σ H _ I c) fun us a ⟨xs,H1,I1,r,z,q⟩=>⟨by rw[<-r.length];exact z,?_⟩)
 have d:H1 a.heap.objs.size=none:=I1.hok.fresh (Jg _)
 refine⟨.ref a.heap.objs.size,upd H1 a.heap.objs.size (.tup xs),I1.laid (t':=a.toks) (fun b u e=>Jj _ e) (Jg _) ?_,rfl,q _ d⟩
 exact⟨z,us,r,⟨_,Jx _ rfl,rfl,_,rfl⟩⟩
theorem aW (h:PA X es t):PE X (.List es pos) (ot t):=by
 intro pins s σ H Q I c
 refine wpAny_List_spliced (bZ (h pos pins s σ H _ I c) fun us a ⟨xs,H1,I1,r,z,q⟩=>⟨by rw[<-r.length];exact z,?_⟩)
 have d:H1 a.heap.objs.size=none:=I1.hok.fresh (Jg _)
 refine⟨.ref a.heap.objs.size,upd H1 a.heap.objs.size (.lst xs),I1.laid (t':=a.toks) (fun b u e=>Jj _ e) (Jg _) ?_,rfl,q _ d⟩
 exact⟨z,us,0,r,Jx _ rfl⟩
end
abbrev Sp:=List V->Hp->VK->XK->Prop
abbrev Bl:=List Env->Hp->Shared->XK->Value->Shared->Prop
structure sP (P:Program) (w:World) (K:Je) (mg:Str->Option Value) (base:Heap) (A:Around) (outer:List Env) (s:Shared) (H:Hp):Prop where
 frames:A.frames=some outer
 mod:Mod K mg base
 bs:∀b o,base.get? b=some o->s.heap.get? b=some o/\H b=none
 bsz:base.objs.size<=s.heap.objs.size
 funs:s.heap.FunFrames base outer
 frf:∀b∈zH outer,H b=none
 hok:h_ P w H s.heap
 bare:AllBare s.gens
def CE (a:List Env) (P:Program) (w:World) (H:Hp) (s:Shared) (Q:VK) (u:Value) (b:Shared):Prop:=
 ∃v H',b.os=s.os/\AllBare b.gens/\Un (zH a) [] H H' s.heap b.heap/\h_ P w H' b.heap/\aQ v u/\Q v H'
def CR (CX:Bl) (a:List Env) (P:Program) (w:World) (H:Hp) (s:Shared) (Q:VK) (E:XK) (r:Result) (b:Shared):Prop:=
 match r with
 | .ok (.ret u)=>CE a P w H s Q u b
 | .ok _=>False
 | .error e=>CX a H s E e b
structure eW (P:Program) (w:World) (K:Je) (mg:Str->Option Value) (base:Heap) (CX:Bl) (k:Nat) (f:Addr) (fd:FuncData) (ps:List Str) (sp:Sp):Prop where
 len:∀vs H Q E,sp vs H Q E->vs.length=ps.length
 run:∀(A:Around) (outer:List Env) (s:Shared) (H:Hp) (args:Args) (us:List Value) (vs:List V) (Q:VK) (E:XK),bT k A->sP P w K mg base A outer s H->BindsTo s fd args (ps.zip us)->aS vs us->sp vs H Q E->
  codeAny (model P w) A (.call (.ref f) args) (CR CX outer P w H s Q E) s
theorem sP.make {P:Program}{w:World}{K:Je}{b:Str->Option Value}{base:Heap}{A:Around}{a:List Env}{s:Shared}{H:Hp}(e:sP P w K b base A a s H)(C:Addr)(us:List Value)(c:List (Str×Value)):
  sP P w K b base (A.under (.builtin "type.__call__" ⟨.ref C::us,c⟩)) a s H:=⟨by first|exact e.frames|(simpa[Around.under,Code.envs,Code.isFrame,pushEnvs] using e.frames),e.mod,e.bs,e.bsz,e.funs,e.frf,e.hok,e.bare⟩
section
variable {X:Cx} {pins:List (Addr×Obj)} {σ:St} {H:Hp} {s s':Shared}
theorem aI.env0 (I:aI X pins σ H s):sP X.prog X.w X.K X.mg X.base X.A X.stack s H:=
 ⟨I.ok.frames,I.ok.mod,I.bs,Jn I.ok.bsz I.sz,I.stack,I.stkFree,I.hok,I.bare⟩
theorem aI.after(I:aI X pins σ H s)(h:CE X.stack X.prog X.w H s Q u s'):EP X pins σ Q u s':=by
 obtain⟨v,H',os,a,un,c,r,q⟩:=h
 obtain⟨f,g,d,t,e⟩:=s'
 obtain rfl:e=s.os:=os
 exact⟨v,H',I.call (h':=f) (g':=g) (d':=d) (t':=t) (ch:=[]) un c a (fun b z=>absurd z (by simp)),r,q⟩
end
def fH (sp:Sp) (a:List V) (E:XK) (t:TA):TE:=fun σ H Q=>t σ H fun vs H1=>sp (vs++a) H1 Q E
def rK (C:Addr) (m:Str) (sp:Sp) (b:List V) (E:XK) (ta:TE) (t:TA):TE:=fun σ H Q=>ta σ H fun x H1=>∃a dx fs,x=.ref a/\H1 a=some (.ins C dx fs)/\fs.lookup m=none/\
 t σ H1 fun vs H2=>sp (x::(vs++b)) H2 Q E
def Ed (C:Addr) (sp:Sp) (a:List V) (E:XK) (t:TA):TE:=fun σ H Q=>t σ H fun vs H1=>∀x dx,H1 x=none->H1 dx=none->dx≠x->
 sp (.ref x::(vs++a)) (upd (upd H1 dx (.own x)) x (.ins C dx [])) (fun v H2=>v=.non/\Q (.ref x) H2) E
def dn (K:Je) (fd:FuncData) (ps:List Str) (a:List Value):Prop:=
 ∀(s:Shared) (us:List Value),K.In s.heap->(us++a).length=ps.length->BindsTo s fd ⟨us,[]⟩ (ps.zip (us++a))
theorem dn.all {K:Je}{fd:FuncData}{ps:List Str}(h:∀us:List Value,us.length=ps.length->bindArgs fd ⟨us,[]⟩=pure (ps.zip us)):dn K fd ps []:=fun s us _ a=>by
 rw[JK] at a|-
 exact .of_eq (h us a)
def iA (CX:Bl) (X:Cx) (E:XK):Prop:=∀(pins:List (Addr×Obj)) (σ:St) (H:Hp) (s:Shared) (e:Value) (s':Shared),aI X pins σ H s->CX X.stack H s E e s'->X.xe e s'
section
variable {X:Cx} {CX:Bl} {k:Nat} {f C:Addr} {fd:FuncData} {ps:List Str} {sp:Sp} {dvs:List V} {ds:List Value} {E:XK} {x m:Str} {p pos apos:Pos} {e o:Expr} {es:List Expr} {ta:TE} {t:TA}
theorem jx {a:List (Addr×Obj)}(F:eW X.prog X.w X.K X.mg X.base CX k f fd ps sp)(i:bT k X.A)(d:dn X.K fd ps ds)(hd:aS dvs ds)(hx:iA CX X E)
  (I:aI X a σ H s) (r:aS vs us) (h:sp (vs++dvs) H Q E):wpAny (model X.prog X.w) X.A (call (.ref f) us) (EP X a σ Q) X.xe s:=by
 have c:aS (vs++dvs) (us++ds):=r.append hd
 have g:(us++ds).length=ps.length:=by rw[<-c.length];exact F.len _ _ _ _ h
 refine wpAny_call (codeAny_mono (F.run X.A X.stack s H ⟨us,[]⟩ (us++ds) (vs++dvs) Q E i I.env0 (d s us I.kIn g) c h) fun r s' b=>?_)
 cases r with
 |error e=>exact hx a σ H s e s' I b
 |ok fl=>
  cases fl with
  |ret u=>exact I.after b
  |next=>exact False.elim b
  |brk=>exact False.elim b
  |cont=>exact False.elim b
theorem Ct (F:eW X.prog X.w X.K X.mg X.base CX k f fd ps sp)(g:bT k X.A)(m:Gl X x)(j:X.mg x=some (.ref f))(d:JW X.K (.ref f)=true)(i:dn X.K fd ps ds)(hd:aS dvs ds)(hx:iA CX X E)
  (l:PA X (e::es) t) (a:(x==("__debug__" :Str))=false:=by decide) (c:starEach (e::es) X.env=(false,eval e X.env)::starEach es X.env:=by rfl) (b:(backTo pos (starEach es X.env)).any (·.1)=false:=by rfl):
  PE X (.Call (.Name x p) (e::es) [] pos) (fH sp dvs E t):=by
 intro pins s σ H Q I h
 refine K7 (n8 I m j ?_ a)
 refine LV (h₀:=X.base) I.ok.mod.kin d (bZ (l pos pins s σ H _ I h) fun us n ⟨vs,H1,I1,r,q⟩=>⟨I1.kIn,?_⟩) c b
 exact jx F g i hd hx I1 r q
theorem C7 {pl:Sem Bool}(p:PE X o ta)(c:jn X.K C)(g:DE X.K C m f)(F:eW X.prog X.w X.K X.mg X.base CX k f fd ps sp)(z:bT k X.A)(B:dn X.K fd ps ds)(hd:aS dvs ds)(hx:iA CX X E)(j:PA X (e::es) t)
  (b:starEach (e::es) X.env=(false,eval e X.env)::starEach es X.env:=by rfl) (d:(backTo pos (starEach es X.env)).any (·.1)=false:=by rfl)
  (G:eval (.Call (.Attribute o m apos) (e::es) [] pos) X.env=(do
   let ov<-eval o X.env
   standAt apos.atName
   let (f,first)<-holding [ov] (getMethod ov m pl)
   callWith pos f first (backTo pos (starEach (e::es) X.env)) (backToKw pos (keywordEach [] X.env))):=by rfl):
  PE X (.Call (.Attribute o m apos) (e::es) [] pos) (rK C m sp dvs E ta t):=by
 intro pins s σ H Q I h
 refine LW (pl:=pl) (bZ (p pins s σ H _ I h) fun u i y=>?_) G
 obtain⟨x,H1,I1,D,a,dx,fs,ex,v,l,q⟩:=y
 subst ex
 obtain rfl:u=Value.ref a:=D
 refine gq I1 v c g l ?_
 refine LV (first:=[.ref a]) (h₀:=X.base) I.ok.mod.kin g.kp (bZ (j pos pins i σ H1 _ I1 q) fun us J ⟨vs,H2,I2,r,n⟩=>⟨I2.kIn,?_⟩) b d
 exact jx (us:=.ref a::us) (vs:=.ref a::vs) F z B hd hx I2 (.cons rfl r) n
theorem yE {pl:Sem Bool}(e:PE X o ta)(c:jn X.K C)(b:DE X.K C m f)(F:eW X.prog X.w X.K X.mg X.base CX k f fd ps sp)(g:bT k X.A)(i:dn X.K fd ps ds)(hd:aS dvs ds)(hx:iA CX X E)
  (d:eval (.Call (.Attribute o m apos) [] [] pos) X.env=(do
   let ov<-eval o X.env
   standAt apos.atName
   let (f,first)<-holding [ov] (getMethod ov m pl)
   callWith pos f first (backTo pos (starEach [] X.env)) (backToKw pos (keywordEach [] X.env))):=by rfl):
  PE X (.Call (.Attribute o m apos) [] [] pos) (rK C m sp dvs E ta eG):=by
 intro pins s σ H Q I h
 refine LW (pl:=pl) (bZ (e pins s σ H _ I h) fun u r p=>?_) d
 obtain⟨x,H1,I1,j,a,dx,fs,ex,n,l,q⟩:=p
 subst ex
 obtain rfl:u=Value.ref a:=j
 refine gq I1 n c b l ?_
 exact PySem.W.callWith_K0 (first:=[.ref a]) I1.kIn b.kp (jx (us:=[.ref a]) (vs:=[.ref a]) F g i hd hx I1 (.cons rfl .nil) q)
structure Mk (K:Je) (C f:Addr):Prop where
 makes:PySem.W.makesIn K C=true
 init:JS K (.ref C) "__init__" =some (some (.ref f))
 fn:KQ K (.ref f)=true
 kp:JW K (.ref C)=true
theorem Ba {a:List (Addr×Obj)}(M:Mk X.K C f)(F:eW X.prog X.w X.K X.mg X.base CX k f fd ps sp)(i:bT (k+1) X.A)(j:dn X.K fd ps ds)(hd:aS dvs ds)
  (hx:iA CX X E) (I:aI X a σ H s) (r:aS vs us)
  (h:∀x dx,H x=none->H dx=none->dx≠x->sp (.ref x::(vs++dvs)) (upd (upd H dx (.own x)) x (.ins C dx [])) (fun v H2=>v=.non/\Q (.ref x) H2) E):
  wpAny (model X.prog X.w) X.A (call (.ref C) us) (EP X a σ Q) X.xe s:=by
 have d:=h (s.heap.objs.size+1) s.heap.objs.size (I.hok.fresh (Nat.le_succ _)) (I.hok.fresh (Jg _)) (Jw (Ly _))
 have c:=aI.made (C:=C) I
 have g:aS (V.ref (s.heap.objs.size+1)::(vs++dvs)) (Value.ref (s.heap.objs.size+1)::(us++ds)):=.cons rfl (r.append hd)
 have m:(Value.ref (s.heap.objs.size+1)::us++ds).length=ps.length:=by
  have e:=g.length
  rw[F.len _ _ _ _ d] at e
  exact e.symm
 refine wpAny_call (AZ (f:=f) I.kIn M.makes M.init (beq_iff_eq.mp M.fn) (codeAny_mono (F.run _ X.stack _ _ ⟨Value.ref (s.heap.objs.size+1)::us,[]⟩ (Value.ref (s.heap.objs.size+1)::(us++ds)) _ _ E (i.make C us [])
  (c.env0.make C us []) (j _ (Value.ref (s.heap.objs.size+1)::us) c.kIn m) g d) fun r s' b=>?_))
 cases r with
 |error e=>exact hx a σ _ _ e s' c b
 |ok fl=>
  cases fl with
  |ret u=>
   obtain⟨v,H',I3,o,l,n⟩:=c.after b
   subst l
   exact⟨o,⟨V.ref (s.heap.objs.size+1),H',I3,rfl,n⟩⟩
  |next=>exact False.elim b
  |brk=>exact False.elim b
  |cont=>exact False.elim b
theorem B9 (M:Mk X.K C f)(F:eW X.prog X.w X.K X.mg X.base CX k f fd ps sp)(d:bT (k+1) X.A)(l:Gl X x)(i:X.mg x=some (.ref C))(g:dn X.K fd ps ds)(hd:aS dvs ds)(hx:iA CX X E)
  (j:PA X (e::es) t) (a:(x==("__debug__" :Str))=false:=by decide) (c:starEach (e::es) X.env=(false,eval e X.env)::starEach es X.env:=by rfl) (b:(backTo pos (starEach es X.env)).any (·.1)=false:=by rfl):
  PE X (.Call (.Name x p) (e::es) [] pos) (Ed C sp dvs E t):=by
 intro pins s σ H Q I h
 refine K7 (n8 I l i ?_ a)
 refine LV (h₀:=X.base) I.ok.mod.kin M.kp (bZ (j pos pins s σ H _ I h) fun us m ⟨vs,H1,I1,r,q⟩=>⟨I1.kIn,?_⟩) c b
 exact Ba M F d g hd hx I1 r q
end
section
variable {X:Cx} {CX:Bl} {k:Nat} {f C:Addr} {fd:FuncData} {ps ks:List Str} {sp:Sp} {E:XK} {x m:Str} {p pos apos kpos:Pos} {e o:Expr} {es:List Expr} {kws:List Keyword} {te ta:TE} {t tk:TA} {nm:Option Str}
variable {g:List Value->List Value->List Value} {gV:List V->List V->List V}
end
structure eZ (N P:List Str) (sc:Scope):Prop where
 kind:sc.kind=.function
 co:sc.isCoroutine=false
 gen:sc.isGenerator=false
 nd:N.Nodup
 pre:N.take P.length=P
 par:∀x∈P,sc.names.lookup x=some .local\/sc.names.lookup x=some .cell
 nofree:∀y∈sc.names,y.2≠.free
theorem nB {a:Str->Option NameKind}:∀{binds:List (Str×Value)} {m:Str->Option Value},(∀v,(x,v)∉binds)->bindL a binds m x=m x
 |[],_,_=>rfl
 |(n,v)::r,m,h=>by
  unfold bindL
  rw[nB fun w b=>h w (Jq _ b)]
  split
  ·have:x≠n:=by rintro rfl;exact h v Jp
   simp[this]
  ·rfl
theorem mT {a:Str->Option NameKind}:∀{binds:List (Str×Value)} {m:Str->Option Value},(∀v,(x,v)∉binds)->bindC a binds m x=m x
 |[],_,_=>rfl
 |(n,v)::r,m,h=>by
  unfold bindC
  rw[mT fun w b=>h w (Jq _ b)]
  split
  ·rfl
  ·have:x≠n:=by rintro rfl;exact h v Jp
   simp[this]
theorem m8 {a:Str->Option NameKind}:∀{P:List Str} {vs:List Value} {i:Nat} {m:Str->Option Value},P.Nodup->P[i]?=some x->vs[i]?=some v->a x=some .local->
  bindL a (P.zip vs) m x=some v
 |[],_,_,_,_,h,_,_=>by simp at h
 |_::_,[],_,_,_,_,h,_=>by simp at h
 |p::P,w::vs,0,m,nd,h1,h2,hk=>by
  simp at h1 h2;subst h1;subst h2
  show bindL a ((p,w)::P.zip vs) m p=_
  unfold bindL
  rw[nB fun v b=>(Ko.mp nd).1 (List.of_mem_zip b).1,if_pos hk]
  simp
 |p::P,w::vs,i+1,m,nd,h1,h2,hk=>by
  show bindL a ((p,w)::P.zip vs) m x=_
  unfold bindL
  exact m8 (i:=i) (Ko.mp nd).2 (by simpa using h1) (by simpa using h2) hk
theorem m3 {a:Str->Option NameKind}:∀{P:List Str} {vs:List Value} {i:Nat} {m:Str->Option Value},P.Nodup->P[i]?=some x->vs[i]?=some v->a x≠some .local->
  bindC a (P.zip vs) m x=some v
 |[],_,_,_,_,h,_,_=>by simp at h
 |_::_,[],_,_,_,_,h,_=>by simp at h
 |p::P,w::vs,0,m,nd,h1,h2,hk=>by
  simp at h1 h2;subst h1;subst h2
  show bindC a ((p,w)::P.zip vs) m p=_
  unfold bindC
  rw[mT fun v b=>(Ko.mp nd).1 (List.of_mem_zip b).1,if_neg hk]
  simp
 |p::P,w::vs,i+1,m,nd,h1,h2,hk=>by
  show bindC a ((p,w)::P.zip vs) m x=_
  unfold bindC
  exact m3 (i:=i) (Ko.mp nd).2 (by simpa using h1) (by simpa using h2) hk
noncomputable def gQ (N:List Str) (vs:List V):St:=vs.map some++List.replicate (N.length - vs.length) none
noncomputable def bE (CX:Bl) (P:Program) (w:World) (K:Je) (mg:Str->Option Value) (base:Heap) (N:List Str) (a:Str) (scope:Scope) (f:Addr) (c:Value) (A:Around) (outer:List Env) (s:Shared) (H:Hp) (E:XK):Cx where
 prog:=P
 w:=w
 K:=K
 mg:=mg
 base:=base
 A:=A.deeper (envOfC a scope s.heap.objs.size f c)
 N:=N
 s₀:=s
 H₀:=H
 env:=envOfC a scope s.heap.objs.size f c
 outer:=outer
 stack:=envOfC a scope s.heap.objs.size f c::outer
 ex:=[]
 calm:=true
 fn:=fun _=>true
 pn:=[]
 xe:=fun e s'=>wpAny (model P w) (A.deeper (envOfC a scope s.heap.objs.size f c)) (leaving (envOfC a scope s.heap.objs.size f c) e) (fun _ b=>CX outer H s E e b) (fun d b=>CX outer H s E d b) s'
theorem pN {a:Scope}{n:Nat}{x:Str}(h:a.names.lookup x=some .cell):∃c,(cellsFrom n a.names []).lookup x=some c:=by
 have q:=PySem.W.cellsFrom_some a.names n [] (.inl h)
 exact Ma.mp q
theorem xl {CX:Bl}{P:Program}{w:World}{K:Je}{D:Str->Option Value}{base:Heap}{N ps:List Str}{m:Str}{scope:Scope}{f:Addr}{C:Value}{A:Around}{l:List Env}{s s1:Shared}{H:Hp}{E:XK}{us:List Value}{vs:List V}
  (S:eZ N ps scope) (hd:A.handled=none) (o:sP P w K D base A l s H) (M:vs.length=ps.length) (r:aS vs us)
  (x:InCallC s s.heap.objs.size (bindL (envOfC m scope s.heap.objs.size f C).kindOf (ps.zip us) fun _=>none) (cellsFrom (s.heap.objs.size+1) scope.names []) (bindC (envOfC m scope s.heap.objs.size f C).kindOf (ps.zip us) fun _=>none) s1):
  aI (bE CX P w K D base N m scope f C A l s H E) [] (gQ N vs) H s1:=by
 have j:ps.length<=N.length:=by have:=congrArg List.length S.pre;rw[JB] at this;lia
 obtain⟨h1,tk,rfl,F⟩:=x.done
 have d:∀b:Addr,b∉(bE CX P w K D base N m scope f C A l s H E).ex:=fun b z=>absurd (show b∈([]:List Addr) from z) (by simp)
 refine⟨⟨o.mod,S.kind,rfl,rfl,Jg _,fun y z c h1 h2=>?_,fun y hy=>?_,fun y c _ h=>?_,fun _=>hd,Around.frames_deeper o.frames,.inr ⟨rfl,rfl⟩,fun b z=>absurd z (d b),o.bs,o.bsz,fun b _ _=>d b,fun b z=>absurd z (d b),o.funs,o.frf⟩,
  rfl,o.bare,Un.kept F,⟨_,x.toInCall.ns,fun i y v h1 h2 J=>?_⟩,fun y c h=>⟨_,x.cell y c h⟩,o.hok.fresh (Jg _),fun y c h=>?_,fun p B=>absurd (show p∈([]:List (Addr×Obj)) from B) (by simp),o.hok.kept F,?_⟩
 ·exact name_of_addr x.apart (PySem.mem_of_lookup h1) (PySem.mem_of_lookup h2)
 ·have hy:scope.names.lookup y=some .cell\/scope.names.lookup y=some .free:=hy
  rcases hy with hy|hy
  ·exact pN hy
  ·exact absurd rfl (S.nofree _ (PySem.mem_of_lookup hy))
 ·exact Ky (x.above y c (PySem.mem_of_lookup h))
 ·have hi:i<vs.length:=by
   unfold gQ at h2
   by_cases hi:i<vs.length
   ·exact hi
   ·rw[Kq (by simpa using hi)] at h2
    rw[List.getElem?_replicate] at h2
    split at h2<;>cases h2
  have ha:vs[i]?=some v:=by
   unfold gQ at h2
   rw[K8 (by simpa using hi),JG] at h2
   cases e:vs[i]? with
   |none=>rw[e] at h2;cases h2
   |some a=>rw[e] at h2;cases h2;rfl
  obtain⟨u,G,I⟩:=r.get ha
  have B:ps[i]?=some y:=by
   rw[<-S.pre,Kr (by lia)];exact h1
  have g:ps.Nodup:=by rw[<-S.pre];exact S.nd.sublist (List.take_sublist _ _)
  refine⟨u,I,?_⟩
  rcases S.par y (Jy B) with k|k
  ·exact .inl ⟨k,m8 g B G k⟩
  ·obtain⟨c,e⟩:=pN (n:=s.heap.objs.size+1) k
   refine .inr ⟨.inl k,c,e,?_⟩
   have q:=x.cell y c e
   rw[m3 g B G (by show scope.names.lookup y≠_;rw[k];decide)] at q
   exact q
 ·exact o.hok.fresh (Ky (x.above y c (PySem.mem_of_lookup h)))
 ·unfold gQ
  show _=N.length
  rw[Js,Jd,Ks]
  lia
theorem Eh {CX:Bl}{P:Program}{w:World}{K:Je}{D:Str->Option Value}{base:Heap}{k:Nat}{f:Addr}{name g:Str}{i:Arguments}{j:List Stmt}{scope:Scope}{O kV C U h X oc:Value}{R od:Option Addr}
  {F:Array (Option Value)} {N ps:List Str} {sp:Sp} (Z:K.lookup f=some ⟨oc,od,.func (JQ name g i j scope O kV C U R h X),F⟩) (G:Kg K h g=true) (S:eZ N ps scope)
  (len:∀vs H Q E,sp vs H Q E->vs.length=ps.length)
  (m:∀(A:Around) (outer:List Env) (s:Shared) (H:Hp) (vs:List V) (Q:VK) (E:XK),bT k (A.deeper (envOfC g scope s.heap.objs.size f h))->sp vs H Q E->
   ∃t,mh (bE CX P w K D base N g scope f h A outer s H E) j t/\t {nx:=fun _ H'=>Q .non H',rt:=Q} (gQ N vs) H):
  eW P w K D base CX (k+1) f (JQ name g i j scope O kV C U R h X) ps sp:=by
 refine⟨len,fun A outer s H Y us vs Q E hr z hb r B=>?_⟩
 have hl:=len _ _ _ _ B
 have T:K.In s.heap:=z.mod.kin.keeps fun b o e=>(z.bs b o e).1
 have d:s.heap.NoLimit:=z.mod.nolimit.keeps fun b o e=>(z.bs b o e).1
 have a:∀y∈ps.zip us,scope.names.lookup y.1=some .local\/(scope.names.lookup y.1=some .cell/\((cellsFrom (s.heap.objs.size+1) scope.names []).lookup y.1).isSome=true):=fun⟨n,v⟩ hy=>by
  rcases S.par n (List.of_mem_zip hy).1 with q|q
  ·exact .inl q
  ·exact .inr ⟨q,PySem.W.cellsFrom_some _ _ _ (.inl q)⟩
 refine codeAny_call_function hr.depth (T _ _ Z) rfl S.co S.gen rfl (PySem.W.codeRec_of T G) (hb _ _ _ _ ?_)
 refine wpAny_newFunctionEnv_cells S.kind a fun env he s1 x=>?_
 subst he
 refine⟨d.keeps x.toInCall.keep,codeAny_func ?_⟩
 obtain⟨t,ht,hq⟩:=m A outer s H vs Q E (hr.deeper _) B
 have I:aI (bE CX P w K D base N g scope f h A outer s H E) [] (gQ N vs) H s1:=xl S hr.hd z hl r x
 refine JU (ht [] s1 (gQ N vs) H _ I hq) (fun fl s' p=>?_) fun e s' p=>p
 have c:∀{l:St} {H':Hp} {v:V} {u:Value},aI (bE CX P w K D base N g scope f h A outer s H E) [] l H' s'->aQ v u->Q v H'->CE outer P w H s Q u s':=
  fun{l H' v u} J M q=>⟨v,H',J.os,J.bare,J.base,J.hok,M,q⟩
 cases fl with
 |ret u=>
  obtain⟨v,l,H',J,M,q⟩:=p
  exact c J M q
 |next=>
  obtain⟨l,H',J,q⟩:=p
  exact c (v:=V.non) (u:=Value.none) J rfl q
 |brk=>
  obtain⟨_,_,_,q⟩:=p
  exact False.elim q
 |cont=>
  obtain⟨_,_,_,q⟩:=p
  exact False.elim q
section
variable {X:Cx} {x:Str} {p pos:Pos} {e:Expr} {es:List Expr} {t:TA} {id T:String} {r:List V->Hp->VK->Prop}
def oC (r:List V->Hp->VK->Prop) (t:TA):TE:=fun σ H Q=>t σ H fun vs H1=>r vs H1 Q
theorem Ag (i:cI X (.builtin id) r)(n:Gl X x)(j:X.mg x=none)(f:bootBuiltins x=some (.builtin id))(m:PA X (e::es) t)(l:x≠ "__name__" :=by decide)(b:(x==("__debug__" :Str))=false:=by decide)
  (c:starEach (e::es) X.env=(false,eval e X.env)::starEach es X.env:=by rfl) (a:(backTo pos (starEach es X.env)).any (·.1)=false:=by rfl):PE X (.Call (.Name x p) (e::es) [] pos) (oC r t):=by
 intro pins s σ H Q I h
 refine K7 (gF I n j f ?_ l b)
 exact PyProof.Rows.callWith_builtin1 (bZ (m pos pins s σ H _ I h) fun us d ⟨vs,H1,I1,o,g⟩=>i pins d σ H1 vs us Q I1 o g) c a
theorem wd (i:cI X (.type T) r)(n:Gl X x)(j:X.mg x=none)(f:bootBuiltins x=some (.type T))(m:PA X (e::es) t)(l:x≠ "__name__" :=by decide)(b:(x==("__debug__" :Str))=false:=by decide)
  (c:starEach (e::es) X.env=(false,eval e X.env)::starEach es X.env:=by rfl) (a:(backTo pos (starEach es X.env)).any (·.1)=false:=by rfl):PE X (.Call (.Name x p) (e::es) [] pos) (oC r t):=by
 intro pins s σ H Q I h
 refine K7 (gF I n j f ?_ l b)
 exact PyProof.Rows.callWith_type1 (bZ (m pos pins s σ H _ I h) fun us d ⟨vs,H1,I1,o,g⟩=>i pins d σ H1 vs us Q I1 o g) c a
end
end L2
namespace HT
open PySem PyProof.Rows
noncomputable def lexLt:List Int->List Int->Bool
 |[],[]=>false
 |[],_::_=>true
 |_::_,[]=>false
 |x::xs,y::ys=>if x=y then lexLt xs ys else decide (x<y)
theorem lexLt_cons (x y:Int)(xs ys:List Int):lexLt (x::xs) (y::ys)=if x=y then lexLt xs ys else decide (x<y):=rfl
theorem lexLt_nil_nil:lexLt [] []=false:=rfl
theorem lexLt_nil_cons (y:Int)(ys:List Int):lexLt [] (y::ys)=true:=rfl
theorem lexLt_cons_nil (x:Int)(xs:List Int):lexLt (x::xs) []=false:=rfl
section
open PySem.SeqAt
open PySem.AutoSeq1 (wpAny_loadPart')
open PySem.MeetsSeq PySem.MeetsSeq2 PySem.MeetsSeq3
end
section
variable {prog:Program} {w:World} {A:Around} {E:Value->Shared->Prop} {s:Shared}
theorem cat_tup(q:IsTup s.heap t vs.toArray)(r:IsTup s.heap b ws.toArray)(m:vs≠[])
  (h1:ws=[]->Q (.ref t) s) (u:ws≠[]->Q (.ref s.heap.objs.size) {s with heap:=s.heap.push {cls:=.type "tuple",data:=.seq (vs++ws).toArray}})
  (hsz:vs.length+ws.length<=sizeLine):wpAny (model prog w) A (binaryOp .Add (.ref t) (.ref b)) Q E s:=by
 obtain⟨⟨cls,dd,data,l⟩,j,o,n,hd⟩:=id q
 obtain⟨⟨i,f,h,c⟩,a,d,p,g⟩:=id r
 simp only at o hd d g
 subst o hd d g
 have e:vs.toArray++ws.toArray=(vs++ws).toArray:=by simp
 by_cases hw:ws=[]
 ·exact concat_meets ⟨_,j,rfl⟩ ⟨_,a,rfl⟩ noFill_tuple_add seq_tuple_add PySem.F.slot_tuple_add Mb (Mc _ _)
   (tuple_addW1 t b vs.toArray ws.toArray n p dd f l c (by simpa using m) (by simp[hw])) ⟨j,a,h1 hw⟩
 ·refine concat_meets ⟨_,j,rfl⟩ ⟨_,a,rfl⟩ noFill_tuple_add seq_tuple_add PySem.F.slot_tuple_add Mb (Mc _ _)
   (tuple_addW2 t b vs.toArray ws.toArray n p dd f l c (by simpa using m) (by simpa using hw) (by rw[JF,JF];exact hsz)) ⟨j,a,?_⟩
  rw[e]
  exact u hw
noncomputable def sIx (n d:Nat):Option Int->Nat
 |none=>d
 |some v=>if v<0 then (v+(n:Int)).toNat else min v.toNat n
theorem sIx_none (n d:Nat):sIx n d none=d:=rfl
theorem sIx_nat (n d k:Nat):sIx n d (some (k:Int))=min k n:=by
 show(if (k:Int)<0 then ((k:Int)+(n:Int)).toNat else min (k:Int).toNat n)=min k n
 rw[if_neg (by lia),Kh]
end
end HT
namespace L2
open PySem PySem.Spec PyProof.Rows
abbrev TO:=St->Hp->(Option Int->Hp->Prop)->Prop
def PO (X:Cx) (e:Option Expr) (t:TO):Prop:=
 ∀(pins:List (Addr×Obj)) (s:Shared) (σ:St) (H:Hp) (Q:Option Int->Hp->Prop),aI X pins σ H s->t σ H Q->
  wpAny (model X.prog X.w) X.A (evalPart e X.env) (fun u s'=>∃o H',aI X pins σ H' s'/\IsPart u o/\Q o H') X.xe s
def gI:TO:=fun _ H Q=>Q none H
noncomputable def gf (t:TE):TO:=fun σ H Q=>t σ H fun x H1=>∃i,x=.int i/\Q (some i) H1
theorem se{ns:List Int}:∀{us:List Value},aS (ns.map V.int) us->IntsAre us ns:=by
 induction ns with
 |nil=>intro us r;rw[KR] at r;cases r;exact .nil
 |cons n ns ih=>
  intro us r
  rw[Jr] at r
  cases r with
  |cons r1 r2=>
   obtain⟨t,e⟩:=r1
   subst e
   exact .cons n t (ih r2)
section
variable {X:Cx} {e:Expr} {te:TE} {lo hi:Option Expr} {tl th:TO} {pos p2:Pos}
theorem cR:PO X none gI:=by
 intro pins s σ H Q I h
 rw[evalPart_none]
 exact Jf ⟨none,H,I,.none,h⟩
theorem bu (h:PE X e te):PO X (some e) (gf te):=by
 intro pins s σ H Q I a
 rw[evalPart_some]
 refine bZ (h pins s σ H _ I a) fun u d ⟨x,H1,I1,c,b⟩=>?_
 obtain⟨i,rfl,q⟩:=b
 obtain⟨t,rfl⟩:=c
 exact⟨some i,H1,I1,.int i t,q⟩
def IJ (X:Cx) (r:V->Option Int->Option Int->Hp->VK->Prop):Prop:=
 ∀(pins:List (Addr×Obj)) (s:Shared) (σ:St) (H:Hp) (x:V) (v b c:Value) (lo hi:Option Int) (a:Addr) (Q:VK),aI X pins σ H s->aQ x v->s.heap.IsSliceOf a b c .none->IsPart b lo->IsPart c hi->r x lo hi H Q->
  ∃T id,typeLookup (.type T) "__getitem__" =pure (some (.builtin id))/\s.TypeIs v T/\wpAny (model X.prog X.w) X.A (getItem v (.ref a)) (EP X pins σ Q) X.xe s
def CS (r:V->Option Int->Option Int->Hp->VK->Prop) (a:TE) (tl th:TO):TE:=fun σ H Q=>a σ H fun x H1=>tl σ H1 fun l H2=>th σ H2 fun u H3=>r x l u H3 Q
theorem bz {r:V->Option Int->Option Int->Hp->VK->Prop}(n:IJ X r)(g:PE X e te)(z:PO X lo tl)(j:PO X hi th):PE X (.Subscript e (.Slice lo hi none p2) pos) (CS r te tl th):=by
 intro pins s σ H Q I h
 refine Subscript_ (bZ (g pins s σ H _ I h) fun v i ⟨x,H1,I1,F,o⟩=>?_)
 refine wpAny_Slice (bZ (z pins i σ H1 _ I1 o) fun c D ⟨l,H2,I2,B,y⟩=>bZ (j pins D σ H2 _ I2 y) fun d a ⟨u,H3,I3,C,E⟩=>?_)
 rw[evalPart_none]
 refine Jf ?_
 have m:aI X pins σ H3 {a with heap:=a.heap.push {cls:=.type "slice",data:=.fields #[c,d,.none]}}:=I3.kept (t':=a.toks) fun b G q=>Jj _ q
 obtain⟨T,id,p,f,hg⟩:=n pins {a with heap:=a.heap.push {cls:=.type "slice",data:=.fields #[c,d,.none]}} σ H3 x v c d l u a.heap.objs.size Q m F (Heap.IsSliceOf.new ..) B C E
 show wpAny (model X.prog X.w) X.A (subscriptTail e (.Slice lo hi none p2) v (.ref a.heap.objs.size)) (EP X pins σ Q) X.xe {a with heap:=a.heap.push {cls:=.type "slice",data:=.fields #[c,d,.none]}}
 exact tail_any (ops:=[.ref a.heap.objs.size,v]) f p hg (by with_unfolding_all rfl)
noncomputable def dU (xs:List V) (a b:Option Int):List V:=(xs.drop (HT.sIx xs.length 0 a)).take (HT.sIx xs.length xs.length b - HT.sIx xs.length 0 a)
theorem qj (xs:List V)(a b:Option Int):(dU xs a b).length<=xs.length:=by
 unfold dU
 rw[JB,Ka]
 lia
def Gy (K:Je):R2:=fun x y H Q=>∃a b xs ys,x=.ref a/\y=.ref b/\cn K H a xs/\cn K H b ys/\xs≠[]/\xs.length+ys.length<=sizeLine/\
 (ys=[]->Q (.ref a) H)/\(ys≠[]->∀p,H p=none->Q (.ref p) (upd H p (.tup (xs++ys))))
theorem aS.nil_iff(r:aS xs us):us=[]↔xs=[]:=by
 cases r with
 |nil=>simp
 |cons _ _=>simp
theorem B7:gN X (binaryOp .Add) (Gy X.K):=by
 intro pins s σ H x y v u Q I n i h
 obtain⟨a,b,xs,ys,rfl,rfl,ha,p,j,g,m,r⟩:=h
 cases n
 cases i
 obtain⟨d,f,l,_⟩:=I.tuple ha
 obtain⟨c,e,p2,_⟩:=I.tuple p
 refine HT.cat_tup l p2 (fun z=>j (f.nil_iff.mp z)) (fun z=>⟨.ref a,H,I,rfl,m (e.nil_iff.mp z)⟩) (fun z=>?_) (by rw[<-f.length,<-e.length];exact g)
 refine⟨.ref s.heap.objs.size,_,I.laid (t':=s.toks) (o:=.tup (xs++ys)) (fun b A q=>Jj _ q) (Jg _) ?_,rfl,r (fun w=>z (e.nil_iff.mpr w)) _ (I.hok.fresh (Jg _))⟩
 exact⟨by rw[Js];exact g,_,f.append e,IsTup.new _ _⟩
end
noncomputable def Em (n:Nat) (i:Int):Option Nat:=if 0<=i then (if i<n then some i.toNat else none) else if -(n:Int)<=i then some (i+n).toNat else none
noncomputable def jW {α:Type} (xs:List α) (i:Int):Option α:=(Em xs.length i).bind fun j=>xs[j]?
theorem vk(h:Em n i=some j):seqIndex? i n=some j/\j<n/\ -(n:Int)<=i/\i<n:=by
 unfold Em at h
 by_cases h0:0<=i
 ·rw[if_pos h0] at h
  by_cases h1:i<n
  ·rw[if_pos h1] at h
   have e:i.toNat=j:=Option.some.inj h
   exact⟨by rw[seqIndex_of h0 h1,e],by lia,by lia,h1⟩
  ·rw[if_neg h1] at h;cases h
 ·rw[if_neg h0] at h
  by_cases h1: -(n:Int)<=i
  ·rw[if_pos h1] at h
   have e:(i+n).toNat=j:=Option.some.inj h
   exact⟨by rw[seqIndex_neg (by lia) h1,e],by lia,h1,by lia⟩
  ·rw[if_neg h1] at h;cases h
theorem nZ {a:Type}{xs:List a}{v:a}(h:jW xs i=some v):∃j,seqIndex? i xs.length=some j/\xs[j]?=some v/\j<xs.length/\ -(xs.length:Int)<=i/\i<xs.length:=by
 unfold jW at h
 cases e:Em xs.length i with
 |none=>rw[e] at h;cases h
 |some j=>
  rw[e] at h
  obtain⟨h1,h2,b,c⟩:=vk e
  exact⟨j,h1,h,h2,b,c⟩
theorem bI {a:Type}{xs:List a}{j:Nat}{v:a}(h:xs[j]?=some v):jW xs (j:Int)=some v:=by
 have b:j<xs.length:=(JE.mp h).1
 have e:Em xs.length (j:Int)=some j:=by
  unfold Em
  rw[if_pos (by lia),if_pos (by lia)];simp
 unfold jW;rw[e];exact h
def vL (b:Expr):Prop:=∀o i,subscripted b false o i=operate [o,i] (getItem o i)
def EM (X:Cx) (r:R2):Prop:=
 ∀(value a:Expr) (pins:List (Addr×Obj)) (s:Shared) (σ:St) (H:Hp) (x y:V) (v u:Value) (Q:VK),aI X pins σ H s->aQ x v->aQ y u->r x y H Q->
  subscripted a false v u=operate [v,u] (getItem v u)->wpAny (model X.prog X.w) X.A (subscriptTail value a v u) (EP X pins σ Q) X.xe s
def DN (X:Cx) (id:String) (r:V->List V->Hp->VK->Prop):Prop:=
 ∀(pins:List (Addr×Obj)) (s:Shared) (σ:St) (H:Hp) (x:V) (xs:List V) (v:Value) (us:List Value) (Q:VK),aI X pins σ H s->aQ x v->aS xs us->r x xs H Q->
  wpAny (model X.prog X.w) X.A (call (.builtin id) (v::us)) (EP X pins σ Q) X.xe s
section
variable {X:Cx} {a b:Expr} {ta tb:TE} {pos:Pos}
theorem Gn(d:EM X r)(i:PE X a ta)(f:PE X b tb)(e:vL b):PE X (.Subscript a b pos) (fZ r ta tb):=by
 intro pins s σ H Q I h
 exact Subscript_ (Ft i f I h fun v u j x y H2 I2 g c q=>d a b pins j σ H2 x y v u Q I2 g c q (e _ _))
def lD (K:Je):R2:=fun x y H Q=>∃p xs i v,x=.ref p/\y=.int i/\aH K H p xs/\jW xs i=some v/\Q v H
def w8 (K:Je):R2:=fun x y H Q=>∃p xs i v,x=.ref p/\y=.int i/\cn K H p xs/\jW xs i=some v/\Q v H
def Hg:R2:=fun x y H Q=>∃z i c,x=.str z/\y=.int i/\z.length<=sizeLine/\jW z.cps.toList i=some c/\Q (.str ⟨#[c]⟩) H
theorem aC:EM X (lD X.K):=by
 intro value d pins s σ H x y v u Q I m o h l
 obtain⟨p,xs,i,z,rfl,rfl,A,B,q⟩:=h
 cases m
 obtain⟨t,rfl⟩:=o
 obtain⟨c,r,f,E⟩:=I.list A
 obtain⟨j,h1,h2,F,n,C⟩:=nZ B
 obtain⟨w,g,b⟩:=r.get h2
 have D:=r.length
 have G:=jB
 have a:EP X pins σ Q w s:=⟨z,H,I,b,q⟩
 by_cases h0:0<=i
 ·have e:i.toNat=j:=by
   rw[seqIndex_of h0 C] at h1
   exact Option.some.inj h1
  exact item_listR f.isList h0 (by lia) (by rw[e];simpa using g) a l
 ·have e:(i+(c.toArray.size:Int)).toNat=j:=by
   rw[seqIndex_neg (by lia) n] at h1
   rw[JF,<-D]
   exact Option.some.inj h1
  exact subscriptTail_builtinR (x:=w) f.isList.typeIs slot_list_getitem.lookup
   (wpAny_getItem_list_neg (Q:=fun r s'=>r=w/\EP X pins σ Q r s') f.isList (by lia) (by rw[JF]<;>lia) (by lia) (by rw[e];simpa using g) ⟨rfl,a⟩) l
theorem aF:EM X (w8 X.K):=by
 intro value d pins s σ H x y v u Q I f l h o
 obtain⟨p,xs,i,z,rfl,rfl,m,n,q⟩:=h
 cases f
 obtain⟨t,rfl⟩:=l
 obtain⟨c,r,e,B⟩:=I.tuple m
 obtain⟨j,h1,h2,E,C,D⟩:=nZ n
 obtain⟨w,g,a⟩:=r.get h2
 have A:=r.length
 have F:=jB
 have b:EP X pins σ Q w s:=⟨z,H,I,a,q⟩
 exact subscriptTail_builtinR (x:=w) e.typeIs slot_tuple_getitem.lookup
  (getItem_tuple (j:=j) (Q:=fun r s'=>r=w/\EP X pins σ Q r s') e (by lia) (by lia) (by rw[JF,<-A];exact h1) (by simpa using g) ⟨rfl,b⟩) o
theorem yJ:EM X Hg:=by
 intro value a pins s σ H x y v u Q I m b h g
 obtain⟨z,i,c,rfl,rfl,p,d,q⟩:=h
 obtain⟨t,rfl⟩:=m
 obtain⟨A,rfl⟩:=b
 obtain⟨j,h1,h2,r,o,e⟩:=nZ d
 have n:z.cps.toList.length=z.length:=by simp[Str.length]
 rw[n] at h1 o e
 have w:=jB
 exact tail_any (typeIs_str s z t) slot_str_getitem.lookup (getItem_str (c:=c) (by
  have f:decide (i< -(2^63:Int))=false:=decide_eq_false (by lia)
  have l:decide (i>=2^63)=false:=decide_eq_false (by lia)
  rw[f,l,Bool.or_false]) (by rw[h1];simpa using h2) ⟨.str ⟨#[c]⟩,H,I.tok _,⟨_,rfl⟩,q⟩) g
theorem sX (its:List Value)(n j:Nat)(u:Value):Obj.mapSeq (·.setIfInBounds j u) {cls:=.type "list",data:=.seq its.toArray n}={cls:=.type "list",data:=.seq (its.set j u).toArray n}:=by
 simp[Obj.mapSeq]
theorem aI.lst {b:List (Addr×Obj)}(I:aI X b σ H s)(h:H p=some (.lst xs)):
  ∃(a:List Value) (n:Nat),aS xs a/\s.heap.get? p=some {cls:=.type "list",data:=.seq a.toArray n}/\xs.length<=sizeLine:=by
 obtain⟨z,a,n,r,e⟩:=I.hok p _ h
 exact⟨a,n,r,e,z⟩
theorem aI.lstUpd {a:List (Addr×Obj)}{g:St}{H:Hp}{s:Shared}{p:Addr}{xs ys:List V}{its its':List Value}{n c:Nat}{f:Obj->Obj}(I:aI X a g H s)(h:H p=some (.lst xs))
  (j:s.heap.get? p=some {cls:=.type "list",data:=.seq its.toArray n}) (d:f {cls:=.type "list",data:=.seq its.toArray n}={cls:=.type "list",data:=.seq its'.toArray c}) (r:aS ys its') (i:ys.length<=sizeLine) (t:Nat):
  aI X a g (upd H p (.lst ys)) {s with heap:=s.heap.update p f,toks:=t}:=by
 have e:(s.heap.update p f).get? p=some {cls:=.type "list",data:=.seq its'.toArray c}:=by
  rw[KS f j (by rw[d]<;>rfl),d]
 refine I.write (x:=p) (e:=p) (by rw[h];trivial) (.inl rfl) (fun b u l q=>(Heap.get?_update_other _ _ (JH l)).trans q) ⟨_,e⟩ ?_
 exact⟨i,its',c,r,e⟩
noncomputable def G5:V->V->V->Hp->(Hp->Prop)->Prop:=fun o i v H Q=>∃p xs k j,o=.ref p/\i=.int k/\H p=some (.lst xs)/\Em xs.length k=some j/\Q (upd H p (.lst (xs.set j v)))
theorem qh:G2 X G5:=by
 intro pins s σ H o i v ov A u Q I y m z h
 obtain⟨p,xs,k,j,rfl,rfl,l,x,q⟩:=h
 cases y
 obtain⟨t,rfl⟩:=m
 obtain⟨a,n,r,b,w⟩:=I.lst l
 obtain⟨h1,h2,f,e⟩:=vk x
 have d:=r.length
 have B:=jB
 have g:aI X pins σ (upd H p (.lst (xs.set j v))) {s with heap:=s.heap.update p (Obj.mapSeq (·.setIfInBounds j u))}:=
  I.lstUpd l b (sX a n j u) (r.set z j) (by rw[List.length_set];exact w) s.toks
 by_cases h0:0<=k
 ·have c:k.toNat=j:=by
   rw[seqIndex_of h0 e] at h1
   exact Option.some.inj h1
  exact PySem.W.ki_setAt b h0 (by lia) (by rw[JF,<-d];exact e) (by rw[c];exact⟨_,g,q⟩)
 ·have c:(k+(a.toArray.size:Int)).toNat=j:=by
   rw[seqIndex_neg (by lia) f] at h1
   rw[JF,<-d]
   exact Option.some.inj h1
  exact PySem.W.ki_setBack b (by lia) (by rw[JF,<-d];exact f) (by lia) (by rw[c];exact⟨_,g,q⟩)
theorem pd (b a:Option Int)(n:Nat):(sliceBounds b a none n).1=((HT.sIx n 0 b:Nat):Int)/\(sliceBounds b a none n).2.1=((HT.sIx n n a:Nat):Int)/\(sliceBounds b a none n).2.2=1:=by
 refine⟨?_,?_,rfl⟩
 ·cases b with
  |none=>simp[sliceBounds,HT.sIx]
  |some i=>
   simp only[sliceBounds,HT.sIx,Option.getD_none,show(1:Int)>0 by decide,if_true]
   by_cases h:i<0
   ·simp only[h,if_true]<;>lia
   ·simp only[h,if_false]<;>lia
 ·cases a with
  |none=>simp[sliceBounds,HT.sIx]
  |some i=>
   simp only[sliceBounds,HT.sIx,Option.getD_none,show(1:Int)>0 by decide,if_true]
   by_cases h:i<0
   ·simp only[h,if_true]<;>lia
   ·simp only[h,if_false]<;>lia
theorem my (its:List Value)(a b:Option Int):slicePick its.toArray a b none=((its.drop (HT.sIx its.length 0 a)).take (HT.sIx its.length its.length b - HT.sIx its.length 0 a)).toArray:=by
 obtain⟨h1,h2,c⟩:=pd a b its.toArray.size
 unfold slicePick
 rw[h1,h2,c]
 simp only[sliceRange_one,pick_run,JF]<;>rfl
noncomputable def oU (K:Je):V->Option Int->Option Int->Hp->VK->Prop:=fun x lo hi H Q=>∃a xs,x=.ref a/\aH K H a xs/\∀p,H p=none->Q (.ref p) (upd H p (.lst (dU xs lo hi)))
theorem bU:IJ X (oU X.K):=by
 intro pins s σ H x v p w lo hi n Q I j i l m h
 obtain⟨a,xs,rfl,g,q⟩:=h
 cases j
 obtain⟨d,r,e,f⟩:=I.list g
 have c:=r.length
 refine⟨"list",_,slot_list_getitem.lookup,e.isList.typeIs,?_⟩
 refine wpAny_getItem_list_slice e.isList i l m .none (by simp) ?_ (by rw[JF]<;>omega)
 rw[my,<-c]
 refine⟨.ref s.heap.objs.size,_,I.laid (t':=s.toks) (o:=.lst (dU xs lo hi)) (fun b u q=>Jj _ q) (Jg _) ?_,rfl,q _ (I.hok.fresh (Jg _))⟩
 exact⟨Jn (qj xs lo hi) f,_,0,(r.drop (HT.sIx xs.length 0 lo)).take (HT.sIx xs.length xs.length hi - HT.sIx xs.length 0 lo),Jx _ rfl⟩
noncomputable def iV:V->Bool
 | .non=>true
 | .bl _=>true
 | .int _=>true
 | .str _=>true
 |_=>false
noncomputable def DJ:V->V->Bool
 | .non,.non=>true
 | .bl a,.bl b=>a==b
 | .bl a,.int b=>(if a then 1 else 0)==b
 | .int a,.bl b=>a==(if b then 1 else 0)
 | .int a,.int b=>a==b
 | .str a,.str b=>a==b
 |_,_=>false
theorem EN(e:aQ y u)(c:aQ x v)(g:iV y=true)(f:iV x=true):SeqAt.EqAt A s u v (DJ y x):=by
 cases y with
 |non=>
  cases e
  cases x with
  |non=>cases c;exact SeqAt.EqAt.same _
  |bl b=>cases c;exact SeqAt.EqAt.none_bool b
  |int b=>obtain⟨t,rfl⟩:=c;exact SeqAt.EqAt.none_int b t
  |str b=>obtain⟨t,rfl⟩:=c;exact SeqAt.EqAt.none_str b t
  |_=>exact absurd (show false=true from f) Ju
 |bl a=>
  cases e
  cases x with
  |non=>cases c;exact SeqAt.EqAt.bool_none a
  |bl b=>cases c;exact SeqAt.EqAt.bool_bool a b
  |int b=>obtain⟨t,rfl⟩:=c;exact SeqAt.EqAt.bool_int a b t
  |str b=>obtain⟨t,rfl⟩:=c;exact SeqAt.EqAt.bool_str a b t
  |_=>exact absurd (show false=true from f) Ju
 |int a=>
  obtain⟨d,rfl⟩:=e
  cases x with
  |non=>cases c;exact SeqAt.EqAt.int_none a d
  |bl b=>cases c;exact SeqAt.EqAt.int_bool a d b
  |int b=>obtain⟨t,rfl⟩:=c;exact SeqAt.EqAt.int_int a d b t
  |str b=>obtain⟨t,rfl⟩:=c;exact SeqAt.EqAt.int_str a d b t
  |_=>exact absurd (show false=true from f) Ju
 |str a=>
  obtain⟨d,rfl⟩:=e
  cases x with
  |non=>cases c;exact SeqAt.EqAt.str_none a d
  |bl b=>cases c;exact SeqAt.EqAt.str_bool a d b
  |int b=>obtain⟨t,rfl⟩:=c;exact SeqAt.EqAt.str_int a d b t
  |str b=>obtain⟨t,rfl⟩:=c;exact SeqAt.EqAt.str_str a d b t
  |_=>exact absurd (show false=true from f) Ju
 |_=>exact absurd (show false=true from g) Ju
noncomputable def Dq (x:V) (u:Value):Bool:=match u with
 | .none=>DJ .non x
 | .bool b=>DJ (.bl b) x
 | .int i _=>DJ (.int i) x
 | .str z _=>DJ (.str z) x
 |_=>false
theorem yn(r:aQ y u)(f:iV y=true):Dq x u=DJ y x:=by
 cases y with
 |non=>cases r;rfl
 |bl b=>cases r;rfl
 |int i=>obtain⟨t,rfl⟩:=r;rfl
 |str z=>obtain⟨t,rfl⟩:=r;rfl
 |_=>exact absurd (show false=true from f) Ju
theorem oh:∀{xs:List V} {us:List Value},aS xs us->xs.all iV=true->us.any (Dq x)=xs.any fun y=>DJ y x
 |_,_,.nil,_=>rfl
 |y::xs,u::us,.cons r t,f=>by
  rw[List.all_cons,Ki] at f
  rw[K9,K9,yn r f.1,oh t f.2]
theorem lN(a:aQ x v)(b:iV x=true):∀{xs:List V} {us:List Value},aS xs us->xs.all iV=true->∀u∈us,SeqAt.EqAt A s u v (Dq x u)
 |_,_,.nil,_=>fun u hu=>by cases hu
 |y::xs,u::us,.cons r t,f=>fun c hu=>by
  rw[List.all_cons,Ki] at f
  rcases Jo.mp hu with rfl|hu
  ·rw[yn r f.1];exact EN r a f.1 b
  ·exact lN a b t f.2 c hu
def HH (x:V) (xs:List V):Bool:=xs.any fun y=>DJ y x
def Ja (K:Je) (a:Bool):R2:=fun x y H Q=>∃p xs,y=.ref p/\(aH K H p xs\/cn K H p xs)/\iV x=true/\xs.all iV=true/\Q (.bl (if a then !HH x xs else HH x xs)) H
theorem mP:gN X (compareOp .In) (Ja X.K false):=by
 intro pins s σ H x y v u Q I e f h
 obtain⟨p,xs,rfl,hq,d,fs,q⟩:=h
 cases f
 rcases hq with hq|hq
 ·obtain⟨a,r,c,g⟩:=I.list hq
  refine SeqAt.in_listAt (Dq x) c.isList (fun w b=>lN e d r fs w (by simpa using b)) ⟨.bl _,H,I,rfl,?_⟩
  rw[show a.toArray.any (Dq x)=a.any (Dq x) by simp,oh r fs]
  exact q
 ·obtain⟨a,r,c,g⟩:=I.tuple hq
  refine SeqAt.in_tupleAt (Dq x) c (fun w b=>lN e d r fs w (by simpa using b)) ⟨.bl _,H,I,rfl,?_⟩
  rw[show a.toArray.any (Dq x)=a.any (Dq x) by simp,oh r fs]
  exact q
theorem nQ:cI X (.builtin "len") (fun xs H Q=>∃z,xs=[.str z]/\z.length<=sizeLine/\Q (.int z.length) H):=by
 intro pins s σ H xs us Q I r h
 obtain⟨z,rfl,a,q⟩:=h
 obtain⟨u,rfl,t,rfl⟩:=df r
 have b:=jB
 exact len_str (by lia) ⟨.int z.length,H,I.tok _,⟨_,rfl⟩,q⟩
theorem cM:cI X (.type "list") (fun xs H Q=>∃p ys,xs=[.ref p]/\(aH X.K H p ys\/cn X.K H p ys)/\∀l,H l=none->Q (.ref l) (upd H l (.lst ys))):=by
 intro pins s σ H xs us Q I r h
 obtain⟨p,ys,rfl,hq,q⟩:=h
 obtain⟨u,rfl,x⟩:=df r
 cases x
 have c:∀(a:List Value),aS ys a->ys.length<=sizeLine->∀(h':Heap) (f:Nat),(∀b o',s.heap.get? b=some o'->h'.get? b=some o')->
   h'.get? s.heap.objs.size=some {cls:=.type "list",dict:=none,data:=.seq a.toArray f,slots:= #[]}->EP X pins σ Q (.ref s.heap.objs.size) {s with heap:=h'}:=fun a g i h' f kp e=>
  ⟨.ref s.heap.objs.size,_,I.laid (t':=s.toks) kp (Jg _) (show bM X.prog X.w _ h' _ (.lst ys) from⟨i,a,f,g,e⟩),rfl,q _ (I.hok.fresh (Jg _))⟩
 rcases hq with hq|hq
 ·obtain⟨a,g,v,i⟩:=I.list hq
  have d:=g.length
  obtain⟨o,j,m,n,hd⟩:=v.isList
  exact call_list_seq p (.inl rfl) j m hd (fun h' f kp e=>c a g i h' f kp e) (by simp only[JF]<;>omega)
 ·obtain⟨a,g,v,i⟩:=I.tuple hq
  have d:=g.length
  obtain⟨o,j,m,n,hd⟩:=v
  exact call_list_seq p (.inr rfl) j m hd (fun h' f kp e=>c a g i h' f kp e) (by simp only[JF]<;>omega)
theorem cu:cI X (.type "tuple") (fun xs H Q=>∃p ys,xs=[.ref p]/\((aH X.K H p ys/\∀l,H l=none->Q (.ref l) (upd H l (.tup ys)))\/(cn X.K H p ys/\Q (.ref p) H))):=by
 intro pins s σ H xs us Q I r h
 obtain⟨p,ys,rfl,h⟩:=h
 obtain⟨u,rfl,m⟩:=df r
 cases m
 rcases h with ⟨d,q⟩|⟨d,q⟩
 ·obtain⟨a,g,f,i⟩:=I.list d
  have c:=g.length
  refine call_tuple_list f.isList (fun h' kp=>?_) (by simp only[JF]<;>lia)
  have j:aI X pins σ H {s with heap:=h'}:=I.kept (t':=s.toks) kp
  have n:aI X pins σ (upd H h'.objs.size (.tup ys)) {s with heap:=h'.push {cls:=.type "tuple",data:=.seq a.toArray}}:=
   j.laid (t':=s.toks) (fun b o e=>Jj _ e) (Jg _) (show bM X.prog X.w _ _ _ (.tup ys) from⟨i,a,g,IsTup.new _ _⟩)
  exact⟨.ref h'.objs.size,_,n,rfl,q _ (j.hok.fresh (Jg _))⟩
 ·obtain⟨a,g,f,i⟩:=I.tuple d
  exact call_tuple_same f ⟨.ref p,H,I,rfl,q⟩
def Gc (K:Je) (T:String) (x:V) (H:Hp):Prop:=match x with
 | .str _=>T= "str"
 | .int _=>T= "int"
 | .ref p=>(T= "list" /\∃xs,aH K H p xs)\/(T= "tuple" /\∃o,K.lookup p=some o/\o.cls=.type "tuple" /\o.dict=none)\/
   (T= "dict" /\((∃kvs,H p=some (.dK kvs))\/∃kvs,H p=some (.dT kvs)))\/(T= "set" /\∃S n,H p=some (.set S n))
 |_=>False
theorem yu {f:List (Addr×Obj)}(I:aI X f σ H s)(r:aQ x v)(ty:Gc X.K T x H):
  s.TypeIs v T/\∀a,v=.ref a->∃h,s.heap.get? a=some h/\h.dict=none:=by
 cases x with
 |str z=>
  obtain⟨t,rfl⟩:=r
  cases(show T= "str" from ty)
  exact⟨typeIs_str s z t,fun _ e=>nomatch e⟩
 |int i=>
  obtain⟨t,rfl⟩:=r
  cases(show T= "int" from ty)
  exact⟨typeIs_int s i t,fun _ e=>nomatch e⟩
 |ref p=>
  cases r
  rcases ty with ⟨rfl,xs,l⟩|⟨rfl,o,d,m,hd⟩|⟨rfl,d⟩|⟨rfl,S,n,d⟩
  ·obtain⟨b,_,j,_⟩:=I.list l
   refine⟨j.isList.typeIs,fun a e=>?_⟩
   cases e
   obtain⟨o,n,e,c,hd,_⟩:=j
   exact⟨o,e,hd⟩
  ·refine⟨⟨o,I.kIn p o d,m⟩,fun a e=>?_⟩
   cases e
   exact⟨o,I.kIn _ o d,hd⟩
  ·have z:∃o,s.heap.get? p=some o/\o.ExactDict:=by
    rcases d with ⟨kvs,d⟩|⟨kvs,d⟩
    ·obtain⟨_,_,_,_,o,_,_,e,ex,_⟩:=I.hok p _ d
     exact⟨o,e,ex⟩
    ·obtain⟨_,_,_,_,o,_,_,e,ex,_⟩:=I.hok p _ d
     exact⟨o,e,ex⟩
   obtain⟨o,e,ex⟩:=z
   refine⟨⟨o,e,ex.1⟩,fun a g=>?_⟩
   cases g
   exact⟨o,e,ex.2.1⟩
  ·obtain⟨o,_,_,_,e,ex,_⟩:=I.hok p _ d
   refine⟨⟨o,e,ex.1⟩,fun a g=>?_⟩
   cases g
   exact⟨o,e,ex.2.1⟩
 |_=>exact False.elim ty
def Gp (K:Je) (T:String) (r:V->List V->Hp->VK->Prop) (a:TE):TE:=fun σ H Q=>a σ H fun x H1=>Gc K T x H1/\r x [] H1 Q
def Hn (K:Je) (T:String) (r:V->List V->Hp->VK->Prop) (a:TE) (t:TA):TE:=fun σ H Q=>a σ H fun x H1=>Gc K T x H1/\t σ H1 fun xs H2=>r x xs H2 Q
variable {o e:Expr} {es:List Expr} {to:TE} {t:TA} {name:Str} {apos cpos:Pos} {T id:String} {r:V->List V->Hp->VK->Prop}
theorem Bo (l:PlainAttrs T)(c:Slot T name id)(d:typeOf (.builtin id)=pure (.type "method_descriptor"))(j:DN X id r)(f:PE X o to)
  (b:attributeBase o name X.env (eval o X.env)=eval o X.env:=by rfl) (a:(apos.endLine==cpos.line)=true:=by rfl):PE X (.Call (.Attribute o name apos) [] [] cpos) (Gp X.K T r to):=by
 intro pins s σ H Q I h
 refine wpAny_Call_method0_late b a (bZ (f pins s σ H _ I h) fun v g ⟨x,H1,I1,e,ty,i⟩=>?_)
 obtain⟨h1,h2⟩:=yu I1 e ty
 exact⟨T,id,l,c,d,h1,h2,Calls.callWith_builtin rfl (PySem.evalArgs_none (j pins g σ H1 x [] v [] Q I1 e .nil i))⟩
theorem cY (A:PlainAttrs T)(f:Slot T name id)(g:typeOf (.builtin id)=pure (.type "method_descriptor"))(u:DN X id r)(l:PE X o to)(w:PA X (e::es) t)
  (c:attributeBase o name X.env (eval o X.env)=eval o X.env:=by rfl)
  (d:((backTo cpos (starEach (e::es) X.env)).all (fun x=>!x.1)&&(backToKw cpos (keywordEach [] X.env)).all (fun x=>x.1.isSome)
   &&decide ((e::es).length+([]:List Keyword).length+(if ([]:List Keyword).isEmpty then 0 else 1)<30))=true:=by rfl)
  (b:(apos.endLine==cpos.line)=true:=by rfl) (q:starEach (e::es) X.env=(false,eval e X.env)::starEach es X.env:=by rfl) (a:(backTo cpos (starEach es X.env)).any (·.1)=false:=by rfl):
  PE X (.Call (.Attribute o name apos) (e::es) [] cpos) (Hn X.K T r to t):=by
 intro pins s σ H Q I h
 refine wpAny_Call_method_late c d b rfl (bZ (l pins s σ H _ I h) fun v m ⟨x,H1,I1,j,ty,p⟩=>?_)
 obtain⟨h1,h2⟩:=yu I1 j ty
 refine⟨T,id,A,f,g,h1,h2,?_⟩
 have i:=w cpos pins m σ H1 _ I1 p
 rw[q] at i|-
 refine Calls.callWith_builtin (by show(false||(backTo cpos (starEach es X.env)).any (·.1))=false;rw[a]<;>rfl) (Calls.evalArgs_plain ?_)
 exact bZ i fun us z ⟨vs,H2,I2,n,y⟩=>u pins z σ H2 x vs v us Q I2 j n y
end
def Hy (X:Cx) (id:String) (r:V->List V->Hp->VK->Prop):Prop:=
 ∀(pins:List (Addr×Obj)) (s:Shared) (σ:St) (H:Hp) (x:V) (xs:List V) (v:Value) (us:List Value) (Q:VK),aI X pins σ H s->aQ x v->aS xs us->r x xs H Q->
  wpAny (model X.prog X.w) X.A (call (.builtin id) (v::us)) (EP X pins σ Q) X.xe s
theorem aS.one(h:aS [x] us):∃u,us=[u]/\aQ x u:=by
 cases h with|cons r t=>cases t;exact⟨_,rfl,r⟩
theorem aS.zero:∀{us:List Value},aS [] us->us=[]
 |_,.nil=>rfl
theorem aS.eraseIdx {xs:List V}{us:List Value}(i:Nat)(h:aS xs us):aS (xs.eraseIdx i) (us.eraseIdx i):=by
 induction h generalizing i with
 |nil=>exact .nil
 |cons q t ih=>
  cases i with
  |zero=>exact t
  |succ i=>exact .cons q (ih i)
theorem aS.reverse(h:aS xs us):aS xs.reverse us.reverse:=by
 induction h with
 |nil=>exact .nil
 |cons r t ih=>rw[LX,LX];exact aS.append ih (.cons r .nil)
theorem mH {a:Type}:∀(l:List a) (i:Nat),(l.eraseIdx i).length<=l.length
 |[],_=>Jg _
 |_::_,0=>Nat.le_succ _
 |_::r,i+1=>KC (mH r i)
section
variable {X:Cx} {pins:List (Addr×Obj)} {σ:St} {H:Hp} {s:Shared} {l b:Addr} {xs ys zs:List V}
theorem aI.lset {its its':List Value}{n:Nat}{f:Array Value->Array Value}{t':Nat}(I:aI X pins σ H s)(g:H l=some (.lst xs))
  (e:s.heap.get? l=some {cls:=.type "list",data:=.seq its.toArray n}) (c:f its.toArray=its'.toArray) (h:aS ys its') (a:ys.length<=sizeLine):
  aI X pins σ (upd H l (.lst ys)) {s with heap:=s.heap.update l (Obj.mapSeq f),toks:=t'}:=by
 have q:=PySem.IsL.update e f
 rw[c] at q
 refine I.write (x:=l) (e:=l) (by rw[g];exact trivial) (.inl rfl) (fun i u b d=>(Heap.get?_update_other s.heap (Obj.mapSeq f) (JH b)).trans d) ⟨_,q⟩ ?_
 exact⟨a,its',_,h,q⟩
theorem aI.lnew(I:aI X pins σ H s)(b:aS ys its)(a:ys.length<=sizeLine):
  aI X pins σ (upd H s.heap.objs.size (.lst ys)) {s with heap:=s.heap.push {cls:=.type "list",data:=.seq its.toArray},toks:=t'}:=
 I.laid (fun _ _ q=>Jj _ q) (Jg _) ⟨a,its,0,b,Jx _ rfl⟩
theorem aI.fresh (I:aI X pins σ H s):H s.heap.objs.size=none:=I.hok.fresh (Jg _)
theorem aI.lstM (I:aI X pins σ H s)(b:H l=some (.lst xs)):xs.length<=sizeLine/\∃(a:List Value) (n:Nat),aS xs a/\xs.length=a.length/\s.heap.get? l=some {cls:=.type "list",data:=.seq a.toArray n}:=by
 obtain⟨z,a,n,r,e⟩:=I.hok l _ b
 exact⟨z,a,n,r,r.length,e⟩
theorem Bh(h:n<=sizeLine):Builtin.List.listTooLong n=false:=by
 unfold Builtin.List.listTooLong
 exact decide_eq_false (by lia)
end
section
variable {X:Cx}
noncomputable def vH:V->List V->Hp->VK->Prop:=fun x vs H Q=>∃l xs y,x=.ref l/\vs=[y]/\H l=some (.lst xs)/\xs.length<sizeLine/\Q .non (upd H l (.lst (xs++[y])))
theorem bP:Hy X "list.append" vH:=by
 intro pins s σ H x vs v us Q I c f h
 obtain⟨l,xs,y,rfl,rfl,b,g,q⟩:=h
 cases c
 obtain⟨u,rfl,d⟩:=f.one
 obtain⟨z,a,n,r,i,e⟩:=I.lstM b
 refine call_meets F.slot_list_append ⟨_,e,rfl⟩ F.entry_list_append (F.args_list_append_2 _ _) (PySem.list_append l a.toArray n u (by rw[JF];omega)) ⟨e,?_⟩
 refine⟨.non,_,I.lset (its':=a++[u]) b e (by simp) (r.append (.cons d .nil)) ?_,rfl,q⟩
 rw[Js,List.length_singleton]
 omega
noncomputable def CG:V->List V->Hp->VK->Prop:=fun x vs H Q=>∃l b xs zs,x=.ref l/\vs=[.ref b]/\H l=some (.lst xs)/\H b=some (.lst zs)/\xs.length+zs.length<=sizeLine/\Q .non (upd H l (.lst (xs++zs)))
theorem mB:Hy X "list.extend" CG:=by
 intro pins s σ H x vs v us Q I m y h
 obtain⟨l,b,xs,zs,rfl,rfl,i,j,C,q⟩:=h
 cases m
 obtain⟨u,rfl,o⟩:=y.one
 cases o
 obtain⟨z,c,n,r,D,e⟩:=I.lstM i
 obtain⟨B,a,w,A,g,p⟩:=I.lstM j
 have f:c.toArray.size+a.toArray.size<=sizeLine:=by rw[JF,JF];lia
 have d:¬(!c.toArray.isEmpty&&Builtin.List.listTooLong (c.toArray.size+a.toArray.size))=true:=by
  rw[Bh f,Bool.and_false]
  exact Ju
 refine call_meets F.slot_list_extend ⟨_,e,rfl⟩ F.entry_list_extend (F.args_list_extend_2 _ _)
  (AutoSeq1.list_extend_list_list_0 l c.toArray n b a.toArray w d (by rw[JF];lia) (by lia)) ⟨e,p,?_⟩
 refine⟨.non,_,I.lset (its':=c++a) i e (by simp) (r.append A) ?_,rfl,q⟩
 rw[Js]
 lia
noncomputable def FR:V->List V->Hp->VK->Prop:=fun x vs H Q=>∃l xs i k y,x=.ref l/\vs=[.int i]/\H l=some (.lst xs)/\ -(2^63)<=i/\i<2^63/\seqIndex? i xs.length=some k/\xs[k]?=some y/\Q y (upd H l (.lst (xs.eraseIdx k)))
theorem p_:Hy X "list.pop" FR:=by
 intro pins s σ H x vs v us Q I f m h
 obtain⟨l,xs,i,k,y,rfl,rfl,c,h1,h2,j,p,q⟩:=h
 cases f
 obtain⟨u,rfl,g⟩:=m.one
 obtain⟨t,rfl⟩:=g
 obtain⟨z,a,n,r,o,e⟩:=I.lstM c
 obtain⟨w,d,b⟩:=r.get p
 refine call_meets F.slot_list_pop ⟨_,e,rfl⟩ F.entry_list_pop (F.args_list_pop_2 _ _)
  (MeetsSeq.list_pop_at l a.toArray n i t k w (fitsIndex_both h1 h2) (by rw[JF,<-o];exact j) (by rw[<-J7];exact d) (by rw[JF];lia)) ⟨e,?_⟩
 refine⟨y,_,I.lset (its':=a.eraseIdx k) c e ?_ (r.eraseIdx k) ?_,b,q⟩
 ·show a.toArray.eraseIdxIfInBounds k=(a.eraseIdx k).toArray
  rw[List.eraseIdxIfInBounds_toArray]
 ·have:=mH xs k
  lia
noncomputable def yI:V->List V->Hp->VK->Prop:=fun x vs H Q=>∃l xs,x=.ref l/\vs=[]/\H l=some (.lst xs)/\Q .non (upd H l (.lst xs.reverse))
theorem tZ:Hy X "list.reverse" yI:=by
 intro pins s σ H x vs v us Q I d f h
 obtain⟨l,xs,rfl,rfl,c,q⟩:=h
 cases d
 have b:=f.zero
 subst b
 obtain⟨z,a,n,r,g,e⟩:=I.lstM c
 refine call_meets F.slot_list_reverse ⟨_,e,rfl⟩ F.entry_list_reverse (F.args_list_reverse_1 _) (AutoSeq1.list_reverse_list_0 l a.toArray n (by rw[JF];lia)) ⟨e,?_⟩
 refine⟨.non,_,I.lset (its':=a.reverse) c e (by simp) r.reverse ?_,rfl,q⟩
 rw[List.length_reverse]
 lia
def HZ:R2:=fun x y H Q=>∃l b xs zs,x=.ref l/\y=.ref b/\H l=some (.lst xs)/\H b=some (.lst zs)/\xs.length+zs.length<=sizeLine/\∀p,H p=none->Q (.ref p) (upd H p (.lst (xs++zs)))
theorem fA:gN X (binaryOp .Add) HZ:=by
 intro pins s σ H x y v u Q I i f h
 obtain⟨l,b,xs,zs,rfl,rfl,m,o,w,q⟩:=h
 cases i
 cases f
 obtain⟨z,c,n,r,B,e⟩:=I.lstM m
 obtain⟨A,a,C,p,d,g⟩:=I.lstM o
 refine PySem.P.add_list e g ?_ (by rw[JF,JF];lia)
 have j:c.toArray++a.toArray=(c++a).toArray:=by simp
 rw[j]
 exact⟨.ref _,_,I.lnew (t':=s.toks) (r.append p) (by rw[Js];lia),rfl,q _ I.fresh⟩
theorem Dx {a:Type}(xs:List a)(k:Nat):(List.replicate k xs).flatten.length=k*xs.length:=by
 induction k with
 |zero=>simp
 |succ k ih=>rw[KD,Lz,Js,ih,Nat.succ_mul,Nat.add_comm]
end
section
variable {prog:Program} {w:World} {A:Around} {E:Value->Shared->Prop} {s:Shared}
end
section
variable {X:Cx}
end
section
variable {κ:Type} [DecidableEq κ]
noncomputable def cA (kvs:List (κ×V)) (k:κ):Option V:=(kvs.find? fun a=>decide (a.1=k)).map (·.2)
noncomputable def dY (kvs:List (κ×V)) (k:κ) (v:V):List (κ×V):=
 if (kvs.any fun a=>decide (a.1=k))=true then kvs.map (fun a=>if a.1=k then (a.1,v) else a) else kvs++[(k,v)]
theorem dk {p:κ×V}{r:List (κ×V)}{k:κ}(e:p.1=k):cA (p::r) k=some p.2:=by simp[cA,Lj,e]
theorem dw {p:κ×V}{r:List (κ×V)}{k:κ}(e:¬p.1=k):cA (p::r) k=cA r k:=by simp[cA,Lj,e]
theorem dN (k:κ):∀kvs:List (κ×V),(kvs.any fun a=>decide (a.1=k))=(cA kvs k).isSome
 |[]=>rfl
 |p::r=>by
  rw[K9]
  by_cases e:p.1=k
  ·simp only[dk e,decide_eq_true e,Bool.true_or,Option.isSome_some]
  ·rw[dw e,decide_eq_false e,Bool.false_or];exact dN k r
theorem qO (k j:κ)(y:V):∀kvs:List (κ×V),cA (kvs.map fun a=>if a.1=k then (a.1,y) else a) j=(cA kvs j).map fun x=>if j=k then y else x
 |[]=>rfl
 |p::r=>by
  have b:=qO k j y r
  rw[Jr]
  by_cases h:p.1=k
  ·rw[if_pos h]
   by_cases e:p.1=j
   ·rw[dk (p:=(p.1,y)) e,dk e,Li,if_pos (e.symm.trans h)]
   ·rw[dw (p:=(p.1,y)) e,dw e,b]
  ·rw[if_neg h]
   by_cases e:p.1=j
   ·rw[dk (p:=p) e,dk e,Li,if_neg (fun z=>h (e.trans z))]
   ·rw[dw (p:=p) e,dw e,b]
theorem mI (k j:κ)(y:V):∀kvs:List (κ×V),cA kvs k=none->cA (kvs++[(k,y)]) j=if j=k then some y else cA kvs j
 |[],_=>by
  by_cases e:k=j
  ·rw[if_pos e.symm];exact dk (p:=(k,y)) e
  ·rw[if_neg (fun z=>e z.symm)];exact dw (p:=(k,y)) e
 |p::r,hn=>by
  rw[List.cons_append]
  have a:¬p.1=k:=fun z=>by rw[dk z] at hn;cases hn
  rw[dw a] at hn
  have b:=mI k j y r hn
  by_cases e:p.1=j
  ·rw[dk e,dk e,if_neg (fun z=>a (e.trans z))]
  ·rw[dw e,dw e,b]
theorem Ax (kvs:List (κ×V))(k j:κ)(y:V):cA (dY kvs k y) j=if j=k then some y else cA kvs j:=by
 unfold dY
 by_cases a:(kvs.any fun c=>decide (c.1=k))=true
 ·rw[if_pos a,qO]
  rw[dN] at a
  by_cases e:j=k
  ·obtain⟨x,b⟩:=Ma.mp a
   rw[if_pos e,e,b,Li,if_pos rfl]
  ·rw[if_neg e]
   cases cA kvs j with
   |none=>rfl
   |some x=>rw[Li,if_neg e]
 ·rw[if_neg a]
  refine mI k j y kvs ?_
  rw[dN] at a
  cases q:cA kvs k with
  |none=>rfl
  |some x=>rw[q] at a;exact(a rfl).elim
theorem eS (kvs:List (κ×V))(k:κ)(v:V):(dY kvs k v).length<=kvs.length+1:=by
 unfold dY
 split
 ·rw[Jd];lia
 ·rw[Js,JC,List.length_nil];lia
theorem iq.isSome_eq{u:Option Value}(r:iq o u):o.isSome=u.isSome:=by
 cases o with
 |none=>cases u with
  |none=>rfl
  |some _=>exact(show False from r).elim
 |some _=>cases u with
  |none=>exact(show False from r).elim
  |some _=>rfl
theorem KV.val {kvs:List (κ×V)}{vs:List (κ×Value)}(r:KV kvs vs)(k:κ):iq (cA kvs k) (valueAt vs k):=by
 unfold KV at r
 induction r with
 |nil=>exact True.intro
 | @cons p q ps a h t d=>
  obtain⟨h1,h2⟩:=h
  by_cases e:p.1=k
  ·have c:q.1=k:=h1.symm.trans e
   have b:valueAt (q::a) k=some q.2:=by simp[valueAt,Lj,c]
   rw[dk e,b];exact h2
  ·have c:¬q.1=k:=fun z=>e (h1.trans z)
   have b:valueAt (q::a) k=valueAt a k:=by simp[valueAt,Lj,c]
   rw[dw e,b];exact d
theorem KV.any {kvs:List (κ×V)}{vs:List (κ×Value)}(r:KV kvs vs)(k:κ):(kvs.any fun a=>decide (a.1=k))=vs.any fun a=>decide (a.1=k):=by
 unfold KV at r
 induction r with
 |nil=>rfl
 |cons h t ih=>rw[K9,K9,ih,h.1]
theorem KV.repl {kvs:List (κ×V)}{vs:List (κ×Value)}(r:KV kvs vs)(k:κ){y:V}{u:Value}(b:aQ y u):
  KV (kvs.map fun a=>if a.1=k then (a.1,y) else a) (vs.map fun a=>if a.1=k then (a.1,u) else a):=by
 unfold KV at r|-
 induction r with
 |nil=>exact .nil
 | @cons p q ps qs h t ih=>
  rw[Jr,Jr]
  refine .cons ?_ ih
  obtain⟨h1,h2⟩:=h
  by_cases e:p.1=k
  ·rw[if_pos e,if_pos (h1.symm.trans e)];exact⟨h1,b⟩
  ·rw[if_neg e,if_neg (fun z=>e (h1.trans z))];exact⟨h1,h2⟩
theorem KV.put {kvs:List (κ×V)}{vs:List (κ×Value)}(r:KV kvs vs)(k:κ){y:V}{u:Value}(a:aQ y u):KV (dY kvs k y) (stored vs k u):=by
 unfold dY stored
 rw[r.any k]
 by_cases e:(vs.any fun b=>decide (b.1=k))=true
 ·rw[if_pos e,if_pos e];exact r.repl k a
 ·rw[if_neg e,if_neg e];exact Paired.snoc r ⟨rfl,a⟩
theorem KV.length {kvs:List (κ×V)}{vs:List (κ×Value)}(r:KV kvs vs):kvs.length=vs.length:=Paired.length r
end
theorem nE(r:aQ (kV k) u):(aY P w).is k u=true:=by
 cases k with
 |inl i=>obtain⟨t,e⟩:=(show∃t,u=Value.int i t from r);subst e;exact rY P w i t
 |inr x=>obtain⟨t,e⟩:=(show∃t,u=Value.str x t from r);subst e;exact rq P w x t
theorem mQ:∀{ks:List cP} {us:List Value},aS (ks.map kV) us->ItemsAre (aY P w) ks us
 |[],_,r=>by rw[KR] at r;cases r;exact .nil
 |k::ks,_,r=>by
  rw[Jr] at r
  cases r with
  |cons h t=>exact .cons (nE h) (mQ t)
abbrev KT (H:Hp):List (List cP×V)->List (List cP×Addr×Value)->Prop:=Paired fun p q=>p.1=q.1/\H q.2.1=some (.tup (p.1.map kV))/\aQ p.2 q.2.2
theorem KT.val{kvs:List (List cP×V)}{xs:List (List cP×Addr×Value)}(r:KT H kvs xs)(k:List cP):iq (cA kvs k) ((atKey xs k).map (·.2)):=by
 induction r with
 |nil=>exact True.intro
 | @cons p q ps a h t d=>
  obtain⟨h1,_,h2⟩:=h
  by_cases e:p.1=k
  ·have c:q.1=k:=h1.symm.trans e
   have b:atKey (q::a) k=some q.2:=by simp[atKey,Lj,c]
   rw[dk e,b];exact h2
  ·have c:¬q.1=k:=fun z=>e (h1.trans z)
   have b:atKey (q::a) k=atKey a k:=by simp[atKey,Lj,c]
   rw[dw e,b];exact d
theorem KT.repl{kvs:List (List cP×V)}{xs:List (List cP×Addr×Value)}(r:KT H kvs xs)(k:List cP){y:V}{u:Value}(b:aQ y u):
  KT H (kvs.map fun a=>if a.1=k then (a.1,y) else a) (xs.map (putAt k u)):=by
 induction r with
 |nil=>exact .nil
 | @cons p q ps qs h t ih=>
  rw[Jr,Jr]
  refine .cons ?_ ih
  obtain⟨h1,h2,c⟩:=h
  unfold putAt
  by_cases e:p.1=k
  ·rw[if_pos e,if_pos (h1.symm.trans e)];exact⟨h1,h2,b⟩
  ·rw[if_neg e,if_neg (fun z=>e (h1.trans z))];exact⟨h1,h2,c⟩
theorem KT.put{kvs:List (List cP×V)}{xs:List (List cP×Addr×Value)}(r:KT H kvs xs)(k:List cP){b:Addr}{y:V}{u:Value}(c:H b=some (.tup (k.map kV)))(a:aQ y u):
  KT H (dY kvs k y) (storedH xs k b u):=by
 have e:(kvs.any fun d=>decide (d.1=k))=(atKey xs k).isSome:=by
  rw[dN,(r.val k).isSome_eq,Option.isSome_map]
 unfold dY storedH
 rw[e]
 by_cases q:(atKey xs k).isSome=true
 ·rw[if_pos q,if_pos q];exact r.repl k a
 ·rw[if_neg q,if_neg q];exact Paired.snoc r ⟨rfl,c,a⟩
theorem KT.keeps{kvs:List (List cP×V)}{xs:List (List cP×Addr×Value)}(r:KT H kvs xs)(a:∀b ys,H b=some (.tup ys)->H' b=some (.tup ys)):KT H' kvs xs:=
 Paired.mapP r fun _ _ z=>⟨z.1,a _ _ z.2.1,z.2.2⟩
section
variable {P:Program} {w:World} {H:Hp} {h:Heap} {a:Addr}
theorem D3(ok:h_ P w H h)(e:Rd H a u):bM P w H h a u:=e.ok ok
theorem mY {kvs:List (cP×V)}(ok:h_ P w H h)(e:Rd H a (.dK kvs)):kvs.length<=sizeLine/\(a==sysModules)=false/\∃vs,KV kvs vs/\h.DictOf (aY P w) a vs:=
 show bM P w H h a (.dK kvs) from D3 ok e
theorem GQ {kvs:List (cP×V)}(ok:h_ P w H h)(e:H a=some (.dK kvs)):kvs.length<=sizeLine/\(a==sysModules)=false/\∃vs,KV kvs vs/\h.DictOf (aY P w) a vs:=mY ok (.inl e)
theorem ju(ok:h_ P w H h)(e:H a=some (.tup (ks.map kV))):(tupleKind (aY P w)).is h ks a:=by
 obtain⟨_,b,r,o,h1,h2,n,c⟩:=(show bM P w H h a (.tup (ks.map kV)) from ok a _ e)
 exact⟨o,b.toArray,n,h1,h2,c,by simpa using mQ r⟩
theorem nj {kvs:List (List cP×V)}(ok:h_ P w H h)(e:Rd H a (.dT kvs)):kvs.length<=sizeLine/\(a==sysModules)=false/\
  ∃xs,KT H kvs xs/\h.DictOfH (tupleKind (aY P w)) a xs:=by
 obtain⟨z,y,xs,r,o,es,ep,h1,h2,c,d,b⟩:=(show bM P w H h a (.dT kvs) from D3 ok e)
 refine⟨z,y,xs,r,o,es,ep,h1,h2,c,d,fun x hx=>?_,b⟩
 have all:∀{l:List (List cP×V)} {m:List (List cP×Addr×Value)},KT H l m->∀x∈m,(tupleKind (aY P w)).is h x.1 x.2.1:=by
  intro l m q
  induction q with
  |nil=>intro x hx;exact nomatch hx
  | @cons p q ps qs hq t ih=>
   intro x hx
   rcases Jo.mp hx with e|hx
   ·subst e
    exact ju ok (by rw[<-hq.1];exact hq.2.1)
   ·exact ih x hx
 exact all r x hx
theorem G_ {kvs:List (List cP×V)}(ok:h_ P w H h)(e:H a=some (.dT kvs)):kvs.length<=sizeLine/\(a==sysModules)=false/\
  ∃xs,KT H kvs xs/\h.DictOfH (tupleKind (aY P w)) a xs:=nj ok (.inl e)
end
def iE (H:Hp) (a:Addr) (y:V) (r:Option V):Prop:=
 (∃kvs k,Rd H a (.dK kvs)/\y=kV k/\r=cA kvs k)\/∃kvs k b,Rd H a (.dT kvs)/\y=.ref b/\H b=some (.tup (k.map kV))/\r=cA kvs k
def oK (H:Hp) (a:Addr) (y v:V) (c:Hp):Prop:=
 (∃kvs k,H a=some (.dK kvs)/\y=kV k/\kvs.length<sizeLine/\c=upd H a (.dK (dY kvs k v)))\/
 ∃kvs k b,H a=some (.dT kvs)/\y=.ref b/\H b=some (.tup (k.map kV))/\kvs.length<sizeLine/\c=upd H a (.dT (dY kvs k v))
theorem iE.k {H:Hp}{a:Addr}{kvs:List (cP×V)}{k:cP}(e:H a=some (.dK kvs)):iE H a (kV k) (cA kvs k):=.inl ⟨kvs,k,.inl e,rfl,rfl⟩
theorem oK.k {H:Hp}{a:Addr}{kvs:List (cP×V)}{k:cP}{v:V}(e:H a=some (.dK kvs))(b:kvs.length<sizeLine):oK H a (kV k) v (upd H a (.dK (dY kvs k v))):=.inl ⟨kvs,k,e,rfl,b,rfl⟩
theorem oK.t {H:Hp}{a b:Addr}{kvs:List (List cP×V)}{k:List cP}{v:V}(e:H a=some (.dT kvs))(c:H b=some (.tup (k.map kV)))(d:kvs.length<sizeLine):
  oK H a (.ref b) v (upd H a (.dT (dY kvs k v))):=.inr ⟨kvs,k,b,e,rfl,c,d,rfl⟩
section
variable {X:Cx} {pins:List (Addr×Obj)} {σ:St} {H:Hp} {s:Shared} {a:Addr} {y v:V} {u r:Value} {o:Option V} {A:Around} {E:Value->Shared->Prop}
theorem aI.big (I:aI X pins σ H s):sysModules<s.heap.objs.size:=by
 have h:mainGlobals<s.heap.objs.size:=(I.mod.glob.keeps I.bk).lt
 exact Nat.lt_trans (by decide) h
theorem wm(r:A.units+1<cLine)(I:aI X pins σ H s)(g:iE H a y (some v))(n:aQ y u)(h:∀i s',aI X pins σ H s'->aQ v i->Q i s'):
  wpAny (model X.prog X.w) A (getItem (.ref a) u) Q E s:=by
 rcases g with ⟨kvs,k,e,m,l⟩|⟨kvs,k,b,e,m,q,l⟩
 ·subst m
  obtain⟨z,hd,vs,d,dd⟩:=mY I.hok e
  obtain⟨i,j,c⟩:=iq.some_of (v:=v) (o:=valueAt vs k) (by rw[l];exact d.val k)
  exact wpAny_getItem_of (nE n) dd.mapOf j (h i _ (I.tok _) c)
 ·subst m
  cases(show u=Value.ref b from n)
  obtain⟨z,hd,xs,d,dd⟩:=nj I.hok e
  obtain⟨i,j,c⟩:=iq.some_of (v:=v) (o:=(atKey xs k).map (·.2)) (by rw[l];exact d.val k)
  obtain⟨p,x,f⟩:=K_.mp j
  refine wpAny_getItem_heap (tupleKind_room_in1 r) (ju I.hok q) dd x ?_
  rw[f]
  exact h i _ (I.tok _) c
theorem HP(j:A.units+1<cLine)(I:aI X pins σ H s)(g:iE H a y o)(f:aQ y u)(h:∀s',aI X pins σ H s'->Q (.bool o.isSome) s'):
  wpAny (model X.prog X.w) A (compareOp .In u (.ref a)) Q E s:=by
 rcases g with ⟨kvs,k,e,d,l⟩|⟨kvs,k,b,e,d,i,l⟩
 ·subst d
  obtain⟨z,hd,vs,c,dd⟩:=mY I.hok e
  refine wpAny_in_of (nE f) hd dd.mapOf ?_
  rw[<-(c.val k).isSome_eq,<-l]
  exact h _ (I.tok _)
 ·subst d
  cases(show u=Value.ref b from f)
  obtain⟨z,hd,xs,c,dd⟩:=nj I.hok e
  refine wpAny_in_heap (tupleKind_room_in1 j) (ju I.hok i) hd dd ?_
  have q:=(c.val k).isSome_eq
  rw[Option.isSome_map] at q
  rw[<-q,<-l]
  exact h _ (I.tok _)
theorem B6(j:A.units+1<cLine)(I:aI X pins σ H s)(g:iE H a y o)(f:aQ y u)(h:∀s',aI X pins σ H s'->Q (.bool (!o.isSome)) s'):
  wpAny (model X.prog X.w) A (compareOp .NotIn u (.ref a)) Q E s:=by
 rcases g with ⟨kvs,k,e,d,l⟩|⟨kvs,k,b,e,d,i,l⟩
 ·subst d
  obtain⟨z,hd,vs,c,dd⟩:=mY I.hok e
  refine wpAny_notIn_of (nE f) hd dd.mapOf ?_
  rw[<-(c.val k).isSome_eq,<-l]
  exact h _ (I.tok _)
 ·subst d
  cases(show u=Value.ref b from f)
  obtain⟨z,hd,xs,c,dd⟩:=nj I.hok e
  refine wpAny_notIn_heap (tupleKind_room_in1 j) (ju I.hok i) hd dd ?_
  have q:=(c.val k).isSome_eq
  rw[Option.isSome_map] at q
  rw[<-q,<-l]
  exact h _ (I.tok _)
theorem uo(I:aI X pins σ H s)(d:Co (H a))(g:Heap.SameBut a s.heap h')(f:∃q,h'.get? a=some q)(new:bM X.prog X.w (upd H a ob) h' a ob):
  aI X pins σ (upd H a ob) {s with heap:=h',toks:=t'}:=
 I.write (x:=a) (e:=a) d (.inl rfl) (fun b q c z=>(g.2 b c).trans z) f new
theorem BE{kvs:List (cP×V)}{vs:List (cP×Value)}(z:kvs.length<=sizeLine)(hd:(a==sysModules)=false)(b:KV kvs vs)(c:h'.DictOf (aY P w) a vs):
  bM P w H' h' a (.dK kvs):=⟨z,hd,vs,b,c⟩
theorem wU{Q:Unit->Shared->Prop}(K:A.units+1<cLine)(I:aI X pins σ H s)(g:oK H a y v H')(C:aQ y u)(D:aQ v r)(h:∀s',aI X pins σ H' s'->Q () s'):
  wpAny (model X.prog X.w) A (setItem (.ref a) u r) Q E s:=by
 rcases g with ⟨kvs,k,e,p,l,m⟩|⟨kvs,k,b,e,p,B,l,m⟩
 ·subst p m
  obtain⟨z,hd,vs,d,dd⟩:=GQ I.hok e
  have j:vs.length<=sizeLine:=by rw[<-d.length];exact z
  have o:(dY kvs k v).length<=sizeLine:=by have:=eS kvs k v;lia
  refine wpAny_setItem_pairs (hsz:=j) (nE C) dd fun h' f n=>h _ ?_
  have G:∃q,h'.get? a=some q:=let ⟨q,_,_,i,_⟩:=f;⟨q,i⟩
  exact uo I (by rw[e];exact True.intro) n G (BE o hd (d.put k D) f)
 ·subst p m
  cases(show u=Value.ref b from C)
  obtain⟨z,hd,xs,d,dd⟩:=G_ I.hok e
  have j:xs.length<=sizeLine:=by rw[<-Paired.length d];exact z
  have o:(dY kvs k v).length<=sizeLine:=by have:=eS kvs k v;lia
  refine wpAny_setItem_heap (hsz:=j) (tupleKind_room_in1 K) (ju I.hok B) dd fun h' f n=>h _ ?_
  obtain⟨q,es,ep,i,h2,M,F,_,J⟩:=f
  refine uo I (by rw[e];exact True.intro) n ⟨q,i⟩ ⟨o,hd,_,(d.put k B D).keeps fun c ys x=>?_,q,es,ep,i,h2,M,F,J⟩
  rw[ak (jL x e (fun z=>nomatch z))]
  exact x
end
section
variable {X:Cx} {pins:List (Addr×Obj)} {σ:St} {H:Hp} {s:Shared} {a:Addr} {kvs:List (cP×V)} {k:cP} {u:Value} {A:Around} {E:Value->Shared->Prop}
end
def Gg (i:Expr):Prop:=∀ov a,subscripted i false ov a=operate [ov,a] (getItem ov a)
theorem B3 {prog:Program}{w:World}{A:Around}{E:Value->Shared->Prop}{s:Shared}{env:Env}{c b:Expr}{l:Pos}{T id:String}{Q:Value->Shared->Prop}
  (p:typeLookup (.type T) "__getitem__" =pure (some (.builtin id))) (n:Gg b)
  (h:wpAny (model prog w) A (eval c env) (fun o e=>wpAny (model prog w) A (eval b env) (fun i s₂=>s₂.TypeIs o T/\wpAny (model prog w) A (getItem o i) Q E s₂) E e) E s):
  wpAny (model prog w) A (eval (.Subscript c b l) env) Q E s:=by
 refine Subscript_ (JU h (fun o e j=>JU j (fun i s₂ d=>?_) fun _ _ x=>x) fun _ _ x=>x)
 obtain⟨m,d⟩:=d
 unfold subscriptTail
 refine Jc ?_
 rw[getitemInPython_of_ne m.not_modules]
 refine Jc (wpAny_specialOf m p ?_)
 have a:wpAny (model prog w) A (subscripted b false o i) (fun r f=>wpAny (model prog w) A (letTemporaryGo c o r>>=fun _=>pure r) Q E f) E s₂:=by
  rw[n o i]
  exact wpAny_operating (JU d (fun r f g=>Jc (wpAny_letTemporaryGo (Jf g))) fun _ _ x=>x)
 first
  |exact Jf (Jc a)
  |exact Jc (Jf (Jc a))
  |exact Jc a
theorem pR{c:List (Addr×Obj)}(I:aI X c σ H s)(g:iE H a y o):s.TypeIs (.ref a) "dict" :=by
 rcases g with ⟨kvs,k,e,_,_⟩|⟨kvs,k,b,e,_,_,_⟩
 ·obtain⟨_,_,vs,_,dd⟩:=mY I.hok e
  exact dd.typeIs
 ·obtain⟨_,_,xs,_,dd⟩:=nj I.hok e
  exact dd.typeIs
def uH (b ty:TE):TE:=fun σ H Q=>b σ H fun x H1=>ty σ H1 fun y H2=>∃a v,x=.ref a/\iE H2 a y (some v)/\Q v H2
def E7 (ty b:TE):TE:=fun σ H Q=>ty σ H fun y H1=>b σ H1 fun x H2=>∃a o,x=.ref a/\iE H2 a y o/\Q (.bl o.isSome) H2
def vZ (ty b:TE):TE:=fun σ H Q=>ty σ H fun y H1=>b σ H1 fun x H2=>∃a o,x=.ref a/\iE H2 a y o/\Q (.bl (!o.isSome)) H2
def y8 (b ty c:TE):TS:=fun D σ H=>c σ H fun v H1=>b σ H1 fun x H2=>ty σ H2 fun y H3=>∃a H4,x=.ref a/\oK H3 a y v H4/\D.nx σ H4
section
variable {X:Cx} {o i e value:Expr} {pos pos' tpos:Pos} {td ty tv:TE}
theorem j_ (j:X.A.units+1<cLine)(e:PE X o td)(c:PE X i ty)(m:Gg i):PE X (.Subscript o i pos) (uH td ty):=by
 intro pins s σ H Q I h
 refine B3 PySem.F.slot_dict_getitem.lookup m (bZ (e pins s σ H _ I h) fun u f ⟨x,H1,I1,n,l⟩=>bZ (c pins f σ H1 _ I1 l) fun w z q=>?_)
 obtain⟨y,H2,I2,d,a,v,ex,g,p⟩:=q
 subst ex
 obtain rfl:u=Value.ref a:=n
 exact⟨pR I2 g,wm j I2 g d fun B r I3 b=>⟨v,H2,I3,b,p⟩⟩
theorem Ai (f:X.A.units+1<cLine)(b:PE X i ty)(d:PE X o td):PC X .In i o (E7 ty td):=by
 intro pins s σ H Q I h
 refine bZ (b pins s σ H _ I h) fun q e ⟨y,H1,I1,c,j⟩=>bZ (d pins e σ H1 _ I1 j) fun u r n=>?_
 obtain⟨x,H2,I2,l,a,ov,ex,g,m⟩:=n
 subst ex
 obtain rfl:u=Value.ref a:=l
 exact HP f I2 g c fun p I3=>⟨.bl ov.isSome,H2,I3,rfl,m⟩
theorem w_ (f:X.A.units+1<cLine)(b:PE X i ty)(d:PE X o td):PC X .NotIn i o (vZ ty td):=by
 intro pins s σ H Q I h
 refine bZ (b pins s σ H _ I h) fun q e ⟨y,H1,I1,c,j⟩=>bZ (d pins e σ H1 _ I1 j) fun u r n=>?_
 obtain⟨x,H2,I2,l,a,ov,ex,g,m⟩:=n
 subst ex
 obtain rfl:u=Value.ref a:=l
 exact B6 f I2 g c fun p I3=>⟨.bl (!ov.isSome),H2,I3,rfl,m⟩
theorem jV (f:X.A.units+1<cLine)(d:PE X o td)(b:PE X i ty)(j:PE X value tv)(m:swapsWith value (some (.Subscript o i pos')) pos.line X.env=pure false):
  PS X (.Assign [.Subscript o i pos'] value pos) (y8 td ty tv):=by
 intro pins s σ H D I h
 refine wpAny_Assign_Subscript (bZ (j pins s σ H _ I h) fun r e ⟨v,H1,I1,w,l⟩=>bZ (d pins e σ H1 _ I1 l) fun u z ⟨x,H2,I2,n,p⟩=>bZ (b pins z σ H2 _ I2 p) fun E C q=>?_) m
 obtain⟨y,H3,I3,c,a,H4,ex,g,B⟩:=q
 subst ex
 obtain rfl:u=Value.ref a:=n
 exact wU f I3 g c w fun s4 I4=>⟨σ,H4,I4,B⟩
end
theorem Bu(h:Heap)(a:sysModules<h.objs.size):bM P w H (h.push {cls:=.type "dict",data:=.dict #[]}) h.objs.size (.dK []):=
 ⟨JA _,beq_eq_false_iff_ne.mpr (JH (Jw a)),[],.nil,Heap.DictOf.new h⟩
theorem A_(h:Heap)(a:sysModules<h.objs.size):bM P w H (h.push {cls:=.type "dict",data:=.dict #[]}) h.objs.size (.dT []):=
 ⟨JA _,beq_eq_false_iff_ne.mpr (JH (Jw a)),[],.nil,_,#[],0,Jx _ rfl,⟨rfl,rfl,rfl⟩,rfl,rfl,Lk⟩
def FF:TE:=fun _ H Q=>∀p,H p=none->Q (.ref p) (upd H p (.dK []))
def E4:TE:=fun _ H Q=>∀p,H p=none->Q (.ref p) (upd H p (.dT []))
section
variable {X:Cx} {pos:Pos}
theorem A6:PE X (.Dict [] [] pos) FF:=fun pins s σ H Q I h=>
 wpAny_Dict_empty ⟨.ref s.heap.objs.size,_,I.laid (a:=s.heap.objs.size) (o:=.dK []) (t':=s.toks) (fun _ _ q=>Jj _ q) (Jg _) (Bu s.heap I.big),rfl,h _ (I.hok.fresh (Jg _))⟩
theorem gW:PE X (.Dict [] [] pos) E4:=fun pins s σ H Q I h=>
 wpAny_Dict_empty ⟨.ref s.heap.objs.size,_,I.laid (a:=s.heap.objs.size) (o:=.dT []) (t':=s.toks) (fun _ _ q=>Jj _ q) (Jg _) (A_ s.heap I.big),rfl,h _ (I.hok.fresh (Jg _))⟩
end
structure M1 (X:Cx) (o:Expr) (m:Str) (apos:Pos) (e:Expr) (cpos:Pos):Prop where
 base:attributeBase o m X.env (eval o X.env)=eval o X.env
 few:((backTo cpos (starEach [e] X.env)).all (fun x=>!x.1)&&(backToKw cpos (keywordEach [] X.env)).all (fun x=>x.1.isSome)
  &&decide (([e]:List Expr).length+([]:List Keyword).length+(if ([]:List Keyword).isEmpty then 0 else 1)<30))=true
 line:(apos.endLine==cpos.line)=true
 trees:backTo cpos (starEach [e] X.env)=[(false,eval e X.env)]
section
variable {X:Cx} {pins:List (Addr×Obj)} {σ:St} {H:Hp} {s:Shared} {a:Addr} {y d:V} {u r:Value} {o:Option V} {A:Around} {E:Value->Shared->Prop}
end
section
variable {X:Cx} {o e f:Expr} {apos cpos:Pos} {td ty tx:TE}
end
section
variable {X:Cx} {pins:List (Addr×Obj)} {σ:St} {H:Hp} {s:Shared} {a:Addr} {kvs:List (cP×V)} {A:Around} {E:Value->Shared->Prop}
theorem zX(I:aI X pins σ H s)(e:Rd H a (.dK kvs))(h:∀p s',H p=none->aI X pins σ (upd H p (.dK kvs)) s'->Q (.ref p) s'):wpAny (model X.prog X.w) A (call (.type "dict") [.ref a]) Q E s:=by
 obtain⟨z,hd,vs,c,dd⟩:=mY I.hok e
 refine kt_call_dict hd dd (by rw[<-c.length];exact z) fun h' d g=>?_
 refine h _ _ (I.hok.fresh (Jg _)) (I.laid (a:=s.heap.objs.size) (o:=.dK kvs) (t':=s.toks) (fun b q f=>?_) (Jg _) (BE z (beq_eq_false_iff_ne.mpr (JH (Jw I.big))) c d))
 exact(g.2 b (Jw (Jm f))).trans (Jj _ f)
end
section
variable {X:Cx} {pins:List (Addr×Obj)} {σ:St} {H:Hp} {s:Shared} {a:Addr} {y:V} {u:Value} {A:Around} {E:Value->Shared->Prop}
end
end L2
namespace Att
open PySem PySem.W PySem.Calls PyProof.Rows
theorem jP {P:Params}:∀(ns:List Int) (vs:List Value),WellAll P h vs (ns.map WData.int)->IntsAre vs ns:=by
 intro ns
 induction ns with
 |nil=>
  intro vs w
  rw[KR] at w
  cases w
  exact .nil
 |cons n ns ih=>
  intro vs w
  rw[Jr] at w
  cases w with
  |cons a b=>
   cases a
   exact .cons _ _ (ih _ b)
theorem wZ {l:OpenLaw}(s:l.most=some n){P:Params}{h:Heap}{args:List WData}{e:List Value}
  (f:l.row.toRowW.claim.pre args=true) (j:WellAll P h e args):
  ∃a vs ns,e=[Value.ref a]/\args=[WData.list (ns.map WData.int)]/\h.get? a=some {cls:=.type "list",data:=.seq vs.toArray}/\IntsAre vs ns/\ns.length<=n:=by
 have c:WShape.hasAll [] args [.list .int]=true:=(pre_splitW f).1
 have m:l.pre.holds [] {args:=args}=true:=(pre_splitW f).2
 obtain⟨d,r,rfl,h1,h2⟩:=hasAllW_cons c
 obtain rfl:=hasAllW_nil h2
 obtain⟨xs,rfl,p⟩:=hasW_list h1
 obtain⟨ns,rfl⟩:=items_int p
 have b:ns.length<=n:=by
  unfold OpenLaw.pre at m
  have i:(WTm.not (.lt (.lit (.int (n:Int))) (.len (.arg 0)))).holds [] {args:=[.list (ns.map .int)]}=true:=by
   have i:=(holds_andW m).1
   rw[s] at i
   exact i
  have g:=condW_of i (w_not (w_lt w_lit (w_len_list (w_arg rfl))))
  rw[Jd] at g
  refine Nat.le_of_not_lt fun q=>?_
  have o:(n:Int)<((ns.length:Nat):Int):=by omega
  first
   |(rw[decide_eq_true o] at g;exact absurd g (by decide))
   |(simp at g;omega)
 cases j with
 |cons w1 w2=>
  cases w2
  cases w1 with
  |list ho hall=>exact⟨_,_,ns,rfl,rfl,ho,jP ns _ hall,b⟩
theorem wG (l:OpenLaw)(args:List WData):l.row.toRowW.claim.post args (.bool true) args=true:=
 postW_of (r:=l.row.toRowW) (X:=(true==true))
  (show WShape.has [] (.bool true) .bool=true by first|rfl|decide|simp[WShape.has,WShape.arms,WShape.armsAll])
  (show(WTm.eq .res (.lit (.bool true))).value [] {args:=args,res:=some (.bool true),after:=args}=some (.bool (true==true)) from w_eq_bool (w_res rfl) w_lit) rfl
theorem attach_call {l:OpenLaw}{z:(Str->Option Value)->Heap->Prop}{D:World->Heap->Prop}{d:DefRec}
  (N:l.most=some n) (u:d.params.defaults=[])
  (call:∀(w:World) (s₀ g:Shared) (mg v:Str->Option Value) (j:Addr) (o:Obj) (s cd h:Value) (a:Addr) (vs:List Value) (ns:List Int),
   Ground q loose [] z w s₀ mg v g.heap->D w g.heap->
   g.heap.get? j=some o->o.data=.func (docDef d.name d.params d.body d.scope s cd h)->g.heap.CodeRec cd d.name->mg d.name=some (.ref j)->
   g.heap.get? a=some {cls:=.type "list",data:=.seq vs.toArray}->IntsAre vs ns->ns.length<=n->g.gens= #[]->
   codeAny (model l.prog w) callerA (.call (.ref j) ⟨[.ref a],[]⟩) (fun r s'=>r=.ok (.ret (.bool true))/\OldK g.heap s'.heap/\s'.os=g.os/\AllBare s'.gens) g):
  WalkO q loose z D l.row.toRowW d [] (fun f vs=>PySem.call f vs):=by
 intro w s₀ g mg v G Y j o s cd h E kV F hd p A m hg C y as i B J x H
 obtain rfl:E=.none:=Dflts.none A u
 obtain rfl:kV=.none:=Dflts.noKw A
 obtain⟨a,vs,ns,rfl,rfl,c,b,e⟩:=wZ N i x
 refine enter_call (codeAny_mono (call w s₀ g mg v j o s cd h a vs ns G Y F (fd_plain hd) p m c b e hg) fun r s' K=>?_)
 obtain⟨rfl,h2,M,I⟩:=K
 exact⟨.inl ⟨.bool true,.bool true,[],rfl,fun _=>rfl,.bool true,wG l _,fun _=>⟨List.Pairwise.nil,fun _ O=>(nomatch O)⟩⟩,h2,M,I⟩
section
variable {prog:Program} {w:World} {A:Around} {E:Value->Shared->Prop} {s:Shared} {K:Frag}
def noObjs (h:Heap):Heap:={h with objs:= #[]}
theorem noObjs_get (h:Heap)(b:Addr):(noObjs h).get? b=none:=by
 cases e:(noObjs h).get? b with
 |none=>rfl
 |some o=>exact absurd (Jm e) (Nat.not_lt_zero _)
theorem fr_all{L:Addr}(n:h.Ns L m):Fr (noObjs h) L h m:=
 ⟨n,fun b o e=>(by rw[noObjs_get] at e;cases e),JA _⟩
end
end Att
namespace L2
open PySem PySem.Spec PyProof.Rows
theorem mF:∀{vs:List Value} {ns:List Int},IntsAre vs ns->aS (ns.map V.int) vs
 |_,_,.nil=> .nil
 |_,_,.cons n t h=> .cons ⟨t,rfl⟩ (mF h)
def EG (H:Hp):Prop:=∀b,H b=none\/∃o xs,H b=some (.frz o (.lst xs))
theorem Ak {P:Program}{w:World}{K:Je}{E S:Str->Option Value}{CX:Bl}{k:Nat}{O a:Addr}{fd:FuncData}{x:Str}{sp:Sp}{s₁:Shared}{vs:List Value}{ns:List Int}
  (Y:K.In s₁.heap) (D:s₁.heap.Ns mainGlobals E) (A:s₁.heap.Ns builtinsNs S) (R:∀x:Str,x≠ "__name__" ->S x=bootBuiltins x) (G:s₁.heap.NoLimit) (hg:s₁.gens= #[])
  (J:s₁.heap.get? a=some {cls:=.type "list",data:=.seq vs.toArray}) (T:IntsAre vs ns) (Z:ns.length<=sizeLine) (hr:bT k callerA)
  (F:∀base:Heap,K.In base->base.Ns mainGlobals E->eW P w K E base CX k O fd [x] sp) (B:∀(s:Shared) (u:Value),BindsTo s fd ⟨[u],[]⟩ [(x,u)])
  (Q:∀H:Hp,EG H->aH K H a (ns.map V.int)->sp [.ref a] H (fun v _=>v=.bl true) fun _ _ _=>False)
  (M:∀H e s',CX [] H s₁ (fun _ _ _=>False) e s'->False):
  codeAny (model P w) callerA (.call (.ref O) ⟨[.ref a],[]⟩) (fun r s'=>r=.ok (.ret (.bool true))/\OldK s₁.heap s'.heap/\s'.os=s₁.os/\AllBare s'.gens) s₁:=by
 have rv:=mF T
 have l:=T.length
 have g:∀H:Hp,EG H->aH K H a (ns.map V.int)->h_ P w H s₁.heap->(∀b,H b≠none->b=a)->(H a≠none->K.lookup a=none)->
   codeAny (model P w) callerA (.call (.ref O) ⟨[.ref a],[]⟩) (fun r s'=>r=.ok (.ret (.bool true))/\OldK s₁.heap s'.heap/\s'.os=s₁.os/\AllBare s'.gens) s₁:=by
  intro H W hS C X hK
  have c:∀{b:Addr} {o:Obj},s₁.heap.get? b=some o->H b=none->(pF s₁.heap H).get? b=some o:=fun e n=>Bv e n
  have y:∀{b:Addr} {o:Obj} {es:Array DictEntry} {ep:Nat},s₁.heap.get? b=some o->o.data=.dict es ep->H b=none:=fun{b o es ep} e d=>by
   cases q:H b with
   |none=>rfl
   |some u=>
    have N:b=a:=X b (by rw[q];simp)
    subst N
    rw[J] at e;cases e
    have d':Data.seq vs.toArray _=Data.dict es ep:=d
    cases d'
  have f:∀{b:Addr} {m:Str->Option Value},s₁.heap.Ns b m->(pF s₁.heap H).Ns b m:=fun{b m} ⟨o,es,ep,e,d,r⟩=>⟨o,es,ep,c e (y e d),d,r⟩
  have i:K.In (pF s₁.heap H):=fun b o e=>c (Y b o e) (by
   cases q:H b with
   |none=>rfl
   |some u=>
    have N:b=a:=X b (by rw[q];simp)
    subst N
    rw[hK (by rw[q];simp)] at e;cases e)
  have hM:Mod K E (pF s₁.heap H):=⟨i,f D,⟨S,f A,R⟩,let ⟨mc,h1,h2⟩:=G;⟨mc,f h1,h2⟩⟩
  have e0:sP P w K E (pF s₁.heap H) callerA [] s₁ H:=⟨rfl,hM,fun b o e=>DH e,Nat.le_of_eq (wQ _ _),trivial,fun b A=>absurd (show b∈([]:List Addr) from A) (by simp),C,.of_eq hg⟩
  refine codeAny_mono ((F _ i (f D)).run callerA [] s₁ H ⟨[.ref a],[]⟩ [.ref a] [.ref a] _ _ hr e0 (B s₁ (.ref a)) (.cons rfl .nil) (Q H W hS)) fun r s' h=>?_
  cases r with
  |error e=>exact(M H e s' h).elim
  |ok fl=>
   cases fl with
   |next=>exact False.elim h
   |brk=>exact False.elim h
   |cont=>exact False.elim h
   |ret u=>
    obtain⟨v,H',os,p,un,j,r',q⟩:=h
    have q':v=.bl true:=q
    subst q'
    obtain rfl:u=Value.bool true:=r'
    refine⟨rfl,OldK.of_keep fun b o e=>?_,os,p⟩
    cases q:H b with
    |none=>exact un.keep b o e q (by intro z;exact absurd (show b∈([]:List Addr) from z) (by simp)) (by simp)
    |some u=>
     rcases W b with z|⟨ob,xs,z⟩
     ·rw[q] at z;cases z
     ·have z2:=un.frzs b ob _ z
      obtain⟨U,_⟩:=C b _ z
      obtain⟨e2,_⟩:=j b _ z2
      rw[e] at U;cases U
      exact e2
 cases hk:K.lookup a with
 |some o=>
  have e:=Y a o hk
  rw[J] at e
  cases e
  refine g (fun _=>none) (fun _=> .inl rfl) (.inr ⟨_,vs.toArray,_,hk,rfl,rfl,rfl,by rw[JF,l];exact Z,by simpa using rv⟩) (fun b u z=>by have I:(none:Option HO)=some u:=z;cases I) (fun b z=>absurd rfl z) fun z=>absurd rfl z
 |none=>
  refine g (fun b=>if b=a then some (.frz {cls:=.type "list",data:=.seq vs.toArray} (.lst (ns.map V.int))) else none) (fun b=>?_) (.inl (.inr ⟨{cls:=.type "list",data:=.seq vs.toArray},if_pos rfl⟩)) (fun b u z=>?_) (fun b z=>?_) fun _=>hk
  ·by_cases A:b=a
   ·exact .inr ⟨_,_,if_pos A⟩
   ·exact .inl (if_neg A)
  ·by_cases A:b=a
   ·have I:=(if_pos A).symm.trans z
    cases I
    subst A
    exact⟨J,by rw[Jd];exact Z,vs,_,rv,J⟩
   ·have I:=(if_neg A).symm.trans z
    cases I
  ·by_cases A:b=a
   ·exact A
   ·exact absurd (if_neg A) z
theorem walk_of {l:PySem.W.OpenLaw}{E:(Str->Option Value)->Heap->Prop}{D:World->Heap->Prop}{d:DefRec}{K:Params->Je}{CX:World->Bl}{sp:World->Sp}
  (Q:l.most=some n) (A:n<=sizeLine) (B:d.params.defaults=[]) (I:bT k callerA)
  (N:∀(w:World) (h:Heap),D w h->(K w.params).In h)
  (F:∀(w:World) (mg:Str->Option Value) (p:Addr) (h:Heap),(K w.params).In h->h.Ns mainGlobals mg->mg d.name=some (.ref p)->
   ∃fd:FuncData,(∀(s:Shared) (u:Value),BindsTo s fd ⟨[u],[]⟩ [(x,u)])/\
    ∀base:Heap,(K w.params).In base->base.Ns mainGlobals mg->eW l.prog w (K w.params) mg base (CX w) k p fd [x] (sp w))
  (y:∀(w:World) (H:Hp) (a:Addr) (ns:List Int),ns.length<=n->EG H->aH (K w.params) H a (ns.map V.int)->sp w [.ref a] H (fun v _=>v=.bl true) fun _ _ _=>False)
  (z:∀(w:World) (H:Hp) (s:Shared) (e:Value) (s':Shared),CX w [] H s (fun _ _ _=>False) e s'->False):
  PySem.W.WalkO q loose E D l.row.toRowW d [] (fun f vs=>PySem.call f vs):=by
 refine Att.attach_call Q B fun w s₀ m mg Z p o X cd P a vs ns G Y U hd J r j i c hg=>?_
 have C:=N w _ Y
 obtain⟨fd,M,S⟩:=F w mg p _ C G.T.g r
 exact Ak C G.T.g G.T.b G.T.builtins G.T.nolimit hg j i (Jn c A) I S M (fun H O R=>y w H a ns c O R) fun H e s'=>z w H m e s'
noncomputable def dy (s:Stmt) (j:Nat):Stmt:=match s with
 | .ClassDef _ _ _ body _ _ _ _ _ _ _=>body.getD j (.Pass ⟨0,0,0,0⟩)
 |_=> .Pass ⟨0,0,0,0⟩
noncomputable def cH (s:Stmt):Arguments:=match s with
 | .FunctionDef _ a _ _ _ _ _ _ _ _=>a
 |_=>{posonlyargs:=[],args:=[],vararg:=none,kwonlyargs:=[],kw_defaults:=[],kwarg:=none,defaults:=[]}
noncomputable def bV (s:Stmt):List Stmt:=match s with
 | .FunctionDef _ _ b _ _ _ _ _ _ _=>b
 |_=>[]
noncomputable def aP (s:Stmt):Scope:=match s with
 | .FunctionDef _ _ _ _ _ _ sc _ _ _=>sc
 |_=>{kind:=.function,names:=[],isGenerator:=false,isCoroutine:=false}
abbrev mq:Bl:=fun _ _ _ _ _ _=>False
abbrev E0:XK:=fun _ _ _=>False
theorem kZ:iA mq X E0:=fun _ _ _ _ _ _ _ h=>h.elim
structure DU (K:Je) (x qual:Str) (st:Stmt) (f:Addr) (fd:FuncData):Prop where
 ex:∃(oc:Value) (od:Option Addr) (kV doc pm:Value) (an:Option Addr) (cdv ct:Value) (osl:Array (Option Value)),
  fd=JQ x qual (cH st) (bV st) (aP st) .none kV doc pm an cdv ct/\K.lookup f=some ⟨oc,od,.func fd,osl⟩/\Kg K cdv qual=true
 kp:JW K (.ref f)=true
section
variable {P:Program} {w:World} {K:Je} {mg:Str->Option Value} {base:Heap}
theorem DU.ok{st:Stmt}(F:DU K x qual st f fd)(S:eZ N ps (aP st))(len:∀vs H Q E,sp vs H Q E->vs.length=ps.length)
  (e:∀(d:Value) (A:Around) (outer:List Env) (s:Shared) (H:Hp) (vs:List V) (Q:VK) (E:XK),bT k (A.deeper (envOfC qual (aP st) s.heap.objs.size f d))->sp vs H Q E->
   ∃t,mh (bE mq P w K mg base N qual (aP st) f d A outer s H E).nox (bV st) t/\t {nx:=fun _ H'=>Q .non H',rt:=Q} (gQ N vs) H):eW P w K mg base mq (k+1) f fd ps sp:=by
 obtain⟨j,o,kV,c,n,l,d,m,b,rfl,i,a⟩:=F.ex
 refine Eh i a S len fun A outer s H vs Q E hr g=>?_
 obtain⟨t,h,q⟩:=e d A outer s H vs Q E hr g
 exact⟨t,h.nox,q⟩
theorem DU.binds{st:Stmt}(F:DU K x qual st f fd)
  (h:∀(kV c g:Value) (e:Option Addr) (d i:Value) (us:List Value),us.length=ps.length->bindArgs (JQ x qual (cH st) (bV st) (aP st) .none kV c g e d i) ⟨us,[]⟩=pure (ps.zip us)):dn K fd ps []:=by
 obtain⟨j,m,kV,c,g,e,d,i,b,rfl,l,a⟩:=F.ex
 exact .all (h kV c g e d i)
theorem sQ{st:Stmt}{a:Array (Option Value)}{kV:Value}(l:K.lookup f=some ⟨oc,od,.func (JQ x qual (cH st) (bV st) (aP st) .none kV doc pm an cdv ct),a⟩)
  (c:Kg K cdv qual=true) (k:JW K (.ref f)=true):DU K x qual st f (JQ x qual (cH st) (bV st) (aP st) .none kV doc pm an cdv ct):=⟨⟨oc,od,kV,doc,pm,an,cdv,ct,a,rfl,l,c⟩,k⟩
end
theorem eL(h:n<=1000):n<sizeLine:=Ll h (by decide)
section
variable {X:Cx}
end
theorem gM {A B:Prop}(h:B):if false=true then A else B:=by
 rw[if_neg Ju]
 exact h
theorem zk {A B:Prop}(h:A):if true=true then A else B:=by
 rw[if_pos rfl]
 exact h
def ah (H a:Hp):Prop:=∀b o,H b=some o->a b=some o
theorem ah.refl (H:Hp):ah H H:=fun _ _ h=>h
theorem ah.trans(a:ah H H1)(b:ah H1 H2):ah H H2:=fun c o h=>b c o (a c o h)
theorem ah.free(e:ah H H'){l:Addr}(h:H' l=Option.none):H l=Option.none:=by
 cases q:H l with
 |none=>rfl
 |some o=>
  rw[e l o q] at h
  cases h
theorem ah.seq {K:Je}{H b:Hp}{a:Addr}{xs:List V}(e:ah H b)(h:aH K H a xs):aH K b a xs:=by
 rcases h with (h|⟨o,h⟩)|h
 ·exact .inl (.inl (e _ _ h))
 ·exact .inl (.inr ⟨o,e _ _ h⟩)
 ·exact .inr h
section
variable {κ:Type} [DecidableEq κ]
end
section
variable {X:Cx}
def Bx (_ j:Int):Prop:=0<j/\j<2^200
theorem HN(h:Bx i j):Builtin.divisionGoesByPylong i j=false:=by
 refine PyProof.noPylong_of_log2 ?_
 obtain⟨h1,h2⟩:=h
 have a:j.natAbs≠0:=by omega
 have b:j.natAbs<2^200:=by omega
 have:=(Nat.log2_lt a).mpr b
 omega
theorem bG:gN X (binaryOp .FloorDiv) (rI Bx fun i j=> .int (i/j)):=HG fun i j _ _ _ _ _ a q=>by
 have h1:(0:Int)<j:=a.1
 exact floordiv_int (by lia) (by rw[Int.fdiv_eq_ediv_of_nonneg i (by lia)];exact q) (.inl (HN a))
inductive we:V->Value->Prop where
 |ty (n:String):we (.ty n) (.type n)
 |ref (C:Addr):we (.ref C) (.ref C)
theorem bH:cI X (.builtin "isinstance") (fun xs H Q=>∃x y c t b,xs=[x,y]/\we y c/\gi X.K H x t/\JN X.K t c=some b/\Q (.bl b) H):=by
 intro pins s σ H xs us Q I r h
 obtain⟨x,y,c,t,b,rfl,g,ty,e,q⟩:=h
 obtain⟨u,f,rfl,d,a⟩:=lC r
 cases g with
 |ty n=>
  cases(show f=Value.type n from a)
  exact nh I d ty e fun tk=>⟨.bl b,H,I.tok _,rfl,q⟩
 |ref C=>
  cases(show f=Value.ref C from a)
  exact nh I d ty e fun tk=>⟨.bl b,H,I.tok _,rfl,q⟩
end
theorem q0{it:Value}(I:Nat->Shared->Prop)(E:Value->Shared->Prop)
  (p:∀e s',E e s'->notedBy (model prog w) A env (fun e s'=>R (.error e) s') e s')
  (y:∀n s,I n s->wpAny (model prog w) A (pyNext it) (fun r b=>match r with
   |none=>R (.ok .next) b
   |some v=>wpAny (model prog w) A (letOwnedTupleGo target it v) (fun _ a=>wpAny (model prog w) A (assign target env v) (fun _ l=>
     wpAny (model prog w) A (forIn ifs true fun c r=>if r=true then do let ok<-isTrue c env (eval c env);pure (ForInStep.yield ok) else pure (ForInStep.yield r)) (fun ok d=>
      if ok=true then wpAny (model prog w) A (eval elt env) (fun x g=>
       wpAny (model prog w) A (call (.builtin "list.append") [acc,x]) (fun _ f=>∃m,m<n/\I m f) E g) E d
      else∃m,m<n/\I m d) E l) E a) E b) E s)
  (n:Nat) (h:I n s):codeAny (model prog w) A (.compLoop (.ListComp elt [⟨target,iter,ifs,0⟩] scope pos) 0 it acc env) R s:=by
 refine codeAny_loop rfl I (fun n s B=>?_) n h
 show wpAny _ A ((compTurn (.ListComp elt [⟨target,iter,ifs,0⟩] scope pos) 0 it acc env).onRaise (fun x=>do noteFrame x env;theTreesLotGoes x)) _ _ s
 refine wpAny_noted ?_
 rw[compTurn_list]
 refine Jc (wpAny_standAt (Jc (JU (y n s B) (fun r b i=>?_) p)))
 cases r with
 |none=>exact Jf i
 |some v=>
  refine Jc (JU i (fun _ a o=>?_) p)
  refine Jc (JU o (fun _ l q=>Jc (JU q (fun ok d j=>?_) p)) p)
  cases ok with
  |false=>exact Jf ⟨rfl,j⟩
  |true=>
   exact Jc (Jc (JU j (fun x g z=>Jc (JU z (fun _ f u=>Jf (Jf ⟨rfl,u⟩)) p)) p))
theorem gO:∀(f:List (Str×NameKind)) (b:List (Str×Addr)),(∀y∈f,y.2=.free->∃c,env.cells.lookup y.1=some c)->(∀x c,b.lookup x=some c->env.cells.lookup x=some c)->
  ∃cl,(forIn f b (fun(x:Str×NameKind) (r:List (Str×Addr))=>(if (x.2==NameKind.free)=true then (do let a<-cellOf env x.1;pure (ForInStep.yield ((x.1,a)::r))) else pure (ForInStep.yield r):Sem (ForInStep (List (Str×Addr))))))=(pure cl:Sem (List (Str×Addr)))/\
   (∀x c,cl.lookup x=some c->env.cells.lookup x=some c)/\(∀x c,b.lookup x=some c->∃s,cl.lookup x=some s)/\∀y∈f,y.2=.free->∃c,cl.lookup y.1=some c
 |[],b,_,ha=>⟨b,rfl,ha,fun x c e=>⟨c,e⟩,fun _ h=>nomatch h⟩
 |(n,k)::r,b,hf,ha=>by
  have j:∀y∈r,y.2=.free->∃c,env.cells.lookup y.1=some c:=fun y hy=>hf y (Jq _ hy)
  by_cases hk:k=.free
  ·subst hk
   obtain⟨c,q⟩:=hf (n,.free) Jp rfl
   have l:env.cells.lookup n=some c:=q
   have o:∀x d,((n,c)::b).lookup x=some d->env.cells.lookup x=some d:=fun x d e=>by
    rw[JX] at e
    cases hx:x==n with
    |true=>rw[hx] at e;cases e;rw[beq_iff_eq.mp hx];exact l
    |false=>rw[hx] at e;exact ha x d e
   obtain⟨cl,e,h1,h2,m⟩:=gO r ((n,c)::b) j o
   have g:((n,c)::b).lookup n=some c:=by rw[JX,beq_self_eq_true]
   refine⟨cl,?_,h1,fun x d ex=>?_,fun y hy i=>?_⟩
   ·rw[List.forIn_cons]
    have p:cellOf env n=pure c:=by unfold cellOf;rw[l]
    show((if (NameKind.free==NameKind.free)=true then (do let a<-cellOf env n;pure (ForInStep.yield ((n,a)::b))) else pure (ForInStep.yield b):Sem _)>>=_)=_
    rw[if_pos (by decide),p]
    exact e
   ·cases hx:x==n with
    |true=>rw[beq_iff_eq.mp hx];exact h2 n c g
    |false=>exact h2 x d (by rw[JX,hx];exact ex)
   ·rcases Jo.mp hy with rfl|hy
    ·exact h2 n c g
    ·exact m y hy i
  ·obtain⟨cl,e,h1,h2,m⟩:=gO r b j ha
   refine⟨cl,?_,h1,h2,fun y hy i=>?_⟩
   ·rw[List.forIn_cons]
    show((if (k==NameKind.free)=true then (do let a<-cellOf env n;pure (ForInStep.yield ((n,a)::b))) else pure (ForInStep.yield b):Sem _)>>=_)=_
    rw[if_neg (by simpa using hk)]
    exact e
   ·rcases Jo.mp hy with rfl|hy
    ·exact absurd i hk
    ·exact m y hy i
theorem lM(h:∀y∈scope.names,y.2=.free->∃c,env.cells.lookup y.1=some c):
  ∃cl,closureFor scope env=pure cl/\(∀x c,cl.lookup x=some c->env.cells.lookup x=some c)/\∀y∈scope.names,y.2=.free->∃c,cl.lookup y.1=some c:=by
 obtain⟨cl,e,h1,_,d⟩:=gO (env:=env) scope.names [] h (fun x c e=>nomatch e)
 refine⟨cl,?_,h1,d⟩
 have b:closureFor scope env=((forIn scope.names [] (fun(x:Str×NameKind) (r:List (Str×Addr))=>(if (x.2==NameKind.free)=true then (do let a<-cellOf env x.1;pure (ForInStep.yield ((x.1,a)::r))) else pure (ForInStep.yield r):Sem (ForInStep (List (Str×Addr))))))>>=fun r=>pure r):=rfl
 rw[b,e]
 rfl
theorem jb {env:Env}(c:env.scope.kind=.function):∀{a:List (Str×NameKind)} {x:Str},a.lookup x=some .free->env.kindOf x=some .cell->
  (a.map fun(n,k)=>if (k==NameKind.free&&env.scope.kind==.function&&env.kindOf n==some .cell) then (n,NameKind.cell) else (n,k)).lookup x=some .cell
 |[],_,h,_=>by simp at h
 |(n,k)::r,x,h,hc=>by
  have b:= @jb env c r x
  show KB x ((if (k==NameKind.free&&env.scope.kind==.function&&env.kindOf n==some .cell)=true then (n,NameKind.cell) else (n,k))::_)=_
  cases hx:x==n with
  |true=>
   simp only[JX,hx] at h
   cases h
   have e:x=n:=beq_iff_eq.mp hx
   subst e
   rw[if_pos (by rw[c,hc];decide)]
   simp only[JX,hx]
  |false=>
   simp only[JX,hx] at h
   by_cases hq:(k==NameKind.free&&env.scope.kind==.function&&env.kindOf n==some .cell)=true
   ·rw[if_pos hq];simp only[JX,hx];exact b h hc
   ·rw[if_neg hq];simp only[JX,hx];exact b h hc
theorem iY {env:Env}:∀{a:List (Str×NameKind)} {x:Str} {k:NameKind},
  (a.map fun(n,k)=>if (k==NameKind.free&&env.scope.kind==.function&&env.kindOf n==some .cell) then (n,NameKind.cell) else (n,k)).lookup x=some k->∃k0,a.lookup x=some k0/\(k=k0\/k0=.free)
 |[],_,_,h=>by simp at h
 |(n,k1)::r,x,k,h=>by
  have h:KB x ((if (k1==NameKind.free&&env.scope.kind==.function&&env.kindOf n==some .cell)=true then (n,NameKind.cell) else (n,k1))::(r.map fun(n,k)=>if (k==NameKind.free&&env.scope.kind==.function&&env.kindOf n==some .cell) then (n,NameKind.cell) else (n,k)))=some k:=h
  cases hx:x==n with
  |true=>
   by_cases hq:(k1==NameKind.free&&env.scope.kind==.function&&env.kindOf n==some .cell)=true
   ·have:k1=.free:=by
     rw[Ki,Ki] at hq
     simpa using hq.1.1
    exact⟨k1,by simp only[JX,hx],.inr this⟩
   ·rw[if_neg hq] at h
    simp only[JX,hx] at h
    exact⟨k1,by simp only[JX,hx],.inl (Option.some.inj h).symm⟩
  |false=>
   have h':(r.map fun(n,k)=>if (k==NameKind.free&&env.scope.kind==.function&&env.kindOf n==some .cell) then (n,NameKind.cell) else (n,k)).lookup x=some k:=by
    by_cases hq:(k1==NameKind.free&&env.scope.kind==.function&&env.kindOf n==some .cell)=true
    ·rw[if_pos hq] at h;simp only[JX,hx] at h;exact h
    ·rw[if_neg hq] at h;simp only[JX,hx] at h;exact h
   obtain⟨k0,e,z⟩:=iY h'
   exact⟨k0,by simp only[JX,hx];exact e,z⟩
noncomputable def cw (X:Cx) (N:List Str) (scope:Scope) (cl:List (Str×Addr)) (C:Addr) (s:Shared) (H:Hp) (fp:List Addr):Cx:=
 {X with N:=N,s₀:=s,H₀:=H,env:=compEnvC scope cl C X.env,outer:=X.stack,ex:=fp,fn:=fun _=>false,pn:=[],xe:=fun _ _=>False}
structure eI (X:Cx) (scope:Scope) (ls ys:List Str) (ix:List Nat):Prop where
 kind:scope.kind=.function
 nocellB:(scope.names.all fun y=>y.2 !=.cell)=true
 locB:(scope.names.all fun y=>y.2 !=.local||scope.names.lookup y.1==some .local)=true
 freeB:(scope.names.all fun y=>y.2 !=.free||X.env.kindOf y.1==some .cell)=true
 ylkB:(ys.all fun y=>scope.names.lookup y==some .free)=true
 yix:ix.map (fun j=>X.N[j]?)=ys.map some
section
variable {X:Cx} {scope:Scope} {ls ys:List Str} {ix:List Nat}
theorem eI.nocell (ok:eI X scope ls ys ix):∀y∈scope.names,y.2≠.cell:=fun y a=>by
 simpa using La.mp ok.nocellB y a
theorem eI.loc (ok:eI X scope ls ys ix):∀y∈scope.names,y.2=.local->scope.names.lookup y.1=some .local:=fun y a e=>by
 have h:=La.mp ok.locB y a
 rw[e] at h
 simpa using h
theorem eI.free (ok:eI X scope ls ys ix):∀y∈scope.names,y.2=.free->X.env.kindOf y.1=some .cell:=fun y a e=>by
 have h:=La.mp ok.freeB y a
 rw[e] at h
 simpa using h
theorem eI.ylk (ok:eI X scope ls ys ix):∀y∈ys,scope.names.lookup y=some .free:=fun y a=>by
 simpa using La.mp ok.ylkB y a
end
noncomputable def xC (n:Nat) (b:List Nat) (a:St):St:=List.replicate n none++b.map fun j=>(a[j]?).join
section
variable {X:Cx} {pins:List (Addr×Obj)} {σ:St} {H:Hp} {s:Shared} {scope:Scope} {ls ys:List Str} {ix:List Nat} {cl:List (Str×Addr)} {fp:List Addr}
theorem Dm(I:aI X pins σ H s)(ok:eI X scope ls ys ix)(A:∀x c,cl.lookup x=some c->X.env.cells.lookup x=some c)
  (B:∀y∈scope.names,y.2=.free->∃c,cl.lookup y.1=some c) (E:∀b∈fp,js X pins H b) (J:∀b∈fp,b<s.heap.objs.size)
  (M:h₁.Ns s.heap.objs.size m) (F:∀b o,s.heap.get? b=some o->h₁.get? b=some o):
  aI (cw X (ls++ys) scope cl s.heap.objs.size s H fp) [] (xC ls.length ix σ) H {s with heap:=h₁,toks:=tk}:=by
 have a:∀x,scope.names.lookup x=some .free->X.env.kindOf x=some .cell:=fun x e=>ok.free (x,.free) (PySem.mem_of_lookup e) rfl
 refine⟨⟨I.ok.mod,ok.kind,I.ok.glob,I.ok.blt,Jg _,fun x y c h1 h2=>I.ok.inj x y c (A x c h1) (A y c h2),fun x hx=>?_,fun x c hx _=>absurd hx Ju,I.ok.hd,I.ok.frames,.inl rfl,
  fun b C=>⟨Jw (J b C),fun x c e=>(E b C).2.2.2.2.1 x c (A x c e)⟩,I.bs,Jn I.ok.bsz I.sz,fun b o e C=>?_,fun b C z=>?_,I.stack,I.stkFree⟩,
  rfl,I.bare,Un.kept F,⟨m,M,fun i x v h1 h2 Z=>?_⟩,fun x c e=>?_,I.fresh,fun x c e=>I.freeC x c (A x c e),fun p T=>absurd (show p∈([]:List (Addr×Obj)) from T) (by simp),I.hok.kept F,?_⟩
 ·have e:∃k,(relabel scope X.env).names.lookup x=some k/\(k=.cell\/k=.free):=by
   rcases hx with hx|hx
   ·exact⟨_,hx,.inl rfl⟩
   ·exact⟨_,hx,.inr rfl⟩
  obtain⟨k,e,n⟩:=e
  obtain⟨k0,R,z⟩:=iY e
  have P:=PySem.mem_of_lookup R
  have g:k0=.free:=by
   rcases z with z|z
   ·rcases n with q|q
    ·exact absurd (z.symm.trans q) (ok.nocell _ P)
    ·exact z.symm.trans q
   ·exact z
  exact B _ P g
 ·obtain⟨U,W,Y,q4,_⟩:=E b C
  rcases q4 with q4|q4
  ·exact I.ok.noex b o e q4
  ·exact absurd (JO (Jm e) (Jn I.ok.bsz q4)) (Km _)
 ·rcases Jo.mp (I.stkSub b z) with q|q
  ·exact(E b C).2.1 q
  ·exact(E b C).2.2.1 q
 ·have h1:(ls++ys)[i]?=some x:=h1
  have h2:(List.replicate ls.length none++ix.map fun j=>(σ[j]?).join)[i]?=some (some v):=h2
  by_cases hi:i<ls.length
  ·rw[K8 (by rw[Ks];exact hi),List.getElem?_replicate,if_pos hi] at h2
   cases h2
  ·rw[Kq (by rw[Ks];omega),Ks,JG] at h2
   rw[Kq (by omega)] at h1
   cases e:ix[i - ls.length]? with
   |none=>rw[e] at h2;cases h2
   |some j=>
    rw[e] at h2
    have h2:(σ[j]?).join=some v:=Option.some.inj h2
    have K:σ[j]?=some (some v):=by
     cases q:σ[j]? with
     |none=>rw[q] at h2;cases h2
     |some z=>rw[q] at h2;exact congrArg some h2
    have S:X.N[j]?=some x:=by
     have q:=congrArg (fun l=>l[i - ls.length]?) ok.yix
     simp only[JG,e,h1,Li] at q
     exact Option.some.inj q
    have O:=ok.ylk x (Jy h1)
    have G:=a x O
    obtain⟨m',w,h⟩:=I.loc
    obtain⟨u,r,D⟩:=h j x v S K (.inr (.inl G))
    refine⟨u,r,?_⟩
    rcases D with ⟨D,_⟩|⟨_,c,Q,z⟩
    ·rw[G] at D;cases D
    ·obtain⟨c',f⟩:=B _ (PySem.mem_of_lookup O) rfl
     have d:X.env.cells.lookup x=some c':=A x c' f
     rw[Q] at d
     cases d
     exact .inr ⟨.inl (jb I.ok.kind O G),c,f,z.keeps F⟩
 ·obtain⟨v,z⟩:=I.cell x c (A x c e)
  exact⟨v,z.keeps F⟩
 ·show(List.replicate ls.length none++ix.map fun j=>(σ[j]?).join).length=(ls++ys).length
  have q:=congrArg List.length ok.yix
  rw[Jd,Jd] at q
  rw[Js,Js,Ks,Jd,q]
end
def PF (X:Cx) (a:List Expr) (t:TT):Prop:=
 ∀(pins:List (Addr×Obj)) (s:Shared) (σ:St) (H:Hp) (Q:Bool->Hp->Prop),aI X pins σ H s->t σ H Q->
  wpAny (model X.prog X.w) X.A (forIn a true fun c r=>if r=true then do let ok<-isTrue c X.env (eval c X.env);pure (ForInStep.yield ok) else pure (ForInStep.yield r)) (TP X pins σ Q) X.xe s
def rV:TT:=fun _ H Q=>Q true H
theorem cg:PF X [] rV:=fun _ _ _ H _ I h=>wpAny_tests_nil ⟨H,I,h⟩
theorem jy(h:PT X c t):PF X [c] t:=fun pins s σ H Q I a=>wpAny_tests_one (h pins s σ H Q I a)
def sI (e:St) (g:TG) (j:TT) (n:TE) (J:It) (l:Hp) (D:Addr) (Q:Hp->Prop):Prop:=
 ∃W:Nat->Nat->St->Hp->Prop,(∃m,W 0 m e (upd l D (.lst [])))/\∀i m h H,W i m h H->
  (J.stop i H/\Q H)\/(J.go i H/\∃N:St->Hp->Prop,(∀d H',N d H'->∃f,f<m/\W (i+1) f d H')/\∀x H',J.yld i H x H'->g x h H' fun a H2=>j a H2 fun b H3=>
   if b=true then n a H3 fun v H4=>∃c,H4 D=some (.lst c)/\c.length<sizeLine/\N a (upd H4 D (.lst (c++[v]))) else N a H3)
def HF (c:TI) (n:Nat) (b:List Nat) (g:TG) (a:TT) (d:TE):TE:=fun σ H Q=>c σ H fun J H1=>∀D,H1 D=none->sI (xC n b σ) g a d J H1 D fun H'=>Q (.ref D) H'
def sS (c:TI) (n:Nat) (b:List Nat) (g:TG) (a:TT) (d:TE) (i:Nat):TS:=fun D σ H=>HF c n b g a d σ H fun x H1=>D.nx (σ.set i (some x)) H1
section
variable {X:Cx} {scope:Scope} {ls ys:List Str} {ix:List Nat} {tg iter elt:Expr} {ifs:List Expr} {pos:Pos} {wi:TI} {g:TG} {tt:TT} {te:TE}
theorem qS {ab:List (Addr×Obj)}{it:Addr}{tn:Nat->Heap->Prop}{cl:List (Str×Addr)}{Q:Addr->Hp->Prop}{R:Value->Addr->Result->Shared->Prop}(hc:X.calm=true)
  (ok:eI X scope ls ys ix) (I:aI X ab σ H1 s) (T:kP X.prog X.w X.K tg J fp it tn) (st:tn 0 s.heap) (f2:∀b∈fp,js X ab H1 b)
  (an:∀x c,cl.lookup x=some c->X.env.cells.lookup x=some c) (a4:∀y∈scope.names,y.2=.free->∃c,cl.lookup y.1=some c)
  (hg:∀cl C s H fp,PG (cw X (ls++ys) scope cl C s H fp) tg g) (ht:∀cl C s H fp,PF (cw X (ls++ys) scope cl C s H fp) ifs tt) (he:∀cl C s H fp,PE (cw X (ls++ys) scope cl C s H fp) elt te)
  (hJ:∀D,H1 D=none->sI (xC ls.length ix σ) g tt te J H1 D (Q D))
  (hR:∀D C H' s',Q D H'->aI X ab σ H' s'->H' C=none->js X ab H' C->(∃m,s'.heap.Ns C m)->R (.ref D) C (.ok .next) s'):
  wpAny (model X.prog X.w) X.A (newList []) (fun am a5=>wpAny (model X.prog X.w) X.A (newFunctionEnv scope X.env.globals cl [] X.env.qual none .none (some X.env)) (fun ap a2=>
   codeAny (model X.prog X.w) X.A (.compStart (.ListComp elt [⟨tg,iter,ifs,0⟩] scope pos) 0 (.ref it) am {ap with scope:=relabel scope X.env}) (R am ap.locals) a2) E a5) E s:=by
 have z:∀b∈fp,b<s.heap.objs.size:=fun b Y=>by
  obtain⟨o,e,_⟩:=T.obj _ _ st b Y
  exact Jm e
 have I3:=I.lnew (ys:=[]) (its:=[]) (t':=s.toks) .nil (JA _)
 have hD:H1 s.heap.objs.size=none:=I.fresh
 obtain⟨W,⟨m0,w0⟩,M⟩:=hJ s.heap.objs.size hD
 refine Kt (wpAny_newFunctionEnv ok.nocell (by intro y hy;simp at hy) (fun h₁ j q=>?_) ok.kind)
 generalize a1:({s with heap:=s.heap.push {cls:=.type "list",data:=.seq ([]:List Value).toArray},toks:=s.toks}:Shared)=s3 at I3
 have e3:s.heap.push {cls:=.type "list",dict:=none,data:=.seq ([]:List Value).toArray}=s3.heap:=by rw[<-a1]
 have U:({s with heap:=s.heap.push {cls:=.type "list",dict:=none,data:=.seq ([]:List Value).toArray}}:Shared)=s3:=by rw[<-a1]
 generalize bc:upd H1 s.heap.objs.size (.lst [])=H3 at I3 w0
 have A:s3.heap.objs.size=s.heap.objs.size+1:=by rw[<-e3,J6]
 have G:∀b o,s.heap.get? b=some o->s3.heap.get? b=some o:=fun b o e=>by rw[<-e3];exact Jj _ e
 have f3:∀b∈fp,js X ab H3 b:=fun b Y=>by
  refine⟨?_,(f2 b Y).2⟩
  rw[<-bc,ak (Jw (z b Y))]
  exact(f2 b Y).1
 have j:h₁.Ns s3.heap.objs.size (fun x=>([]:List (Str×Value)).reverse.lookup x):=by rw[<-e3];exact j
 have q:Heap.SameBut s3.heap.objs.size (s3.heap.push {cls:=.type (if (some X.env).isSome then "dict" else "frame"),data:=.dict #[]}) h₁:=by rw[<-e3];exact q
 have l:∀b o,s3.heap.get? b=some o->h₁.get? b=some o:=fun b o e=>q.extBut b o (Jw (Jm e)) (Jj _ e)
 have Ic:=Dm (tk:=s3.toks) I3 ok an a4 f3 (fun b Y=>by rw[A];exact LA (z b Y)) j l
 have a:∀{H':Hp} {pl:List (Addr×Obj)},(∀b∈fp,H' b=none)->pl=[]->∀b∈fp,js (cw X (ls++ys) scope cl s3.heap.objs.size s3 H3 fp) pl H' b:=fun{H' pl} hn bl b Y=>by
  subst bl
  refine⟨hn b Y,Jw (by rw[show(cw X (ls++ys) scope cl s3.heap.objs.size s3 H3 fp).env.locals=s3.heap.objs.size from rfl,A];exact LA (z b Y)),Ic.ok.exfs b Y,.inl Y,fun x c e=>(f3 b Y).2.2.2.2.1 x c (an x c e),fun p hp=>absurd (show p∈([]:List (Addr×Obj)) from hp) (by simp)⟩
 have f:codeAny (model X.prog X.w) X.A (.compLoop (.ListComp elt [⟨tg,iter,ifs,0⟩] scope pos) 0 (.ref it) (.ref s.heap.objs.size) (compEnvC scope cl s3.heap.objs.size X.env)) (R (.ref s.heap.objs.size) s3.heap.objs.size) {s3 with heap:=h₁,toks:=s3.toks}:=by
  refine q0 (fun n s'=>∃i τ H',aI (cw X (ls++ys) scope cl s3.heap.objs.size s3 H3 fp) [] τ H' s'/\tn i s'.heap/\(∀b∈fp,H' b=none)/\W i n τ H') (fun _ _=>False) (fun _ _ h=>h.elim) ?_ m0
   ⟨0,xC ls.length ix σ,H3,Ic,T.keep _ _ _ st (fun b _ o e=>l b o (G b o e)),fun b Y=>(f3 b Y).1,w0⟩
  rintro n s4 ⟨i,τ,H4,I4,K,B,w4⟩
  rcases M i n τ H4 w4 with ⟨a6,qn⟩|⟨go,N,hN,step⟩
  ·refine bZ (T.done (cw X (ls++ys) scope cl s3.heap.objs.size s3 H3 fp) rfl rfl rfl hc i [] s4 τ H4 (fun _ _=>False) I4 (a B rfl) K a6) fun r s5 ⟨hr,I5⟩=>?_
   subst hr
   have Io:aI X ab σ H4 s5:=I3.call' (ch:=fp) I5.os I5.base I5.hok I5.bare fun b Y=>⟨(f3 b Y).2.2.2.1,(f3 b Y).2.1,(f3 b Y).2.2.2.2.1,(f3 b Y).2.2.2.2.2⟩
   obtain⟨m5,n5,_⟩:=I5.loc
   have hC:H4 s3.heap.objs.size=none:=I5.free
   exact hR _ _ H4 s5 qn Io hC (I3.fpOk (Jg _) hC) ⟨m5,n5⟩
  ·refine bZ (T.item (cw X (ls++ys) scope cl s3.heap.objs.size s3 H3 fp) rfl rfl rfl hc i [] s4 τ H4 (fun _ _=>False) I4 (a B rfl) K go) fun r s5 ⟨u,hr,h5⟩=>?_
   subst hr
   refine bZ h5 fun _ s6 z9=>?_
   obtain⟨x,H6,I6,r6,y6,w,S⟩:=z9
   have be:=I6.pinned (a S rfl) (T.obj _ _ w)
   have F:∀{Z:St} {H7:Hp} {s7:Shared},aI (cw X (ls++ys) scope cl s3.heap.objs.size s3 H3 fp) ([]++lR fp s6.heap) Z H7 s7->N Z H7->∃m,m<n/\∃i τ H',aI (cw X (ls++ys) scope cl s3.heap.objs.size s3 H3 fp) [] τ H' s7/\tn i s7.heap/\(∀b∈fp,H' b=none)/\W i m τ H':=fun{Z H7 s7} I7 n7=>by
    obtain⟨m',hm,w7⟩:=hN Z H7 n7
    refine⟨m',hm,i+1,Z,H7,I7.unpinned,T.keep _ _ _ w fun b Y o e=>(I7.pin (b,o) (J_ _ (J_ _ (gJ Y e)))).1,fun b Y=>?_,w7⟩
    obtain⟨o,e,d⟩:=T.obj _ _ w b Y
    exact(I7.pin (b,o) (J_ _ (J_ _ (gJ Y e)))).2.1
   refine bZ (hg _ _ _ _ _ _ s6 τ H6 x u _ be r6 (step x H6 y6)) fun _ s7 ⟨Z,H7,I7,q7⟩=>?_
   refine bZ (ht _ _ _ _ _ _ s7 Z H7 _ I7 q7) fun b s8 ⟨H8,I8,q8⟩=>?_
   cases b with
   |false=>
    rw[if_neg Ju] at q8|-
    exact F I8 q8
   |true=>
    rw[if_pos rfl] at q8|-
    refine bZ (he _ _ _ _ _ _ s8 Z H8 _ I8 q8) fun y s9 z9=>?_
    obtain⟨v,H9,I9,r9,am,O,P,n9⟩:=z9
    exact bZ (bP _ s9 Z H9 (.ref s.heap.objs.size) [v] (.ref s.heap.objs.size) [y] (fun _ H'=>N Z H') I9 rfl (.cons r9 .nil) ⟨_,am,v,rfl,rfl,O,P,n9⟩) fun _ c0 ⟨_,H10,I10,_,bi⟩=>F I10 bi
 exact codeAny_compStart_list f (T.self _ 0 _ _ _ (T.keep _ _ _ st (fun b _ o e=>l b o (G b o e))) f)
theorem Gk (r:X.calm=true)(ok:eI X scope ls ys ix)(n:PI X tg iter wi)
  (z:∀cl C s H fp,PG (cw X (ls++ys) scope cl C s H fp) tg g) (B:∀cl C s H fp,PF (cw X (ls++ys) scope cl C s H fp) ifs tt) (E:∀cl C s H fp,PE (cw X (ls++ys) scope cl C s H fp) elt te)
  (K:∀x,foldedSetIterable iter X.env x=pure x:=by intro _;rfl):PE X (.ListComp elt [⟨tg,iter,ifs,0⟩] scope pos) (HF wi ls.length ix g tt te):=by
 intro pins s σ H Q I h
 obtain⟨cl,a,c,d⟩:=lM (scope:=scope) (env:=X.env) fun y P F=>I.ok.has y.1 (.inl (ok.free y P F))
 rw[eval_ListComp]
 refine wpAny_comprehension_free (use:=none) rfl K a ok.kind ok.loc (bZ (n pins s σ H _ I h) fun v U h1=>bZ h1 fun G W h2=>?_)
 obtain⟨it,fp,tn,J,H2,rfl,I2,T,f,p,S⟩:=h2
 refine qS (R:=fun j C=>compPost (model X.prog X.w) X.A X.xe none (EP X pins σ Q) j C) r ok I2 T f p c d z B E S fun D C H' s' q I' O i M=>?_
 obtain⟨m,N⟩:=M
 refine⟨m,N,fun h' l=>⟨.ref D,H',?_,rfl,q⟩⟩
 exact I'.turned (t':=s'.toks) (fun b o u e=>(l.2 b u).trans e) O i.2.1 i.2.2.2.1 i.2.2.2.2.1 i.2.2.2.2.2
theorem yR(O:X.calm=true)(Z:X.N.Nodup)(z:X.N[i]?=some x)(hx:Ge X.env.scope x)(ok:eI X scope ls ys ix)(K:PI X tg iter wi)
  (S:∀cl C s H fp,PG (cw X (ls++ys) scope cl C s H fp) tg g) (U:∀cl C s H fp,PF (cw X (ls++ys) scope cl C s H fp) ifs tt) (Y:∀cl C s H fp,PE (cw X (ls++ys) scope cl C s H fp) elt te)
  (hs:∀x,foldedSetIterable iter X.env x=pure x:=by intro _;rfl) (u:swapsWith (.ListComp elt [⟨tg,iter,ifs,0⟩] scope pos) (some (.Name x px)) spos.line X.env=pure true:=by rfl)
  (B:X.fn x=true\/X.env.scope.names.lookup x=some .local):
  PS X (.Assign [.Name x px] (.ListComp elt [⟨tg,iter,ifs,0⟩] scope pos) spos) (sS wi ls.length ix g tt te i):=by
 intro pins s σ H D I h
 obtain⟨cl,c,d,f⟩:=lM (scope:=scope) (env:=X.env) fun y hy B=>I.ok.has y.1 (.inl (ok.free y hy B))
 rw[exec_Assign_Name_used _ _ _ _ u]
 refine Jc (wpAny_standAt (Jc ?_))
 show wpAny _ X.A (do let _<-comprehension (.ListComp elt [⟨tg,iter,ifs,0⟩] scope pos) scope X.env _ (newList []) false (eval iter X.env) (some (assign (.Name x px) X.env))) _ _ s
 refine Jc (JU (wpAny_comprehension_free (use:=some (assign (.Name x px) X.env)) (Q:=fun _ s'=>∃n H',aI X pins n H' s'/\D.nx n H') rfl hs c ok.kind ok.loc
  (bZ (K pins s σ H _ I h) fun v s1 h1=>bZ h1 fun ab F h2=>?_)) (fun _ s' W=>Jf (Jf W)) fun _ _ e=>e)
 obtain⟨it,fp,tn,J,H2,rfl,I2,T,j,M,hJ⟩:=h2
 refine qS (R:=fun r C=>compPost (model X.prog X.w) X.A X.xe (some (assign (.Name x px) X.env)) (fun _ s'=>∃n H',aI X pins n H' s'/\D.nx n H') r C) O ok I2 T j M d f S U Y hJ fun Da C H' s' q I' hC p hm=>?_
 obtain⟨m,hn⟩:=hm
 show wpAny _ X.A (assign (.Name x px) X.env (.ref Da)) _ _ s'
 refine wpAny_assign_Name (mO (v:=.ref Da) I' Z z hx rfl (fun F I3 G=>?_) B)
 obtain⟨a,sb,ha⟩:=G
 have l:C≠a:=by
  rcases ha with ha|ha
  ·rw[ha];exact p.2.1
  ·exact JH (p.2.2.2.2.1 x a ha)
 refine⟨m,hn.sameBut sb l,fun h' E=>⟨_,H',?_,q⟩⟩
 exact I3.turned (t':=F.toks) (fun b o P e=>(E.2 b P).trans e) hC p.2.1 p.2.2.2.1 p.2.2.2.2.1 p.2.2.2.2.2
end
def Ev (t:TE) (a:St) (H:Hp) (v:V):Prop:=∀Q:VK,Q v H->t a H Q
def iU (t:TT) (a:St) (H:Hp) (b:Bool):Prop:=∀Q:Bool->Hp->Prop,Q b H->t a H Q
def ko (t:TA) (a:St) (H:Hp) (vs:List V):Prop:=∀Q:List V->Hp->Prop,Q vs H->t a H Q
section
variable {σ:St} {H:Hp} {ta tb tc te:TE} {t u:TT} {i j k:Int} {a b c:Bool} {v x y:V} {K:Je}
theorem aq:Ev (tC v) σ H v:=fun _ q=>q
theorem aa(h:σ[n]?=some (some v)):Ev (dE n) σ H v:=fun _ q=>⟨v,h,q⟩
theorem br {g:Int->Int->V}(b:Ev ta σ H (.int i))(a:Ev tb σ H (.int j)):Ev (fZ (vQ g) ta tb) σ H (g i j):=fun _ q=>b _ (a _ ⟨i,j,rfl,rfl,q⟩)
theorem zw (b:Ev ta σ H (.int i))(a:Ev tb σ H (.int j)):Ev (fZ (vQ fun i j=> .bl (decide (j<i))) ta tb) σ H (.bl (decide (j<i))):=br (g:=fun i j=> .bl (decide (j<i))) b a
theorem bJ {C:Int->Int->Prop}{g:Int->Int->V}(c:Ev ta σ H (.int i))(a:Ev tb σ H (.int j))(b:C i j):Ev (fZ (rI C g) ta tb) σ H (g i j):=fun _ q=>c _ (a _ ⟨i,j,rfl,rfl,b,q⟩)
theorem gS (b:Ev ta σ H (.int i))(a:Ev tb σ H (.int j)):Ev (fZ Hw ta tb) σ H (.bl (decide (i=j))):=fun Q q=>b _ (a _ ⟨rfl,by
 have e:decide (V.int i=V.int j)=decide (i=j):=by rw[j7];rfl
 rw[e];exact q⟩)
theorem gR (b:Ev ta σ H (.int i))(a:Ev tb σ H (.int j)):Ev (fZ Hx ta tb) σ H (.bl (!decide (i=j))):=fun Q q=>b _ (a _ ⟨rfl,by
 have e:decide (V.int i=V.int j)=decide (i=j):=by rw[j7];rfl
 rw[e];exact q⟩)
theorem zS (d:Ev ta σ H (.bl a))(c:Ev tb σ H (.bl b)):Ev (fZ Hx ta tb) σ H (.bl (a !=b)):=fun Q q=>d _ (c _ ⟨rfl,by
 have e:(!decide (V.bl a=V.bl b))=(a !=b):=by rw[tm];rfl
 rw[e];exact q⟩)
theorem cD {p q:Int->Int->Bool}(c:Ev ta σ H (.int i))(a:Ev tb σ H (.int j))(b:Ev tc σ H (.int k)):Ev (ub (vQ fun i j=> .bl (p i j)) (vQ fun i j=> .bl (q i j)) ta tb tc) σ H (.bl (p i j&&q j k)):=fun Q z=>by
 refine c _ (a _ ⟨i,j,rfl,rfl,p i j,rfl,?_⟩)
 cases e:p i j with
 |true=>rw[if_pos rfl];rw[e,Bool.true_and] at z;exact b _ ⟨j,k,rfl,rfl,z⟩
 |false=>rw[if_neg Ju];rw[e,Bool.false_and] at z;exact z
theorem iF (d:Ev ta σ H (.bl a))(c:a=true->Ev tb σ H (.bl b)):Ev (Eo ta tb) σ H (.bl (a&&b)):=fun Q z=>by
 refine d _ ⟨a,rfl,?_⟩
 cases a with
 |true=>rw[if_pos rfl];exact c rfl _ z
 |false=>rw[if_neg Ju];exact z
theorem GI (d:Ev ta σ H (.bl a))(c:a=false->Ev tb σ H (.bl b)):Ev (GX ta tb) σ H (.bl (a||b)):=fun Q z=>by
 refine d _ ⟨a,rfl,?_⟩
 cases a with
 |true=>rw[if_pos rfl];exact z
 |false=>rw[if_neg Ju];exact c rfl _ z
theorem Fl (b:Ev ta σ H (.bl a)):Ev (D8 ta) σ H (.bl (!a)):=fun _ z=>b _ ⟨a,rfl,z⟩
theorem d_(c:Ev ta σ H (.ref p))(a:Ev tb σ H (.int i))(d:cn K H p xs)(b:jW xs i=some v):Ev (fZ (w8 K) ta tb) σ H v:=fun _ q=>c _ (a _ ⟨p,xs,i,v,rfl,rfl,d,b,q⟩)
theorem bw(c:Ev ta σ H (.ref p))(a:Ev tb σ H (.int i))(d:aH K H p xs)(b:jW xs i=some v):Ev (fZ (lD K) ta tb) σ H v:=fun _ q=>c _ (a _ ⟨p,xs,i,v,rfl,rfl,d,b,q⟩)
theorem ou (b:Ev ta σ H x)(a:Ev tb σ H .non):Ev (fZ (fun x y H Q=>y=.non/\Q (.bl (decide (x=.non))) H) ta tb) σ H (.bl (decide (x=.non))):=fun _ z=>b _ (a _ ⟨rfl,z⟩)
theorem pA {sp:Sp}{a vs:List V}{E:XK}{t:TA}(b:ko t σ H vs)(c:∀Q:VK,Q v H->sp (vs++a) H Q E):Ev (fH sp a E t) σ H v:=fun Q q=>b _ (c Q q)
theorem cZ {r:List V->Hp->VK->Prop}{vs:List V}{t:TA}(b:ko t σ H vs)(a:∀Q:VK,Q v H->r vs H Q):Ev (oC r t) σ H v:=fun Q q=>b _ (a Q q)
theorem ao:ko eG σ H []:=fun _ q=>q
theorem af {t:TA}{vs:List V}(b:Ev ta σ H v)(a:ko t σ H vs):ko (b_ ta t) σ H (v::vs):=fun _ q=>b _ (a _ q)
theorem aE (h:Ev te σ H (.bl b)):iU (jk te) σ H b:=fun _ q=>h _ ⟨b,rfl,q⟩
theorem jm (h:Ev te σ H (.bl b)):iU (tB te) σ H b:=fun _ q=>h _ ⟨b,rfl,q⟩
theorem gU (h:iU t σ H b):iU (wk t) σ H (!b):=fun _ q=>h _ q
theorem o8 (d:iU t σ H a)(c:a=true->iU u σ H b):iU (Gi t u) σ H (a&&b):=fun Q z=>by
 refine d _ ?_
 cases a with
 |true=>rw[if_pos rfl];exact c rfl _ z
 |false=>rw[if_neg Ju];exact z
theorem fF (d:iU t σ H a)(c:a=false->iU u σ H b):iU (Fs t u) σ H (a||b):=fun Q z=>by
 refine d _ ?_
 cases a with
 |true=>rw[if_pos rfl];exact z
 |false=>rw[if_neg Ju];exact c rfl _ z
theorem i9 {a:TT}{t u:TS}{D:fJ}(h:iU a σ H b)(h1:b=true->t D σ H)(c:b=false->u D σ H):lJ a t u D σ H:=by
 refine h _ ?_
 cases b with
 |true=>rw[if_pos rfl];exact h1 rfl
 |false=>rw[if_neg Ju];exact c rfl
theorem lG {a:TT}{t u:TS}{D:fJ}(h:iU a σ H b)(c:b=false)(d:u D σ H):lJ a t u D σ H:=i9 h (fun e=>absurd (c.symm.trans e) Ju) fun _=>d
theorem eB(h:Ev te σ H v)(q:D.rt v H):zD te D σ H:=h _ q
end
theorem Cq(h1: -(2^64)<j)(a:j<2^64):Dj i j:=.inr ⟨h1,a⟩
theorem mL(h1:0<j)(a:j<2^200):Bx i j:=⟨h1,a⟩
theorem Ii(h1:0<=j)(a:j<=1000000)(b:i.natAbs<2^64):Fc i j:=⟨h1,a,b⟩
theorem E3:bootBuiltins "int" =some (.type "int"):=by decide+kernel
theorem DC:bootBuiltins "bool" =some (.type "bool"):=by decide+kernel
theorem zZ:bootBuiltins "str" =some (.type "str"):=by decide+kernel
theorem kz:bootBuiltins "tuple" =some (.type "tuple"):=by decide+kernel
theorem jZ:bootBuiltins "list" =some (.type "list"):=by decide+kernel
theorem Fq:bootBuiltins "zip" =some (.type "zip"):=by decide+kernel
theorem st {t:TS}{D:fJ}{a:St}{H:Hp}{r:VK}{b c:St->Hp->Prop}(h:t D a H):({nx:=t D,rt:=r,bk:=b,ct:=c}:fJ).nx a H:=h
section
variable {σ:St} {H:Hp} {te:TE} {tc:TT} {t u:TS} {ta:TA} {D:fJ} {b:Bool} {v:V} {vs:List V} {n:Nat} {K:Je}
theorem fI (h:Ev te σ H v)(q:u D (σ.set n (some v)) H):fG (mf te (cT n)) u D σ H:=h _ q
theorem c6 (h:iU tc σ H b)(a:b=false)(q:u D σ H):fG (lJ tc t lX) u D σ H:=lG (D:={D with nx:=u D}) h a q
theorem fw (h:iU tc σ H b)(h1:b=true->t {D with nx:=u D} σ H)(a:b=false->u D σ H):fG (lJ tc t lX) u D σ H:=i9 (D:={D with nx:=u D}) h h1 a
theorem oy (h:ko ta σ H vs)(a:vs.length<=sizeLine)(q:∀p,H p=none->u D (σ.set n (some (.ref p))) (upd H p (.lst vs))):fG (mf (ot ta) (cT n)) u D σ H:=h _ ⟨a,q⟩
theorem yH (h:ko ta σ H vs)(a:vs.length<=sizeLine)(q:∀p,H p=none->u D (σ.set n (some (.ref p))) (upd H p (.tup vs))):fG (mf (sJ ta) (cT n)) u D σ H:=h _ ⟨a,q⟩
theorem nW(h:Ev te σ H (.ref p))(a:cn K H p [x,y,z])(q:u D (((σ.set i (some x)).set j (some y)).set k (some z)) H):
  fG (mf te (F8 K 3 (uI (cT i) (uI (cT j) (uI (cT k) GZ))))) u D σ H:=h _ ⟨p,_,rfl,a,rfl,_,_,rfl,_,_,rfl,_,_,rfl,rfl,q⟩
theorem uO(q:tc σ H fun b H1=>if b=true then t D σ H1 else u D σ H1):lJ tc t u D σ H:=q
theorem pj (q:tc σ H fun b H1=>if b=true then t {D with nx:=u D} σ H1 else u D σ H1):fG (lJ tc t lX) u D σ H:=q
theorem gn(q:Q (σ.set n (some v)) H):cT n v σ H Q:=q
end
structure az (P:Program) (w:World) (K:Je) (mg:Str->Option Value) (base:Heap) (x:Str) (k:Nat) (ps:List Str) (sp:Sp):Prop where
 ex:∃f fd,eW P w K mg base mq k f fd ps sp/\mg x=some (.ref f)/\JW K (.ref f)=true/\dn K fd ps []
theorem FS(C:az X.prog X.w X.K X.mg X.base x k ps sp)(j:bT k X.A)(l:Gl X x)(h:PA X (e::es) t)
  (b:(x==("__debug__" :Str))=false:=by decide) (d:starEach (e::es) X.env=(false,eval e X.env)::starEach es X.env:=by rfl) (a:(backTo pos (starEach es X.env)).any (·.1)=false:=by rfl):
  PE X (.Call (.Name x p) (e::es) [] pos) (fH sp [] E0 t):=by
 obtain⟨f,fd,G,g,i,c⟩:=C.ex
 exact Ct G j l g i c .nil kZ h b d a
theorem cn.same {K:Je}{H b:Hp}{a:Addr}{xs:List V}(e:ah H b)(h:cn K H a xs):cn K b a xs:=by
 rcases h with (h|⟨o,h⟩)|h
 ·exact .inl (.inl (e _ _ h))
 ·exact .inl (.inr ⟨o,e _ _ h⟩)
 ·exact .inr h
theorem ah.upd(e:ah H H'){p:Addr}{o:HO}(a:H' p=none):ah H (upd H' p o):=fun b u h=>by
 rw[ak (ar (e b u h) a)]
 exact e b u h
noncomputable def xv (a st:Int) (n:Nat):It:=⟨fun i _=>i<n,fun i H x H'=>H'=H/\x=.int (a+i*st),fun i _=>n<=i⟩
theorem p8 {P:Program}{w:World}{K:Je}{D:Expr}(it:Addr)(f st:Int)(n:Nat):kP P w K D (xv f st n) [it] it (fun i h=>IsRangeIter h it (f+(i:Nat)*st) ((n:Int) - (i:Nat)) st) where
 mem:=by simp
 obj:=fun i h st b a=>by
  have e:b=it:=by simpa using a
  subst e
  exact⟨_,st,fun v z=>by
   have F:Data.fields _=Data.cell v:=z
   cases F⟩
 keep:=fun i h h' st k=>k it (by simp) _ st
 item:=by
  intro X p j x q i pins s σ H E I g c hg
  subst p j x
  obtain⟨u,y,B,r,l,m⟩:=g it (by simp)
  have W:=Walks.range (prog:=X.prog) (w:=X.w) (I.ok.hd q) it f st n
  refine W.item i s _ _ hg c fun v h' tk C d G=>?_
  obtain⟨t,rfl⟩:=C
  have J:aI X pins σ H {s with heap:=h',toks:=tk}:=I.turned (fun b o a e=>G b o (by simpa using a) e) u y r l m
  exact⟨_,rfl,mK (s:={s with heap:=h',toks:=tk}) (n:= "range_iterator") d rfl rfl (by decide) ⟨.int (f+i*st),H,J,⟨t,rfl⟩,⟨rfl,rfl⟩,d,fun b a=>(g b a).1⟩⟩
 done:=by
  intro X p j x q i pins s σ H E I g c hg
  subst p j x
  obtain⟨u,y,B,r,l,m⟩:=g it (by simp)
  exact wpAny_pyNext_range_end (I.ok.hd q) c (by have:n<=i:=hg;lia) fun h' A=>⟨rfl,I.turned (t':=s.toks) (fun b o a e=>A b o a e) u y r l m⟩
 self:=fun _ _ _ _ _ st h=>wpAny_pyIter_rangeiter st h
noncomputable def mr (b a st:Int):Nat:=if b<a then ((a - b - 1)/st+1).toNat else 0
section
variable {X:Cx} {tg:Expr}
theorem ir(d:0<c):Builtin.Range.rangeSize a b c=(mr a b c:Int):=by
 unfold Builtin.Range.rangeSize mr
 rw[if_pos d]
 split
 ·have:0<=(b - a - 1)/c:=Int.ediv_nonneg (by lia) (by lia)
  lia
 ·rfl
theorem wt(h1: -(2^60)<=a)(j:a<2^60)(g: -(2^60)<=b)(l:b<2^60)(d:0<c)(i:c<2^60):Builtin.Range.small a b c=true:=by
 have e:(mr a b c:Int)<=2^62:=by
  unfold mr
  split
  ·have h:(b - a - 1)/c<=b - a - 1:=Int.ediv_le_self _ (by lia)
   have f:0<=(b - a - 1)/c:=Int.ediv_nonneg (by lia) (by lia)
   lia
  ·decide
 unfold Builtin.Range.small
 rw[ir d]
 simp only[Builtin.Range.rangeFitsLong,Ki,LB,decide_eq_true_eq,beq_iff_eq,if_pos (show c>0 from d)]
 lia
def DS (ta:TA):TI:=fun σ H R=>ta σ H fun vs H1=>∃i j k:Int,vs=[.int i,.int j,.int k]/\(-(2^60)<=i/\i<2^60/\ -(2^60)<=j/\j<2^60/\0<k/\k<1000000)/\R (xv i k (mr i j k)) H1
theorem xo(B:Gl X "range")(D:X.mg "range" =none)(y:PA X [a,b,c] ta)(C:starEach [a,b,c] X.env=[(false,eval a X.env),(false,eval b X.env),(false,eval c X.env)]:=by rfl)
  (l:starEach [b,c] X.env=[(false,eval b X.env),(false,eval c X.env)]:=by rfl):PI X tg (.Call (.Name "range" p) [a,b,c] [] pos) (DS ta):=by
 intro pins s σ H R I h
 refine Call_ (gF I B D boot_range (PyProof.Rows.callWith_type1 (bZ (y pos pins s σ H _ I h) fun us g ⟨vs,H1,I1,E,m⟩=>?_) (by rw[C,l]) (by rw[l];rfl)))
 obtain⟨i,j,k,e,⟨m,z,A,w,v,G⟩,q⟩:=m
 subst e
 cases E with
 |cons r rr=>
  cases rr with
  |cons r' rr=>
   cases rr with
   |cons r'' rr=>
    cases rr
    obtain⟨t,rfl⟩:=r
    obtain⟨n,rfl⟩:=r'
    obtain⟨d,rfl⟩:=r''
    refine call_range_3 (by lia) ?_ (Or.inl (PyProof.noPylong_small (by lia)))
    refine wpAny_pyIter_range (IsRange.new ..) (wt m z A w v (by lia)) ?_
    generalize f:({g with heap:=g.heap.push {cls:=.type "range",data:=.fields #[.int i t,.int j n,.int k d]},toks:=g.toks}:Shared)=s2
    have u:aI X pins σ H1 s2:=by rw[<-f];exact I1.kept fun b o e=>Jj _ e
    have F:s2.heap=g.heap.push {cls:=.type "range",data:=.fields #[.int i t,.int j n,.int k d]}:=by rw[<-f]
    refine⟨s2.heap.objs.size,[s2.heap.objs.size],_,_,H1,rfl,?_,p8 _ i k (mr i j k),?_,fun b x=>?_,q⟩
    ·subst f
     exact u.kept (t':=g.toks) fun b o e=>Jj _ e
    ·show IsRangeIter _ _ (i+((0:Nat):Int)*k) ((mr i j k:Int) - ((0:Nat):Int)) k
     rw[show i+((0:Nat):Int)*k=i by simp,show(mr i j k:Int) - ((0:Nat):Int)=Builtin.Range.rangeSize i j k by rw[ir v];simp]
     exact Jx _ rfl
    ·have e:b=s2.heap.objs.size:=by simpa using x
     subst e
     exact u.fpOk (Jg _) (u.hok.fresh (Jg _))
theorem sV {f st:Int}{n:Nat}{g:TG}{h:TS}{D:fJ}{a:St}{H:Hp}(b:Nat->St->Hp->Prop)(h0:b 0 a H)
  (o:∀i a H,i<n->b i a H->g (.int (f+i*st)) a H fun c H2=>h {D with nx:=b (i+1),ct:=b (i+1),bk:=D.nx} c H2) (hd:∀a H,b n a H->D.nx a H):
  ∃W:Nat->Nat->St->Hp->Prop,(∃m,W 0 m a H)/\∀i m a H,W i m a H->
   ((xv f st n).stop i H/\D.nx a H)\/((xv f st n).go i H/\∃N:St->Hp->Prop,(∀d H',N d H'->∃j,j<m/\W (i+1) j d H')/\∀x H',(xv f st n).yld i H x H'->g x a H' fun c H2=>h {D with nx:=N,ct:=N,bk:=D.nx} c H2):=by
 refine⟨fun i m a H=>m=n - i/\i<=n/\b i a H,⟨n,by simp,JA _,h0⟩,?_⟩
 rintro i m a H ⟨rfl,hi,p⟩
 by_cases hlt:i<n
 ·refine .inr ⟨hlt,b (i+1),fun d H' l=>⟨n - (i+1),by lia,rfl,hlt,l⟩,fun x H' y=>?_⟩
  obtain⟨e,y⟩:=y
  subst e y
  exact o i a _ hlt p
 ·have e:i=n:=by lia
  subst e
  exact .inl ⟨Jg _,hd a H p⟩
end
theorem qe {j:Int}{n:Nat}{h:St}{g:TG}{l:TT}{q:TE}{o:Hp}{D:Addr}{Q:Hp->Prop}(d:Nat->St->Hp->Prop)(h0:d 0 h (upd o D (.lst [])))
  (u:∀i c H,i<n->d i c H->g (.int (j+i)) c H fun a H2=>l a H2 fun b H3=>
   if b=true then q a H3 fun v H4=>∃f,H4 D=some (.lst f)/\f.length<sizeLine/\d (i+1) a (upd H4 D (.lst (f++[v]))) else d (i+1) a H3)
  (hd:∀c H,d n c H->Q H):sI h g l q (wH j n) o D Q:=by
 refine⟨fun i m c H=>m=n - i/\i<=n/\d i c H,⟨n,by simp,JA _,h0⟩,?_⟩
 rintro i m c H ⟨rfl,hi,p⟩
 by_cases hlt:i<n
 ·refine .inr ⟨hlt,d (i+1),fun s H' r=>⟨n - (i+1),by lia,rfl,hlt,r⟩,fun x H' y=>?_⟩
  obtain⟨e,y⟩:=y
  subst e y
  exact u i c _ hlt p
 ·have e:i=n:=by lia
  subst e
  exact .inl ⟨Jg _,hd c H p⟩
theorem cm {K:Je}{a:Addr}{xs:List V}{j:St}{g:TG}{l:TT}{o:TE}{n:Hp}{D:Addr}{Q:Hp->Prop}(f:Nat->St->Hp->Prop)(h0:f 0 j (upd n D (.lst [])))
  (w:∀i c H,i<=xs.length->f i c H->aH K H a xs)
  (u:∀i x c H,xs[i]?=some x->f i c H->g x c H fun d H2=>l d H2 fun b H3=>
   if b=true then o d H3 fun v H4=>∃h,H4 D=some (.lst h)/\h.length<sizeLine/\f (i+1) d (upd H4 D (.lst (h++[v]))) else f (i+1) d H3)
  (hd:∀c H,f xs.length c H->Q H):sI j g l o (pM K a) n D Q:=by
 refine⟨fun i m c H=>m=xs.length - i/\i<=xs.length/\f i c H,⟨xs.length,by simp,JA _,h0⟩,?_⟩
 rintro i m c H ⟨rfl,hi,p⟩
 have q:=w i c H hi p
 by_cases hlt:i<xs.length
 ·refine .inr ⟨⟨xs,xs[i],q,by simp[hlt]⟩,f (i+1),fun s H' r=>⟨xs.length - (i+1),by lia,rfl,hlt,r⟩,fun x H' y=>?_⟩
  obtain⟨e,y⟩:=y
  subst e
  exact u i x c _ (y xs q) p
 ·have e:i=xs.length:=by lia
  subst e
  exact .inl ⟨⟨xs,q,Jg _⟩,hd c H p⟩
theorem bM.there(x:bM P w H h a o):∃ob,h.get? a=some ob:=by
 cases o with
 |lst xs=>obtain⟨_,_,_,_,e⟩:=x;exact⟨_,e⟩
 |tup xs=>obtain⟨_,_,_,ob,e,_⟩:=x;exact⟨_,e⟩
 |dK kvs=>obtain⟨_,_,_,_,o,_,_,e,_⟩:=x;exact⟨_,e⟩
 |dT kvs=>obtain⟨_,_,_,_,o,_,_,e,_⟩:=x;exact⟨_,e⟩
 |set S n=>obtain⟨o,_,_,_,e,_⟩:=x;exact⟨_,e⟩
 |ins C dx fs=>obtain⟨_,_,_,e,_⟩:=x;exact⟨_,e⟩
 |own y=>exact x
 |xd fs=>obtain⟨_,⟨_,_,_,e,_⟩,_⟩:=x;exact⟨_,e⟩
 |rng lo hi=>obtain⟨_,_,_,e⟩:=x;exact⟨_,e⟩
 |frz ob u=>obtain⟨e,_⟩:=x;exact⟨_,e⟩
 |tbl ps=>exact⟨_,(show h.get? a=some _ from x)⟩
 |met f y=>exact⟨_,(show h.get? a=some _ from x)⟩
 |ext φ=>exact x.2.1
theorem h_.none_of(x:h_ P w H h)(e:h.get? a=none):H a=none:=by
 cases q:H a with
 |none=>rfl
 |some u=>
  obtain⟨o,z⟩:=(x a u q).there
  rw[e] at z;cases z
section
variable {P:Program} {w:World} {K:Je} {mg:Str->Option Value} {base:Heap} {N:List Str} {qual:Str} {scope:Scope} {f:Addr} {cd:Value} {A:Around} {outer:List Env} {s₀:Shared} {H₀:Hp} {E:XK}
end
section
variable {X:Cx}
end
section
variable {P:Program} {w:World} {K:Je} {mg:Str->Option Value} {base:Heap} {N:List Str} {qual:Str} {scope:Scope} {f:Addr} {cd:Value} {A:Around} {outer:List Env} {s₀:Shared} {H₀:Hp} {E:XK}
end
section
variable {P:Program} {w:World} {K:Je} {mg:Str->Option Value} {base:Heap}
end
section
variable {X:Cx} {pins:List (Addr×Obj)} {σ:St} {H:Hp} {s:Shared}
end
section
variable {X:Cx}
end
end L2
namespace L2
open PySem PySem.Spec PyProof.Rows
open PySem.W (Looks)
open Builtin Builtin.ObjectAttr Builtin.Getset_descriptor
section
variable {prog:Program} {w:World} {A:Around} {E:Value->Shared->Prop} {K:Je} {C a:Addr} {h:Heap} {g:Array GenState} {d:Drawn} {t:Nat} {os:OsState} {o:Obj}
end
section
variable {X:Cx}
end
section
variable {X:Cx}
theorem ic:∀{cs:List Addr} {us:List Value},aS (cs.map V.ref) us->us=cs.map Value.ref
 |[],_,.nil=>rfl
 |_::_,_,.cons r t=>by rw[ic t];cases(show _=Value.ref _ from r);rfl
theorem lg(h1: -(2^200)<i)(b:i<2^200):i.natAbs.log2<1920:=by
 by_cases h:i.natAbs=0
 ·rw[h];decide
 ·rw[Nat.log2_lt h]
  have a:i.natAbs<2^200:=by lia
  exact JO a (Nat.pow_le_pow_right (n:=2) (by decide) (by decide))
theorem jj(a:Gl X x)(b:X.mg x=some (.ref C))(hd:(x==("__debug__" :Str))=false:=by decide):PE X (.Name x pos) (tC (.ref C)):=uB a b rfl hd
theorem Ig{g:Int->V}(a:Ev ta σ H (.int i)):Ev (IH (rU g) ta) σ H (g i):=fun _ q=>a _ ⟨i,rfl,q⟩
theorem bK(q:te σ H fun v H1=>u D (σ.set n (some v)) H1):fG (mf te (cT n)) u D σ H:=q
end
structure cS (P:Program) (w:World) (K:Je) (mg:Str->Option Value) (base:Heap) (C:Addr) (m:Str) (k:Nat) (ps:List Str) (sp:Sp):Prop where
 ex:∃f fd,eW P w K mg base mq k f fd ps sp/\DE K C m f/\dn K fd ps []
structure e_ (P:Program) (w:World) (K:Je) (mg:Str->Option Value) (base:Heap) (C:Addr) (x:Str) (k:Nat) (ps:List Str) (sp:Sp):Prop where
 ex:∃f fd,eW P w K mg base mq k f fd ps sp/\Mk K C f/\mg x=some (.ref C)/\dn K fd ps []
section
variable {X:Cx} {C:Addr} {k:Nat} {ps:List Str} {sp:Sp} {x m:Str} {p pos apos:Pos} {e o:Expr} {es:List Expr} {ta:TE} {t:TA}
theorem FE {pl:Sem Bool}(h:PE X o ta)(c:jn X.K C)(G:cS X.prog X.w X.K X.mg X.base C m k ps sp)(l:bT k X.A)(j:PA X (e::es) t)
  (a:starEach (e::es) X.env=(false,eval e X.env)::starEach es X.env:=by rfl) (b:(backTo pos (starEach es X.env)).any (·.1)=false:=by rfl)
  (g:eval (.Call (.Attribute o m apos) (e::es) [] pos) X.env=(do
   let ov<-eval o X.env
   standAt apos.atName
   let (f,first)<-holding [ov] (getMethod ov m pl)
   callWith pos f first (backTo pos (starEach (e::es) X.env)) (backToKw pos (keywordEach [] X.env))):=by rfl):
  PE X (.Call (.Attribute o m apos) (e::es) [] pos) (rK C m sp [] E0 ta t):=by
 obtain⟨f,fd,F,i,d⟩:=G.ex
 exact C7 (pl:=pl) h c i F l d .nil kZ j a b g
theorem iZ {pl:Sem Bool}(d:PE X o ta)(c:jn X.K C)(G:cS X.prog X.w X.K X.mg X.base C m k ps sp)(g:bT k X.A)
  (b:eval (.Call (.Attribute o m apos) [] [] pos) X.env=(do
   let ov<-eval o X.env
   standAt apos.atName
   let (f,first)<-holding [ov] (getMethod ov m pl)
   callWith pos f first (backTo pos (starEach [] X.env)) (backToKw pos (keywordEach [] X.env))):=by rfl):
  PE X (.Call (.Attribute o m apos) [] [] pos) (rK C m sp [] E0 ta eG):=by
 obtain⟨f,fd,F,e,a⟩:=G.ex
 exact yE (pl:=pl) d c e F g a .nil kZ b
theorem uR (G:e_ X.prog X.w X.K X.mg X.base C x k ps sp)(i:bT (k+1) X.A)(j:Gl X x)(h:PA X (e::es) t)(b:(x==("__debug__" :Str))=false:=by decide)
  (d:starEach (e::es) X.env=(false,eval e X.env)::starEach es X.env:=by rfl) (a:(backTo pos (starEach es X.env)).any (·.1)=false:=by rfl):PE X (.Call (.Name x p) (e::es) [] pos) (Ed C sp [] E0 t):=by
 obtain⟨f,fd,F,M,g,c⟩:=G.ex
 exact B9 M F i j g c .nil kZ h b d a
theorem rL:cI X (.type "range") (fun xs H Q=>∃m n,xs=[.int m,.int n]/\∀p,H p=none->Q (.ref p) (upd H p (.rng m n))):=by
 intro pins s σ H xs us Q I r h
 obtain⟨m,n,rfl,q⟩:=h
 obtain⟨u,c,rfl,⟨t,rfl⟩,⟨a,rfl⟩⟩:=lC r
 refine PySem.call_range_2 ⟨.ref s.heap.objs.size,_,?_,rfl,q _ (I.hok.fresh (Jg _))⟩
 refine I.laid (fun b o e=>Jj _ e) (Jg _) ?_
 exact⟨_,_,_,Jx _ rfl⟩
theorem lI {f:Nat->Int}:∀(a:List Value) (i:Nat),(∀j v,a[j]?=some v->∃t,v=Value.int (f (i+j)) t)->aS ((List.range' i a.length).map fun j=>V.int (f j)) a
 |[],_,_=> .nil
 |v::r,i,h=>by
  obtain⟨t,e⟩:=h 0 v rfl
  refine .cons ⟨t,e⟩ (lI r (i+1) fun j u b=>?_)
  obtain⟨c,d⟩:=h (j+1) u b
  exact⟨c,by rw[d];congr 2;lia⟩
theorem mv (m:X.calm=true):cI X (.type "list") (fun xs H Q=>∃p lo hi,xs=[.ref p]/\H p=some (.rng lo hi)/\(-(2^62)<=lo/\lo<2^62/\ -(2^62)<=hi/\hi<2^62)/\hi - lo<=16000000/\
  ∀l,H l=none->Q (.ref l) (upd H l (.lst ((List.range (hi - lo).toNat).map fun(i:Nat)=>V.int (lo+(i:Int)))))):=by
 intro pins s σ H xs us Q I r h
 obtain⟨p,lo,hi,rfl,F,⟨h1,h2,B,x⟩,G,q⟩:=h
 obtain⟨u,rfl,n⟩:=df r
 cases n
 obtain⟨t,o,a,e⟩:=(show bM X.prog X.w H s.heap p (.rng lo hi) from I.hok p _ F)
 have C:Builtin.Range.rangeSize lo hi 1=((hi - lo).toNat:Nat):=by
  rw[rangeSize_one]
  split<;>lia
 refine call_list_range (I.ok.hd m) e (small_one h1 h2 B x) C (by lia) fun h' tk b D A E c=>?_
 obtain⟨d,ha⟩:=c
 have g:aS ((List.range (hi - lo).toNat).map fun(i:Nat)=>V.int (lo+(i:Int))) b.toList:=by
  have z:=lI (f:=fun i=>lo+(i:Int)) b.toList 0 fun j v y=>by
   obtain⟨t,e⟩:=ha j v (by rw[<-y];simp)
   exact⟨t,by rw[e];simp⟩
  rw[show b.toList.length=(hi - lo).toNat by rw[JD,d]] at z
  rw[List.range_eq_range']
  exact z
 refine⟨.ref s.heap.objs.size,_,I.laid (t':=tk) A (Jg _) (show bM X.prog X.w _ h' _ (.lst _) from⟨?_,b.toList,D,g,by rw[E]⟩),rfl,q _ (I.hok.fresh (Jg _))⟩
 rw[Jd,List.length_range]
 have:sizeLine=2^24:=rfl
 lia
end
theorem fK {c:TE}{a:St}{H:Hp}{R:VK}{N:Hp->Prop}(h:c a H R):rV a H fun b H3=>if b=true then c a H3 R else N H3:=by
 show if true=true then c a H R else N H
 rw[if_pos rfl]
 exact h
section
variable {σ:St} {H:Hp} {tc:TT} {te:TE} {t u v:TS} {D:fJ} {a b:Bool}
theorem Ds (e:a=b)(h:Ev te σ H (.bl a)):Ev te σ H (.bl b):=e▸h
theorem Ik (J:St->Hp->Prop)(h1:∀R:St->Hp->Prop,(∀σ H,J σ H->R σ H)->t {D with nx:=R} σ H)(a:∀σ H,J σ H->v D σ H):fG t v D σ H:=h1 _ a
end
theorem jd:bootBuiltins "enumerate" =some (.type "enumerate"):=by decide+kernel
section
variable {X:Cx} {Ex:St->Value->Hp->Prop} {C:Addr} {k:Nat} {f:Addr} {fd:FuncData} {ps:List Str} {sp:Sp} {x m:Str} {p pos apos:Pos} {e o:Expr} {es:List Expr} {ta:TE} {t:TA}
end
end L2
namespace L2
open PySem PySem.W PyProof.Rows
section
variable {O:KeyOrd} (key:Nat->O.α)
def kA (p:Array Nat) (k:Nat):O.α:=key (p.getD k 0)
def Dn (p:Array Nat) (n:Nat):Prop:=∀i j,i<=j->j<n->O.kle (kA key p j) (kA key p i)
variable {key}
end
end L2
namespace L2
open PySem PySem.Spec PyProof.Rows
mutual
inductive Dp (K:Je) (H:Hp):V->PyData->Prop
 |non:Dp K H .non .none
 |bl (b:Bool):Dp K H (.bl b) (.bool b)
 |int (i:Int):Dp K H (.int i) (.int i)
 |str (x:Str) (h:PyData.strOk x=true):Dp K H (.str x) (.str x)
 |tup {a:Addr} {xs:List V} {ds:List PyData} (h:cn K H a xs) (r:oF K H xs ds):Dp K H (.ref a) (.tuple ds)
 |lst {a:Addr} {xs:List V} {ds:List PyData} (h:aH K H a xs) (r:oF K H xs ds):Dp K H (.ref a) (.list ds)
inductive oF (K:Je) (H:Hp):List V->List PyData->Prop
 |nil:oF K H [] []
 |cons {x:V} {xs:List V} {d:PyData} {ds:List PyData} (h:Dp K H x d) (r:oF K H xs ds):oF K H (x::xs) (d::ds)
end
mutual
theorem Dp.lay {K:Je}{H:Hp}:∀{v:V} {d:PyData},Dp K H v d->d.canLay0=true
 |_,_,.non=>rfl
 |_,_,.bl _=>rfl
 |_,_,.int _=>rfl
 |_,_,.str _ h=>by simpa[PyData.canLay0] using h
 |_,_,.tup _ r=>by simpa[PyData.canLay0] using r.lay
 |_,_,.lst _ r=>by simpa[PyData.canLay0] using r.lay
theorem oF.lay {K:Je}{H:Hp}:∀{xs:List V} {ds:List PyData},oF K H xs ds->PyData.canLayAll0 ds=true
 |_,_,.nil=>by simp[PyData.canLayAll0]
 |_,_,.cons h r=>by simp[PyData.canLayAll0,h.lay,r.lay]
end
mutual
theorem Dp.reads{c:List (Addr×Obj)}(I:aI X c σ H s):∀{v:V} {d:PyData} {u:Value},Dp X.K H v d->aQ v u->∃as,Reads s.heap u d as
 |_,_,_,.non,r=>by cases(show _=Value.none from r);exact⟨_,.none⟩
 |_,_,_,.bl b,r=>by cases(show _=Value.bool b from r);exact⟨_,.bool b⟩
 |_,_,_,.int i,r=>by obtain⟨t,rfl⟩:=r;exact⟨_,.int i t⟩
 |_,_,_,.str x _,r=>by obtain⟨t,rfl⟩:=r;exact⟨_,.str x t⟩
 |_,_,_,.tup (a:=a) h rs,r=>by
  cases(show _=Value.ref a from r)
  obtain⟨e,l,⟨o,f,g,n,hd⟩,_⟩:=I.tuple h
  obtain⟨as,j⟩:=oF.reads I rs l
  exact⟨_,.tuple f g hd (by simpa using j)⟩
 |_,_,_,.lst (a:=a) h rs,r=>by
  cases(show _=Value.ref a from r)
  obtain⟨e,l,m,_⟩:=I.list h
  obtain⟨o,f,g,n,hd⟩:=m.isList
  obtain⟨as,j⟩:=oF.reads I rs l
  exact⟨_,.list f g hd (by simpa using j)⟩
theorem oF.reads{a:List (Addr×Obj)}(I:aI X a σ H s):∀{xs:List V} {ds:List PyData} {us:List Value},oF X.K H xs ds->aS xs us->∃as,ReadsAll s.heap us ds as
 |_,_,_,.nil,.nil=>⟨_,.nil⟩
 |_,_,_,.cons h rs,.cons r rr=>by
  obtain⟨as,b⟩:=Dp.reads I h r
  obtain⟨bs,c⟩:=oF.reads I rs rr
  exact⟨_,.cons b c⟩
end
section
variable {X:Cx}
def GP (K:Je):R2:=fun x y H Q=>∃d e,Dp K H x d/\Dp K H y e/\d.depth<=60/\Q (.bl (PyData.eqv d e)) H
theorem Fg(b:bT k X.A):gN X (compareOp .Eq) (GP X.K):=by
 intro pins s σ H x y v u Q I c a h
 obtain⟨d,e,h1,h2,hd,q⟩:=h
 obtain⟨as,g⟩:=h1.reads I c
 obtain⟨bs,f⟩:=h2.reads I a
 have:=b.units
 exact SeqAt.compareEq_reads g f h1.lay h2.lay (by lia) ⟨.bl _,H,I,rfl,q⟩
end
mutual
theorem zz:∀{d:PyData},d.canLay0=true->PyData.eqv d d=true
 | .none,_=>by simp[PyData.eqv]
 | .bool _,_=>by simp[PyData.eqv]
 | .int _,_=>by simp[PyData.eqv]
 | .str _,_=>by simp[PyData.eqv]
 | .list xs,h=>by simp only[PyData.eqv];exact gX (by simpa[PyData.canLay0] using h)
 | .tuple xs,h=>by simp only[PyData.eqv];exact gX (by simpa[PyData.canLay0] using h)
 | .dict _,h=>by simp[PyData.canLay0] at h
theorem gX:∀{ds:List PyData},PyData.canLayAll0 ds=true->PyData.eqvAll ds ds=true
 |[],_=>by simp[PyData.eqvAll]
 |d::r,h=>by
  have h':d.canLay0=true/\PyData.canLayAll0 r=true:=by simpa[PyData.canLayAll0] using h
  simp only[PyData.eqvAll,zz h'.1,gX h'.2,Bool.and_self]
end
theorem qQ {K:Je}{H:Hp}:∀(ns:List Int),oF K H (ns.map V.int) (ns.map PyData.int)
 |[]=> .nil
 |n::r=> .cons (.int n) (qQ r)
theorem jI:∀(ns a:List Int),PyData.eqvAll (ns.map PyData.int) (a.map PyData.int)=decide (ns=a)
 |[],[]=>by simp[PyData.eqvAll]
 |[],_::_=>by simp[PyData.eqvAll]
 |_::_,[]=>by simp[PyData.eqvAll]
 |n::r,m::t=>by
  simp only[Jr,PyData.eqvAll,PyData.eqv,jI r t,List.cons.injEq]
  by_cases h1:n=m<;>by_cases h2:r=t<;>simp[h1,h2]
theorem wX (ns a:List Int):PyData.eqv (.tuple (ns.map PyData.int)) (.tuple (a.map PyData.int))=decide (ns=a):=by simp only[PyData.eqv];exact jI ns a
theorem jJ:∀{ds:List PyData},(∀d∈ds,d.depth<=n)->PyData.depthAll ds<=n
 |[],_=>by simp[PyData.depthAll]
 |d::r,h=>by
  simp only[PyData.depthAll]
  exact Nat.max_le.mpr ⟨h d Jp,jJ fun e a=>h e (Jq _ a)⟩
theorem qH (ns:List Int):(PyData.tuple (ns.map PyData.int)).depth<=1:=by
 have:PyData.depthAll (ns.map PyData.int)<=0:=jJ fun d hd=>by
  obtain⟨i,_,rfl⟩:=Jk.mp hd
  simp[PyData.depth]
 simp only[PyData.depth];lia
theorem cn.kept {K:Je}{H c:Hp}{a:Addr}{xs:List V}(e:∀b o,H b=some o->c b=some o)(h:cn K H a xs):cn K c a xs:=cn.same e h
mutual
theorem Dp.same {K:Je}{H a:Hp}(e:ah H a):∀{v:V} {d:PyData},Dp K H v d->Dp K a v d
 |_,_,.non=> .non
 |_,_,.bl b=> .bl b
 |_,_,.int i=> .int i
 |_,_,.str x h=> .str x h
 |_,_,.tup h r=> .tup (h.same e) (oF.same e r)
 |_,_,.lst h r=> .lst (e.seq h) (oF.same e r)
theorem oF.same {K:Je}{H a:Hp}(e:ah H a):∀{xs:List V} {ds:List PyData},oF K H xs ds->oF K a xs ds
 |_,_,.nil=> .nil
 |_,_,.cons h r=> .cons (Dp.same e h) (oF.same e r)
end
section
variable {σ:St} {H:Hp} {ta tb:TE} {x y:V} {d e:PyData} {K:Je}
theorem FG (b:Ev ta σ H x)(a:Ev tb σ H y)(h1:Dp K H x d)(c:Dp K H y e)(hd:d.depth<=60):Ev (fZ (GP K) ta tb) σ H (.bl (PyData.eqv d e)):=fun _ z=>b _ (a _ ⟨d,e,h1,c,hd,z⟩)
end
theorem aI.laidN{g:List (Addr×Obj)}(I:aI X g σ H s)(k:∀b u,b≠X.env.locals->s.heap.get? b=some u->h'.get? b=some u)
  (ns:∀m,s.heap.Ns X.env.locals m->h'.Ns X.env.locals m) (i:s.heap.get? a=none) (new:bM X.prog X.w (upd H a o) h' a o):aI X g σ (upd H a o) {s with heap:=h',toks:=t'}:=by
 have d:H a=none:=I.hok.none_of i
 have sy:∀b u,H b=some u->b≠X.env.locals:=fun b u e z=>by rw[z,I.free] at e;cases e
 have f:∀b u,s.heap.get? b=some u->b≠a:=fun b u e z=>by rw[z,i] at e;cases e
 refine I.step (g':=s.gens) (d':=s.drawn) (ch:=[]) (fun _ z=>nomatch z) (fun b u h _ _ e _=>k b u h e) (fun b u h _ _ e _=>⟨u.slots,k b u h e⟩) (fun b u _ e n=>by rw[ak (f b u e)];exact n)
  (fun b u _ e=>?_) (fun b xs e=>by rw[ak (ar e d)];exact e) (fun b u xs e=>by rw[ak (ar e d)];exact e) (fun b ps e=>⟨#[],by rw[ak (ar e d),e];simp⟩) ns (fun b u e=>?_) I.bare
 ·by_cases hb:b=X.env.locals
  ·obtain⟨m,l,_⟩:=I.loc
   obtain⟨o',_,_,j,_⟩:=ns m l
   exact⟨o',by rw[hb];exact j⟩
  ·exact⟨u,k b u hb e⟩
 ·by_cases hb:b=a
  ·subst hb;rw[ae] at e;cases e;exact new
  ·rw[ak hb] at e
   refine(I.hok b u e).stay (fun c v hc q=>k c v ?_ q) (fun c q=>by rw[ak (ar q d)];exact q) fun c xs q=>by rw[ak (ar q d)];exact q
   rcases hc with rfl|hc
   ·exact sy _ _ e
   ·exact sy _ _ hc
theorem sM {h:Heap}{a:Addr}{m m':Str->Option Value}(x:h.Ns a m)(y:h.Ns a m'):m=m':=by
 obtain⟨o,es,ep,g,hd,_,f⟩:=x
 obtain⟨o',d,e,b,c,_,i⟩:=y
 rw[g] at b;cases b
 rw[hd] at c;cases c
 funext n
 rw[<-f,<-i]
theorem iS:∀cs:List Addr,aS (cs.map V.ref) (cs.map Value.ref)
 |[]=> .nil
 |_::r=> .cons rfl (iS r)
theorem kI:∀a:List Int,HT.lexLt a a=false
 |[]=>rfl
 |x::r=>by rw[HT.lexLt_cons,if_pos rfl];exact kI r
theorem jD:∀a b:List Int,HT.lexLt a b=false->HT.lexLt b a=false->a=b
 |[],[],_,_=>rfl
 |[],_::_,h,_=>by rw[HT.lexLt_nil_cons] at h;cases h
 |_::_,[],_,h=>by rw[HT.lexLt_nil_cons] at h;cases h
 |x::r,y::t,h1,h2=>by
  rw[HT.lexLt_cons] at h1 h2
  by_cases e:x=y
  ·subst e
   rw[if_pos rfl] at h1 h2
   rw[jD r t h1 h2]
  ·rw[if_neg e] at h1
   rw[if_neg (JH e)] at h2
   have:=of_decide_eq_false h1
   have:=of_decide_eq_false h2
   lia
theorem jq:∀a b c:List Int,HT.lexLt a b=true->HT.lexLt b c=true->HT.lexLt a c=true
 |[],_,[],_,h=>by
  rename_i b _
  cases b with
  |nil=>rw[HT.lexLt_nil_nil] at h;cases h
  |cons y t=>rw[HT.lexLt_cons_nil] at h;cases h
 |[],_,_::_,_,_=>rfl
 |_::_,[],_,h,_=>by rw[HT.lexLt_cons_nil] at h;cases h
 |_::_,_::_,[],_,h=>by rw[HT.lexLt_cons_nil] at h;cases h
 |x::r,y::t,z::u,h1,h2=>by
  rw[HT.lexLt_cons] at h1 h2|-
  by_cases e1:x=y<;>by_cases e2:y=z
  ·subst e1;subst e2
   rw[if_pos rfl] at h1 h2|-
   exact jq r t u h1 h2
  ·subst e1
   rw[if_neg e2] at h2|-
   exact h2
  ·subst e2
   rw[if_neg e1] at h1|-
   exact h1
  ·rw[if_neg e1] at h1
   rw[if_neg e2] at h2
   have:=of_decide_eq_true h1
   have:=of_decide_eq_true h2
   rw[if_neg (by omega)]
   exact decide_eq_true (by omega)
theorem BR (a b c:List Int)(h:HT.lexLt a c=true):HT.lexLt a b=true\/HT.lexLt b c=true:=by
 cases h1:HT.lexLt a b with
 |true=>exact .inl rfl
 |false=>
  refine .inr ?_
  cases h2:HT.lexLt b a with
  |true=>exact jq b a c h2 h
  |false=>rw[<-jD a b h1 h2];exact h
abbrev bB (H:Hp) (as:List Addr) (cs:List (List Int)):Prop:=Paired (fun a (c:List Int)=>H a=some (.tup (c.map V.int))) as cs
theorem bB.at {H:Hp}{as:List Addr}{cs:List (List Int)}{i:Nat}{a:Addr}(h:bB H as cs)(e:as[i]?=some a):∃c,cs[i]?=some c/\H a=some (.tup (c.map V.int)):=Aj h e
theorem bB.same{cs:List (List Int)}(h:bB H as cs)(e:ah H H'):bB H' as cs:=Paired.mapP h fun _ _ z=>e _ _ z
open PySem.W in
theorem jO{Q:Bool->Shared->Prop}:∀(us c:List Value) (ns a:List Int) (i:Nat),aS (ns.map V.int) us->aS (a.map V.int) c->fin=decide (ns.length<a.length)->
  Q (HT.lexLt ns a) s->KatLex prog w A b fin Q (us.zip c) i s
 |[],c,ns,a,i,r1,r2,hf,h=>by
  cases ns with
  |cons n r=>cases r1
  |nil=>
   refine kat_nil ?_
   rw[hf]
   cases a with
   |nil=>exact h
   |cons m t=>exact h
 |u::us,[],ns,a,i,r1,r2,hf,h=>by
  cases a with
  |cons m t=>cases r2
  |nil=>
   refine kat_nil ?_
   rw[hf]
   cases ns with
   |nil=>exact h
   |cons m t=>exact h
 |u::us,v::c,ns,a,i,r1,r2,hf,h=>by
  cases ns with
  |nil=>cases r1
  |cons n r=>
   cases a with
   |nil=>cases r2
   |cons m t=>
    cases r1 with
    |cons q1 r1=>
     cases r2 with
     |cons q2 r2=>
      obtain⟨f,rfl⟩:=q1
      obtain⟨g,rfl⟩:=q2
      refine kat_cons (wpAny_eqBool_int ?_)
      rw[HT.lexLt_cons] at h
      refine kat_go (fun e=>?_) (fun e=>?_)
      ·have d:n=m:=by simpa using e
       rw[if_pos d] at h
       exact kat_yes (jO us c r t (i+1) r1 r2 (by rw[hf];simp) h)
      ·have d:¬n=m:=by simpa using e
       rw[if_neg d] at h
       refine kat_no ?_
       cases(b&&i==0) with
       |true=>exact oneLt_int h
       |false=>exact kat_one _ _ (lt_int h)
section
variable {X:Cx}
end
section
variable {prog:Program} {w:World} {A:Around} {E:Value->Shared->Prop} {s:Shared}
end
section
variable {X:Cx}
end
section
variable {X:Cx}
end
abbrev cp (z:Str):List Nat:=z.cps.toList
theorem ur(h:cp x=cp y):x=y:=by
 cases x with|mk a=>cases y with|mk b=>exact congrArg Str.mk (Array.toList_inj.mp h)
theorem c9 (z:Str):(cp z).length=z.length:=by simp[Str.length]
theorem fX (x y:Str):cp (x++y)=cp x++cp y:=by
 show(x.cps++y.cps).toList=_
 simp
noncomputable def Il (z:Str):It:=⟨fun i _=>i<z.cps.size,fun i H x H'=>H'=H/\∃c,(cp z)[i]?=some c/\x=.str ⟨#[c]⟩,fun i _=>z.cps.size<=i⟩
theorem EE{it:Addr}{Q:Unit->Shared->Prop}(a:Q () s):wpAny M A (letOwnedTupleGo tg (.ref it) (.str x t)) Q E s:=by
 unfold letOwnedTupleGo
 cases tg<;>exact Jf a
theorem zg {P:Program}{w:World}{K:Je}{J:Expr}(z:Str)(t:Tok)(it:Addr):kP P w K J (Il z) [it] it (fun i h=>h.IsStrIter it "str_ascii_iterator" z t i) where
 mem:=by simp
 obj:=fun i h st b a=>by
  have e:b=it:=by simpa using a
  subst e
  obtain⟨o,e,c,d⟩:=st
  exact⟨o,e,fun v z=>by rw[d] at z;cases z⟩
 keep:=fun i h h' st k=>by
  obtain⟨o,e,r⟩:=st
  exact⟨o,k it (by simp) o e,r⟩
 item:=by
  intro X n j A p i pins s σ H E I g f hg
  subst n j A
  obtain⟨x,B,F,q,l,m⟩:=g it (by simp)
  have W:=Walks.strAscii (prog:=X.prog) (w:=X.w) (I.ok.hd p) it z t
  refine W.item i s _ _ hg f fun v h' tk G y M=>?_
  obtain⟨c,u,C,rfl⟩:=G
  have N:aI X pins σ H {s with heap:=h',toks:=tk}:=I.turned (fun b o a e=>M b o (by simpa using a) e) x B q l m
  exact⟨_,rfl,EE ⟨.str ⟨#[c]⟩,H,N,⟨u,rfl⟩,⟨rfl,c,by rw[<-C];simp,rfl⟩,y,fun b a=>(g b a).1⟩⟩
 done:=by
  intro X n j A p i pins s σ H E I g f hg
  subst n j A
  obtain⟨x,B,F,q,l,m⟩:=g it (by simp)
  exact wpAny_pyNext_ascii_end (I.ok.hd p) f (by have:z.cps.size<=i:=hg;simp[this]) fun h' D=>⟨rfl,I.turned (t':=s.toks) (fun b o a e=>D b o a e) x B q l m⟩
 self:=fun _ _ _ _ _ st h=>wpAny_pyIter_striter_ascii st h
def HL (tl:TE):TI:=fun σ H R=>tl σ H fun x H1=>∃z,x=.str z/\z.cps.all (· <128)=true/\R (Il z) H1
section
variable {X:Cx} {tg:Expr}
theorem yK(f:PE X l tl):PI X tg l (HL tl):=by
 intro pins s σ H R I h
 refine bZ (f pins s σ H _ I h) fun v a ⟨x,H1,I1,g,c⟩=>?_
 obtain⟨z,e,ha,q⟩:=c
 subst e
 obtain⟨t,rfl⟩:=g
 refine wpAny_pyIter_ascii ha ?_
 refine⟨a.heap.objs.size,[a.heap.objs.size],_,_,H1,rfl,I1.kept (t':=a.toks) fun b o e=>Jj _ e,zg z t _,⟨_,Jx _ rfl,rfl,rfl⟩,fun b d=>?_,q⟩
 have e:b=a.heap.objs.size:=by simpa using d
 subst e
 exact I1.fpOk (Jg _) (I1.hok.fresh (Jg _))
theorem zh(f:Nat->St->Hp->Prop)(h0:f 0 σ0 (upd H1 D (.lst [])))
  (n:∀i c d H,(cp z)[i]?=some c->f i d H->g (.str ⟨#[c]⟩) d H fun a H2=>tt a H2 fun b H3=>
   if b=true then te a H3 fun v H4=>∃h,H4 D=some (.lst h)/\h.length<sizeLine/\f (i+1) a (upd H4 D (.lst (h++[v]))) else f (i+1) a H3)
  (hd:∀d H,f z.length d H->Q H):sI σ0 g tt te (Il z) H1 D Q:=by
 have q:z.cps.size=z.length:=rfl
 refine⟨fun i m d H=>m=z.length - i/\i<=z.length/\f i d H,⟨z.length,by simp,JA _,h0⟩,?_⟩
 rintro i m d H ⟨rfl,hi,p⟩
 by_cases hlt:i<z.length
 ·refine .inr ⟨hlt,f (i+1),fun l H' j=>⟨z.length - (i+1),by lia,rfl,hlt,j⟩,fun x H' y=>?_⟩
  obtain⟨e,c,o,rfl⟩:=y
  subst e
  exact n i c d _ o p
 ·have e:i=z.length:=by lia
  subst e
  exact .inl ⟨Jg _,hd d H p⟩
theorem nJ:∀{bs:List Bool} {us:List Value},aS (bs.map V.bl) us->us=bs.map Value.bool
 |[],_,.nil=>rfl
 |_::_,_,.cons r t=>by rw[nJ t];cases(show _=Value.bool _ from r);rfl
theorem wY (bs:List Bool):(List.range bs.length).any (fun i=>bs.getD i false)=bs.any id:=by
 have e:(List.range bs.length).map (fun i=>bs.getD i false)=bs:=by
  apply LC
  intro i
  by_cases hi:i<bs.length
  ·simp[hi]
  ·simp[hi]
 conv=>rhs;rw[<-e]
 rw[List.any_map]
 rfl
theorem wI (bs:List Bool):(List.range bs.length).all (fun i=>bs.getD i false)=bs.all id:=by
 have e:(List.range bs.length).map (fun i=>bs.getD i false)=bs:=by
  apply LC
  intro i
  by_cases hi:i<bs.length
  ·simp[hi]
  ·simp[hi]
 conv=>rhs;rw[<-e]
 rw[List.all_map]
 rfl
theorem vg (n:X.calm=true):cI X (.builtin "any") (fun xs H Q=>∃(p:Addr) (bs:List Bool),xs=[.ref p]/\aH X.K H p (bs.map V.bl)/\Q (.bl (bs.any id)) H)/\cI X (.builtin "all") (fun xs H Q=>∃(p:Addr) (bs:List Bool),xs=[.ref p]/\aH X.K H p (bs.map V.bl)/\Q (.bl (bs.all id)) H):=by
 constructor
 all_goals
  intro pins s σ H xs us Q I r h
  obtain⟨p,bs,rfl,B,q⟩:=h
  obtain⟨u,rfl,y⟩:=df r
  cases y
  obtain⟨c,z,d,C⟩:=I.list B
  cases nJ z
  have f:(bs.map Value.bool).toArray.size=bs.length:=by simp
  first|refine call_any_walk (KP d.isList ?_)|refine call_all_walk (KP d.isList ?_)
  have a:p≠s.heap.objs.size:=by
   obtain⟨o,g,_⟩:=d.isList
   exact Jw (Jm g)
  refine⟨s.heap.objs.size,_,_,_,_,_,fun i=>bs.getD i false,rfl,Walks.list (A:=X.A.in1) (prog:=X.prog) (w:=X.w) (show X.A.in1.handled=none from I.ok.hd n) s.heap.objs.size p a (bs.map Value.bool).toArray,⟨⟨_,Jx _ rfl,rfl,rfl⟩,?_⟩,fun i v s' Q' E' j l=>?_,fun h' tk m=>?_⟩
  ·exact d.isList.at fun o e=>Jj _ e
  ·have hi:(bs.map Value.bool).toArray[i]?=some v:=j
   rw[List.getElem?_toArray,JG] at hi
   cases e:bs[i]? with
   |none=>rw[e] at hi;cases hi
   |some b=>
    rw[e] at hi
    cases hi
    refine Kn ?_
    have:bs.getD i false=b:=by simp[Kb,e]
    rw[<-this];exact l
  ·first|rw[f,wY]|rw[f,wI]
   refine⟨.bl _,H,I.kept (t':=tk) fun b o e=>m b o ?_ (Jj _ e),rfl,q⟩
   intro x
   have:b=s.heap.objs.size:=by simpa using x
   exact absurd (Jm e) (by rw[this];exact Km _)
theorem kG (a:X.calm=true):cI X (.builtin "any") (fun xs H Q=>∃(p:Addr) (bs:List Bool),xs=[.ref p]/\aH X.K H p (bs.map V.bl)/\Q (.bl (bs.any id)) H):=(vg a).1
theorem BI (a:X.calm=true):cI X (.builtin "all") (fun xs H Q=>∃(p:Addr) (bs:List Bool),xs=[.ref p]/\aH X.K H p (bs.map V.bl)/\Q (.bl (bs.all id)) H):=(vg a).2
theorem cV(b:Gl X x)(h:∃u,X.mg x=some u/\aQ v u)(hd:(x==("__debug__" :Str))=false:=by decide):PE X (.Name x pos) (tC v):=by
 obtain⟨u,a,r⟩:=h
 exact uB b a r hd
theorem wL:cI X (.type "int") (fun xs H Q=>∃x n,xs=[.str x]/\PySem.intText? x=some n/\x.length<=640/\Q (.int n) H):=by
 intro pins s σ H xs us Q I r h
 obtain⟨x,n,rfl,a,b,q⟩:=h
 obtain⟨u,rfl,t,rfl⟩:=df r
 exact PySem.W.KIN.call_text a b ⟨.int n,H,I.tok _,⟨_,rfl⟩,q⟩
end
section
variable {σ:St} {H:Hp} {ta tb:TE} {x y:Str} {a b:Bool}
theorem nH(b:Ev ta σ H (.str ⟨#[c]⟩))(a:Ev tb σ H (.str y)):Ev (fZ (fun x y H Q=>∃i j,x=.str i/\y=.str j/\Q (.bl (!(!(Builtin.Str.occurrences j i 0 j.length 1).isEmpty))) H) ta tb) σ H (.bl (!decide (c∈cp y))):=fun Q q=>b _ (a _ ⟨_,y,rfl,rfl,by rw[PySem.StrLaws.found_one];exact q⟩)
theorem zM(b:Ev ta σ H (.str ⟨#[c]⟩))(a:Ev tb σ H (.str y)):Ev (fZ (fun x y H Q=>∃i j,x=.str i/\y=.str j/\Q (.bl (!(Builtin.Str.occurrences j i 0 j.length 1).isEmpty)) H) ta tb) σ H (.bl (decide (c∈cp y))):=fun Q q=>b _ (a _ ⟨_,y,rfl,rfl,by rw[PySem.StrLaws.found_one];exact q⟩)
theorem jA (b:Ev ta σ H (.str x))(a:Ev tb σ H (.str y)):Ev (fZ Hw ta tb) σ H (.bl (decide (x=y))):=fun Q q=>b _ (a _ ⟨rfl,by
 have e:decide (V.str x=V.str y)=decide (x=y):=by
  rcases Decidable.em (x=y) with h|h
  ·rw[h,decide_eq_true rfl,decide_eq_true rfl]
  ·rw[decide_eq_false h,decide_eq_false fun z=>h (V.str.inj z)]
 rw[e];exact q⟩)
theorem ev_neS (b:Ev ta σ H (.str x))(a:Ev tb σ H (.str y)):Ev (fZ Hx ta tb) σ H (.bl (!decide (x=y))):=fun Q q=>b _ (a _ ⟨rfl,by
 have e:decide (V.str x=V.str y)=decide (x=y):=by
  rcases Decidable.em (x=y) with h|h
  ·rw[h,decide_eq_true rfl,decide_eq_true rfl]
  ·rw[decide_eq_false h,decide_eq_false fun z=>h (V.str.inj z)]
 rw[e];exact q⟩)
theorem uk(e:Ev ta σ H (.str x))(a:Ev tb σ H (.int i))(b:x.length<=sizeLine)(d:jW (cp x) i=some c):Ev (fZ Hg ta tb) σ H (.str ⟨#[c]⟩):=fun _ q=>e _ (a _ ⟨x,i,c,rfl,rfl,b,d,q⟩)
theorem kj (b:Ev ta σ H (.str x))(a:x.length<=sizeLine){K:Je}:Ev (oC (fun xs H Q=>∃x n,xs=[x]/\AF K x H n/\Q (.int n) H) (b_ ta eG)) σ H (.int (x.length:Nat)):=fun _ q=>b _ ⟨_,_,rfl,⟨a,rfl⟩,q⟩
end
theorem rp:∀{ts:List Str} {us:List Value},aS (ts.map V.str) us->∃l:List (Str×Tok),us=strValues l/\l.map (·.1)=ts
 |[],_,.nil=>⟨[],rfl,rfl⟩
 |t::r,_,.cons q s=>by
  obtain⟨tk,rfl⟩:=q
  obtain⟨l,rfl,e⟩:=rp s
  exact⟨(t,tk)::l,rfl,by rw[Jr,e]⟩
theorem mV:∀l:List (Str×Tok),aS ((l.map (·.1)).map V.str) (strValues l)
 |[]=> .nil
 |(x,t)::r=> .cons ⟨t,rfl⟩ (mV r)
section
variable {X:Cx}
theorem lK:DN X "str.split" (fun x vs H Q=>∃z y,x=.str z/\vs=[.str y]/\0<y.length/\z.length+2<=sizeLine/\∀l,H l=none->Q (.ref l) (upd H l (.lst ((Txt.split z y).map V.str)))):=by
 intro pins s σ H x xs v us Q I j A h
 obtain⟨z,y,rfl,rfl,B,d,q⟩:=h
 obtain⟨t,rfl⟩:=j
 obtain⟨u,rfl,n,rfl⟩:=df A
 obtain⟨m,f,_⟩:=id I.loc
 have g:s.heap.get? s.heap.objs.size=none:=Lw (Jg _)
 refine splitN1 (h₀:=Att.noObjs s.heap) (L:=X.env.locals) (m:=m) (news:=ip (Att.noObjs s.heap) s.heap X.env.locals) (Att.fr_all f) lE (beq_eq_false_iff_ne.mpr (by omega)) (fun l h' k e F' N'=>?_) d
 refine⟨.ref s.heap.objs.size,_,I.laidN (t':=k) (a:=s.heap.objs.size) (o:=.lst ((Txt.split z y).map V.str)) (fun b p i r=>(N' (b,p) (Jq _ (fL i (Att.noObjs_get _ _) r))).1) (fun w c=>?_) g ?_,rfl,q _ (I.hok.none_of g)⟩
 ·have:w=m:=sM c f
  rw[this];exact F'.ns
 ·refine⟨?_,_,0,?_,(N' (s.heap.objs.size,_) Jp).1⟩
  ·rw[Jd];exact Jn (split_le z y) d
  ·rw[<-e];exact mV l
theorem uP:DN X "str.join" (fun x vs H Q=>∃z p ts,x=.str z/\vs=[.ref p]/\aH X.K H p (ts.map V.str)/\JoinOk z ts=true/\Q (.str (Txt.join z ts)) H):=by
 intro pins s σ H x xs v us Q I c d h
 obtain⟨z,p,ts,rfl,rfl,m,a,q⟩:=h
 obtain⟨t,rfl⟩:=c
 obtain⟨u,rfl,f⟩:=df d
 cases f
 obtain⟨b,j,i,n⟩:=I.list m
 obtain⟨l,rfl,e⟩:=rp j
 exact SC.join i.isList e a fun g k=>⟨.str _,H,I.tok _,⟨g,rfl⟩,q⟩
theorem pq:DN X "str.partition" (fun x vs H Q=>∃z y,x=.str z/\vs=[.str y]/\0<y.length/\z.length<=sizeLine/\∀l,H l=none->Q (.ref l) (upd H l (.tup [.str (Txt.partition z y).1,.str (Txt.partition z y).2.1,.str (Txt.partition z y).2.2]))):=by
 intro pins s σ H x xs v us Q I i w h
 obtain⟨z,y,rfl,rfl,A,f,q⟩:=h
 obtain⟨t,rfl⟩:=i
 obtain⟨u,rfl,j,rfl⟩:=df w
 obtain⟨m,d,_⟩:=id I.loc
 have e:s.heap.get? s.heap.objs.size=none:=Lw (Jg _)
 refine partitionN (h₀:=Att.noObjs s.heap) (L:=X.env.locals) (m:=m) (news:=ip (Att.noObjs s.heap) s.heap X.env.locals) (Att.fr_all d) lE (beq_eq_false_iff_ne.mpr (by lia)) (fun ta tb tc h' k F' N'=>?_) f
 refine⟨.ref s.heap.objs.size,_,I.laidN (t':=k) (a:=s.heap.objs.size) (o:=.tup _) (fun b n g p=>(N' (b,n) (Jq _ (fL g (Att.noObjs_get _ _) p))).1) (fun r c=>?_) e ?_,rfl,q _ (I.hok.none_of e)⟩
 ·have:r=m:=sM c d
  rw[this];exact F'.ns
 ·exact⟨by show 3<=sizeLine;decide,_,.cons ⟨ta,rfl⟩ (.cons ⟨tb,rfl⟩ (.cons ⟨tc,rfl⟩ .nil)),_,(N' (s.heap.objs.size,_) Jp).1,rfl,_,rfl⟩
end
noncomputable def jl (c:Nat):List (List Nat)->List Nat
 |[]=>[]
 |[p]=>p
 |p::q::r=>p++c::jl c (q::r)
theorem eP{r:List (List Nat)}(h:r≠[]):jl c (p::r)=p++c::jl c r:=by
 cases r with
 |nil=>exact absurd rfl h
 |cons q t=>rfl
theorem Fo:∀{P R:List (List Nat)},P≠[]->R≠[]->(∀p∈P,c∉p)->(∀p∈R,c∉p)->jl c P=jl c R->P=R:=by
 have g:∀{a b x y:List Nat},c∉a->c∉b->a++c::x=b++c::y->a=b/\x=y:=by
  intro a
  induction a with
  |nil=>
   intro b x y _ o e
   cases b with
   |nil=>exact⟨rfl,(List.cons.inj e).2⟩
   |cons d t=>
    have:=(List.cons.inj e).1
    exact absurd (by rw[this];exact Jp) o
  |cons d t ih=>
   intro b x y ha o e
   cases b with
   |nil=>
    have:=(List.cons.inj e).1
    exact absurd (by rw[<-this];exact Jp) ha
   |cons d' t'=>
    obtain⟨m,n⟩:=List.cons.inj e
    obtain⟨h1,h2⟩:=ih (fun z=>ha (Jq _ z)) (fun z=>o (Jq _ z)) n
    exact⟨by rw[m,h1],h2⟩
 have f:∀{a b x:List Nat},c∉a->a≠b++c::x:=fun ha e=>ha (by rw[e];simp)
 intro P
 induction P with
 |nil=>intro R h;exact absurd rfl h
 |cons p r ih=>
  intro R _ s l i e
  cases R with
  |nil=>exact absurd rfl s
  |cons q t=>
   by_cases h1:r=[]<;>by_cases h2:t=[]
   ·subst h1;subst h2
    rw[show p=q from e]
   ·subst h1
    rw[eP h2] at e
    exact absurd e (f (l p Jp))
   ·subst h2
    rw[eP h1] at e
    exact absurd e.symm (f (i q Jp))
   ·rw[eP h1,eP h2] at e
    obtain⟨m,n⟩:=g (l p Jp) (i q Jp) e
    rw[m,ih h1 h2 (fun x j=>l x (Jq _ j)) (fun x j=>i x (Jq _ j)) n]
theorem p3 (c:Nat):∀ts:List Str,cp (Str.join ⟨#[c]⟩ ts)=jl c (ts.map cp)
 |[]=>by unfold Str.join;rfl
 |[x]=>by unfold Str.join;rfl
 |x::y::r=>by
  have a:=p3 c (y::r)
  rw[Jr,eP (by simp),<-a]
  show cp (x++(⟨#[c]⟩:Str)++Str.join ⟨#[c]⟩ (y::r))=_
  rw[fX,fX,JJ]
  rfl
theorem qK (x:Str)(c:Nat){P:List (List Nat)}(h:P≠[])(b:∀p∈P,c∉p)(e:cp x=jl c P):(Txt.split x ⟨#[c]⟩).map cp=P:=by
 have a:(Txt.split x ⟨#[c]⟩)≠[]:=fun z=>by have:=split_pos x ⟨#[c]⟩;rw[z] at this;simp at this
 refine Fo (c:=c) (by simpa using a) h (fun p f=>?_) b ?_
 ·obtain⟨y,d,rfl⟩:=Jk.mp f
  exact PySem.StrLaws.split_free x c y d
 ·rw[<-p3,PySem.StrLaws.join_split,e]
theorem rW (c:Nat)(ts:List Str):cp (Txt.join ⟨#[c]⟩ ts)=jl c (ts.map cp):=by
 have b:∀(r:List Str) (d:Array Nat),(r.foldl (fun d p=>d++(⟨#[c]⟩:Str).cps++p.cps) d).toList=d.toList++(r.flatMap fun p=>c::cp p):=by
  intro r
  induction r with
  |nil=>intro d;simp
  |cons y t ih=>
   intro d
   rw[J8,ih]
   simp
 have a:∀(r:List Str) (x:List Nat),x++(r.flatMap fun p=>c::cp p)=jl c (x::r.map cp):=by
  intro r
  induction r with
  |nil=>intro x;simp[jl]
  |cons y t ih=>
   intro x
   rw[Jr,eP (by simp),<-ih,List.flatMap_cons]
   simp
 cases ts with
 |nil=>rfl
 |cons x r=>
  show((r.foldl (fun d p=>d++(⟨#[c]⟩:Str).cps++p.cps) x.cps)).toList=_
  rw[b]
  exact a r (cp x)
end L2
namespace L2
open PySem PySem.Spec PyProof.Rows
open AutoSeq1 (wpAny_loadPart')
section
variable {prog:Program} {w:World} {A:Around} {E:Value->Shared->Prop} {s:Shared}
theorem By{rest:List Value}{d:List (Str×Value)}(g:typeLookup (.type T) "__init__" =pure (some (.builtin "object.__init__")))
  (f:Bind.madeBy (.type T)=pure (some newId)) (c:(some newId !=some "object.__new__")=true):
  Meets (Builtin.«object.__init__» ⟨self::a::rest,d⟩) (fun _ R s=>s.TypeIs self T/\R (.ok (.ret .none)) s):=by
 refine Meets.of_wp fun prog w A R s e=>?_
 obtain⟨h,b⟩:=e
 repeat (any_goals (first|assumption|wp_step))
 exact⟨_,rfl,b⟩
theorem xj{D:Builtin}{u:List (Str×Value)}{S:PySem.Spec}(o:TypeCalled T newId "object.__init__")
  (y:(some newId !=some "object.__new__")=true) (G:checkTypeCall T ⟨a::args,u⟩=pure ()) (x:checkBuiltinCall newId ⟨.type T::a::args,u⟩=pure ())
  (z:∀m,argsOk "object.__init__" ⟨m::a::args,u⟩) (p:entryFor table newId=some D) (g:Meets (D ⟨.type T::a::args,u⟩) S)
  (h:S A.in1 (wants (fun m n=>n.TypeIs m T/\Q m n) E) s):wpAny (model prog w) A (call (.type T) (a::args) u) Q E s:=by
 obtain⟨c,tl,d⟩:=o.mro
 have b:=o.made
 have f:=o.sub
 refine wpAny_call (codeAny_of_tree ?_)
 show wpAny _ _ (callAny (.type T) _) _ _ _
 refine Jf ⟨Code.quiet_builtin _ (by decide+kernel),codeAny_builtin F.entry_type_call ?_⟩
 rw[Around.under_plain (weight_type_call_type T (a::args) u) (units_type_call_type T (a::args) u)]
 have h1:=o.notType
 have h2:=o.canCreate
 repeat (any_goals (first|assumption|wp_step))
 refine codeAny_mono (codeAny_call_builtin o.plain p (wpAny_of_eq x (g prog w A.in1 _ s h))) fun r n hr=>?_
 match r,hr with
 | .error e,hr=>exact hr
 | .ok (.ret m),hr=>
  obtain⟨C,B⟩:=hr
  have j:=o.init.lookup
  have i:=o.init.bind m
  repeat (any_goals (first|assumption|wp_step))
  refine codeAny_mono (codeAny_call_builtin o.init.plain F.entry_object_init (o.init.check _ _ _ _ _ _ _ _ C (z m) (By o.init.lookup o.made y prog w A.in1 _ n ⟨C,(show wants (fun r q=>r=.none/\Q m q) E (.ok (.ret .none)) n from⟨rfl,B⟩)⟩))) fun v q l=>?_
  match v,l with
  | .error e,l=>exact l
  | .ok (.ret r),l=>
   obtain⟨rfl,B⟩:=l
   repeat (any_goals (first|assumption|wp_step))
end
set_option tactic.hygienic true in
theorem xU (l:Addr)(items:Array Value)(n:Nat)(e:Option Addr)(i:Array (Option Value))(t:Tok):
  Meets (Builtin.«enumerate.__new__» ⟨[.type "enumerate",.ref l],[("start",.int 1 t)]⟩) (fun _ R s=>s.heap.get? l=some {cls:=.type "list",dict:=e,data:=.seq items n,slots:=i}/\
   R (.ok (.ret (.ref (s.heap.push {cls:=.type "list_iterator",data:=.fields #[.ref l,.int 0 0]}).objs.size)))
    {s with heap:=(s.heap.push {cls:=.type "list_iterator",data:=.fields #[.ref l,.int 0 0]}).push {cls:=.type "enumerate",data:=.fields #[.none,.bool false,.ref s.heap.objs.size,rawInt 1,.none,.none]}}):=
 .of_wp fun prog w A R s h=>by
  obtain⟨j,g,d,tk,os⟩:=s;obtain⟨a,h⟩:=h
  have f:=sub_enumerate
  have b:Heap.IsList (Shared.heap ⟨j,g,d,tk,os⟩) l items:=⟨_,a,rfl,n,rfl⟩
  wp_walk using wpAny_loadPart' a
  refine wpAny_stack_any fun st=>Jf ?_
  split
  ·rename_i c _ _ _ _ _
   cases(c==Value.type "enumerate")
   ·wp_walk using wpAny_loadPart' a,KP b
    exact⟨_,rfl,h⟩
   ·wp_walk using wpAny_loadPart' a,KP b
    exact⟨_,rfl,h⟩
  ·wp_walk using wpAny_loadPart' a,KP b
   exact⟨_,rfl,h⟩
theorem tK(p:s.heap.IsList l items)
  (h:∀h',IsEnum h' (s.heap.objs.size+1) s.heap.objs.size 1 .none->h'.IsListIter s.heap.objs.size l 0->
   (∀b o,s.heap.get? b=some o->h'.get? b=some o)->Q (.ref (s.heap.objs.size+1)) {s with heap:=h'}):
  wpAny (model prog w) A (call (.type "enumerate") [.ref l] [("start",.int 1 t)]) Q E s:=by
 obtain⟨⟨c,a,j,i⟩,m,d,n,hd⟩:=p
 replace d:c=.type "list" :=d
 replace hd:j=.seq items n:=hd
 subst d hd
 refine xj F.called_enumerate (by decide) (by kernel_rfl) (by kernel_rfl) (fun g=>by kernel_rfl) F.entry_enumerate_new (xU l items n a i t) ⟨m,?_⟩
 have e:(s.heap.push {cls:=.type "list_iterator",data:=.fields #[.ref l,.int 0 0]}).objs.size=s.heap.objs.size+1:=J6 ..
 show _/\_
 rw[e]
 have f:IsEnum ((s.heap.push {cls:=.type "list_iterator",data:=.fields #[.ref l,.int 0 0]}).push
   {cls:=.type "enumerate",data:=.fields #[.none,.bool false,.ref s.heap.objs.size,rawInt 1,.none,.none]}) (s.heap.objs.size+1) s.heap.objs.size 1 .none:=by
  rw[<-e];exact Jx _ rfl
 exact⟨⟨_,f,rfl⟩,h _ f ⟨_,Jj _ (Jx _ rfl),rfl,rfl⟩ fun b o x=>Jj _ (Jj _ x)⟩
theorem Bs (c:Nat){prog:Program}{w:World}{A:Around}{it:Addr}{fp:List Addr}{n:Nat}{P:Nat->Value->Prop}{St:Nat->Heap->Prop}(D:Draws prog w A it fp n P St):
  Draws prog w A it fp (n+c) (fun j v=>∃i,j=i+c/\P i v) (fun j h=>∃i,j=i+c/\St i h) where
 live:=fun j h ⟨i,_,st⟩=>D.live i h st
 frame:=fun j h h' ⟨i,e,st⟩ k=>⟨i,e,D.frame i h h' st k⟩
 item:=fun j s Q E g ⟨i,e,st⟩ b=>by
  subst e
  exact D.item i s Q E (by lia) st fun x h' tk p a sb=>b x h' tk ⟨i,rfl,p⟩ ⟨i+1,by lia,a⟩ sb
 done:=fun s Q E ⟨i,e,st⟩ f=>by
  have d:n=i:=by lia
  subst d
  exact D.done s Q E st f
theorem aI.turnedLaid {X:Cx}{g:List (Addr×Obj)}{j:St}{H:Hp}{s:Shared}{h':Heap}{t':Nat}{a:Addr}{o:HO}{fp:List Addr}(I:aI X g j H s)(i:∀b∈fp,js X g H b)
  (k:∀b u,b∉fp->s.heap.get? b=some u->h'.get? b=some u) (l:s.heap.get? a=none) (new:bM X.prog X.w (upd H a o) h' a o):aI X g j (upd H a o) {s with heap:=h',toks:=t'}:=by
 have d:H a=none:=I.hok.none_of l
 have sy:∀b u,H b=some u->b∉fp:=fun b u e z=>by rw[(i b z).1] at e;cases e
 have f:∀b u,s.heap.get? b=some u->b≠a:=fun b u e z=>by rw[z,l] at e;cases e
 refine I.step (g':=s.gens) (d':=s.drawn) (ch:=fp) (fun b h=>⟨(i b h).2.2.2.1,(i b h).2.1,(i b h).2.2.2.2.1,(i b h).2.2.2.2.2⟩) (fun b u _ _ hc e _=>k b u hc e) (fun b u _ _ hc e _=>⟨u.slots,k b u hc e⟩) (fun b u _ e n=>by rw[ak (f b u e)];exact n)
  (fun b u hc e=>⟨u,k b u hc e⟩) (fun b xs e=>by rw[ak (ar e d)];exact e) (fun b u xs e=>by rw[ak (ar e d)];exact e) (fun b ps e=>⟨#[],by rw[ak (ar e d),e];simp⟩) (fun m x=>?_) (fun b u e=>?_) I.bare
 ·obtain⟨o',es,ep,p,r⟩:=x
  exact⟨o',es,ep,k _ o' (fun z=>(i _ z).2.1 rfl) p,r⟩
 ·by_cases h:b=a
  ·subst h;rw[ae] at e;cases e;exact new
  ·rw[ak h] at e
   refine(I.hok b u e).stay (fun c v hc q=>k c v ?_ q) (fun c q=>by rw[ak (ar q d)];exact q) fun c xs q=>by rw[ak (ar q d)];exact q
   rcases hc with rfl|hc
   ·exact sy _ _ e
   ·exact sy _ _ hc
noncomputable def Fp (c:Nat) (K:Je) (a:Addr):It:=
 ⟨fun i H=>∃xs x,aH K H a xs/\xs[i]?=some x,fun i H x H'=>∃p y,H p=none/\x=.ref p/\H'=upd H p (.tup [.int ((i+c:Nat):Int),y])/\∀xs,aH K H a xs->xs[i]?=some y,fun i H=>∃xs,aH K H a xs/\xs.length<=i⟩
theorem mE (c:Nat){P:Program}{w:World}{K:Je}{am:List Expr}{x1:Nat}{bi:Pos}(a e it:Addr)(ac:e≠it):kP P w K (.Tuple am x1 bi) (Fp c K a) [e,it] e (fun i h=>(∃Z,IsEnum h e it ((i+c:Nat):Int) Z)/\h.IsListIter it a i) where
 mem:=by simp
 obj:=fun i h st b hb=>by
  obtain⟨⟨Z,he⟩,o,ho,hc,hd⟩:=st
  rcases Jo.mp hb with rfl|hb
  ·exact⟨_,he,fun v z=>by
    have z':Data.fields _=Data.cell v:=z
    cases z'⟩
  ·rw[Jv.mp hb]
   exact⟨o,ho,fun v z=>by rw[hd] at z;cases z⟩
 keep:=fun i h h' ⟨⟨Z,he⟩,st⟩ k=>⟨⟨Z,k e (by simp) _ he⟩,st.at fun o q=>k it (by simp) o q⟩
 item:=by
  intro X hP hw hK hc i pins s σ H E I hf st hg
  subst hP hw hK
  obtain⟨xs,x,hq,hx⟩:=hg
  obtain⟨⟨Z,he⟩,g⟩:=st
  obtain⟨d,rv,p,hz⟩:=I.list hq
  obtain⟨u,hu,ru⟩:=rv.get hx
  have hl:s.heap.IsList a d.toArray:=p.isList
  obtain⟨ol,f,l,_⟩:=id hl
  obtain⟨oi,m,r,_⟩:=id g
  have M:a≠it:=fun z=>by
   rw[z,m] at f;cases f
   rw[r] at l;exact absurd l (by decide)
  have J:a≠e:=fun z=>by
   rw[z,he] at f;cases f
   exact absurd (show Value.type "enumerate" =Value.type "list" from l) (by decide)
  have D:=Bs c (Draws.list (prog:=X.prog) (w:=X.w) (A:=X.A.in1) (I.ok.hd hc) it a M d.toArray)
  have Y:i<d.length:=(JE.mp hu).1
  have B:e<s.heap.objs.size:=Jm he
  have O:it<s.heap.objs.size:=Jm m
  have nT:s.heap.get? s.heap.objs.size=none:=Lw (Jg _)
  refine wpAny_pyNext_enum_itemD D he ⟨i,rfl,g,hl⟩ (by simp;omega) ac (by simp[ac,JH J]) fun x' h' tk hP ho be hT bt hk=>⟨_,rfl,?_⟩
  refine wpAny_letOwnedTupleGo_enum (s:={s with heap:=h',toks:=tk+1}) ho fun h2 a5 sb=>?_
  replace sb:Heap.SameBut e h' h2:=sb
  obtain⟨i',ei,C⟩:=hP
  have G:i'=i:=by omega
  subst G
  have eu:x'=u:=by
   have:d.toArray[i']?=some u:=by simpa using hu
   rw[this] at C;exact(Option.some.inj C).symm
  subst eu
  obtain⟨j,ej,U⟩:=be
  have Q:j=i'+1:=by omega
  subst Q
  have R:h2.get? s.heap.objs.size=some {cls:=.type "tuple",data:=.seq #[.int ((i'+c:Nat):Int) tk,x']}:=(sb.2 _ (KN B)).trans hT
  refine⟨.ref s.heap.objs.size,upd H s.heap.objs.size (.tup [.int ((i'+c:Nat):Int),x]),aI.turnedLaid (s:=s) (h':=h2) (fp:=[e,it]) (t':=tk+1) I hf (fun b v hb q=>?_) nT ?_,rfl,⟨_,x,I.hok.none_of nT,rfl,rfl,fun ys hy=>by rw[I.list_inj hy hq];exact hx⟩,⟨⟨x',?_⟩,?_⟩,fun b hb=>?_⟩
  ·have n:b≠e:=fun z=>hb (by simp[z])
   exact(sb.2 b n).trans (hk b v n (fun z=>hb (by simp[z])) q)
  ·exact⟨by show 2<=sizeLine;decide,_,.cons ⟨tk,rfl⟩ (.cons ru .nil),_,R,rfl,_,rfl⟩
  ·have:((i'+1+c:Nat):Int)=((i'+c:Nat):Int)+1:=by omega
   rw[this];exact a5
  ·exact U.1.at fun o q=>(sb.2 it (JH ac)).trans q
  ·have N:b<s.heap.objs.size:=by
    rcases Jo.mp hb with rfl|hb
    ·exact B
    ·rw[Jv.mp hb];exact O
   rw[ak (Jw N)];exact(hf b hb).1
 done:=by
  intro X hP hw hK hc i pins s σ H E I hf st hg
  subst hP hw hK
  obtain⟨xs,hq,hx⟩:=hg
  obtain⟨⟨Z,he⟩,g⟩:=st
  obtain⟨d,rv,p,hz⟩:=I.list hq
  have W:=rv.length
  have hl:s.heap.IsList a d.toArray:=p.isList
  obtain⟨ol,f,l,_⟩:=id hl
  obtain⟨oi,m,r,_⟩:=id g
  have hT:s.TypeIs (.ref e) "enumerate" :=⟨_,he,rfl⟩
  obtain⟨f0,f1,f2,f3,f4,f5⟩:=hf it (by simp)
  unfold pyNext
  refine Jc (Ku (KF (name:=Str.ofString "__next__") hT F.slot_enumerate_next
   (JY F.slot_enumerate_next hT F.entry_enumerate_next ?_ (F.args_enumerate_next_1 _))))
  show wpAny _ _ (field (.ref e) 2>>=_) _ _ _
  refine Jc (J1 he rfl (x:=.ref it) rfl ?_)
  refine Jc (wpAny_nextOf_list_end (I.ok.hd hc) g hl (by simp;omega) fun h' y eb hy=>?_)
  obtain⟨o,ho,S⟩:=hy
  refine Jc (Lb (T:= "StopIteration") (b:=true) ⟨o,ho,S⟩ isSubtype_stop ?_)
  exact Jf ⟨rfl,I.turned (t':=s.toks) (fun b o hb e=>eb b o hb e) f0 f1 f3 f4 f5⟩
 self:=fun _ _ _ _ _ ⟨⟨_,he⟩,_⟩ h=>wpAny_pyIter_enum he h
def GW (K:Je) (tl:TA):TI:=fun σ H R=>tl σ H fun vs H1=>∃a,vs=[.ref a]/\(∃xs,aH K H1 a xs)/\R (Fp 1 K a) H1
theorem iw{c:List (Bool×Sem Value)}{b:List (Option Str×Sem Value)}
  (d:c.any (·.1)=false) (g:b.any (·.1.isNone)=false)
  (h:wpAny M A (evalArgs (.type T) true c b) (fun a e=>wpAny M A (call (.type T) a.pos a.kw) Q E e) E s):
  wpAny M A (callWith pos (.type T) [] c b) Q E s:=by
 unfold callWith
 refine Jc (JV (JU h (fun a e f=>Jc (wpAny_standAt ?_)) fun _ _ x=>x))
 simp only[d,g,Bool.or_false]
 refine Jc (Jf ?_)
 exact Jc (JU f (fun r i hr=>Jc (JV (wpAny_point (Jf hr)))) fun _ _ x=>x)
section
variable {X:Cx}
theorem Bw(y:Gl X "enumerate")(D:X.mg "enumerate" =none)(n:bootBuiltins "enumerate" =some (.type "enumerate"))(w:PA X [l] ta)
  (A:starEach [l] X.env=[(false,eval l X.env)]:=by rfl):
  PI X (.Tuple elts x1 pt) (.Call (.Name "enumerate" p) [l] [⟨some "start",.Constant (.int 1) k pc,kp⟩] pos) (GW X.K ta):=by
 intro pins s σ H R I h
 refine K7 (gF I y D n ?_ (by decide) (by decide))
 have d:=w pos pins s σ H _ I h
 rw[A] at d|-
 refine iw rfl rfl (evalArgs_kwB (rest:=[]) rfl (bZ d fun us j ⟨vs,H1,I1,G,o⟩=>?_))
 obtain⟨a,rfl,⟨xs,z⟩,q⟩:=o
 obtain⟨u,rfl,r⟩:=df G
 cases r
 refine kws_cons (bZ (ag pins j σ H1 (fun v H'=>v=.int 1/\H'=H1) I1 ⟨rfl,rfl⟩) fun v f ⟨x,H2,I2,F,m,C⟩=>?_)
 subst m C
 obtain⟨t,rfl⟩:=F
 refine kws_nil ?_
 obtain⟨e,M,E,J⟩:=I2.list z
 refine tK E.isList fun h' i g B=>?_
 refine wpAny_pyIter_enum (s:={f with heap:=h'}) i ?_
 refine⟨f.heap.objs.size+1,[f.heap.objs.size+1,f.heap.objs.size],_,_,H2,rfl,I2.kept (t':=f.toks) B,mE 1 a _ _ (Nat.succ_ne_self _),⟨⟨_,i⟩,g⟩,fun b hb=>?_,q⟩
 have c:f.heap.objs.size<=b:=by
  rcases Jo.mp hb with rfl|hb
  ·exact Nat.le_succ _
  ·rw[Jv.mp hb];exact Jg _
 exact I2.fpOk c (I2.hok.fresh c)
theorem yW {K:Je}{a:Addr}{xs:List V}{j:St}{g:TG}{l:TT}{o:TE}{n:Hp}{D:Addr}{Q:Hp->Prop}(f:Nat->St->Hp->Prop)(h0:f 0 j (upd n D (.lst [])))
  (B:∀i c H,i<=xs.length->f i c H->aH K H a xs)
  (w:∀i y p c H,xs[i]?=some y->f i c H->H p=none->g (.ref p) c (upd H p (.tup [.int ((i+1:Nat):Int),y])) fun d H2=>l d H2 fun b H3=>
   if b=true then o d H3 fun v H4=>∃h,H4 D=some (.lst h)/\h.length<sizeLine/\f (i+1) d (upd H4 D (.lst (h++[v]))) else f (i+1) d H3)
  (hd:∀c H,f xs.length c H->Q H):sI j g l o (Fp 1 K a) n D Q:=by
 refine⟨fun i m c H=>m=xs.length - i/\i<=xs.length/\f i c H,⟨xs.length,by simp,JA _,h0⟩,?_⟩
 rintro i m c H ⟨rfl,hi,p⟩
 have q:=B i c H hi p
 by_cases hlt:i<xs.length
 ·refine .inr ⟨⟨xs,xs[i],q,by simp[hlt]⟩,f (i+1),fun u H' r=>⟨xs.length - (i+1),by omega,rfl,hlt,r⟩,fun x H' y=>?_⟩
  obtain⟨P,z,A,rfl,rfl,s⟩:=y
  exact w i z P c _ (s xs q) p A
 ·have e:i=xs.length:=by omega
  subst e
  exact .inl ⟨⟨xs,q,Jg _⟩,hd c H p⟩
theorem wA {K:Je}(e:X.K=K):cI X (.builtin "len") (fun xs H Q=>∃x n,xs=[x]/\AF K x H n/\Q (.int n) H):=by subst e;exact aV
theorem ie {b:Pos}{K:Je}{es:List Expr}{k:Nat}{t:Gf}{n:Nat}(c:X.calm=true)(e:X.K=K)(h:GC X es t)
  (d:(assignEach es X.env).length=n) (a:(assignEach es X.env).findIdx? (·.1)=none):PG X (.Tuple es k b) (F8 K n t):=by subst e;exact dS c h d a
theorem uJ (a:Array Nat):∀(m:Nat) (b:Array Nat),((List.replicate m a).foldl (· ++ ·) b).toList=b.toList++(List.replicate m a.toList).flatten
 |0,b=>by simp
 |m+1,b=>by rw[KD,J8,uJ a m];simp[KD]
def Hf:R2:=fun x y H Q=>∃z k,x=.str z/\y=.int k/\0<=k/\k<=100/\z.length<=100/\∀r,cp r=(List.replicate k.toNat (cp z)).flatten->Q (.str r) H
theorem uN:gN X (binaryOp .Mult) Hf:=by
 intro pins s σ H x y v u Q I g c h
 obtain⟨z,k,rfl,rfl,h1,h2,b,q⟩:=h
 obtain⟨t,rfl⟩:=g
 obtain⟨j,rfl⟩:=c
 have i:z.length*k.toNat<=100*100:=Lm b (by lia)
 have f:z.length*k.toNat<=sizeLine:=Jn i (by decide)
 refine P.mul_str ?_ (fun _ _=>?_) (fun _ _=>?_) ?_
 ·rw[decide_eq_false (by lia),decide_eq_false (by lia)];rfl
 ·have:(100:Int)<=(2^63 - 1)/k:=by
   by_cases hk:k=0
   ·lia
   ·exact Int.le_ediv_of_mul_le (by lia) (by lia)
  lia
 ·unfold Builtin.Str.tooLong;exact decide_eq_false (by lia)
 ·by_cases h0:k<1
  ·rw[if_pos h0]
   have e:k=0:=by lia
   subst e
   exact⟨by decide,.str _,H,I.tok _,⟨_,rfl⟩,q _ rfl⟩
  ·rw[if_neg h0]
   split
   ·rename_i hh
    refine⟨.str z,H,I,⟨t,rfl⟩,q _ ?_⟩
    rcases LB .. |>.mp hh with hh|hh
    ·have e:k=1:=by simpa using hh
     subst e
     simp
    ·have e:z.length=0:=by simpa using hh
     have d:cp z=[]:=LD (by rw[JD];exact e)
     rw[d];simp
   ·have a:=uJ z.cps k.toNat #[]
    refine⟨?_,.str _,H,I.tok _,⟨_,rfl⟩,q _ (by simpa using a)⟩
    have:(List.replicate k.toNat (cp z)).flatten.length=k.toNat*(cp z).length:=Dx _ _
    show(KU (· ++ ·) #[] (List.replicate k.toNat z.cps)).size<=sizeLine
    rw[<-JD,a]
    simp only[List.nil_append,this,JD]
    rw[Nat.mul_comm];exact f
end
noncomputable def res:List (Bool×Bool)->Bool->Bool
 |[],z=>z
 |(true,_)::r,z=>res r z
 |(false,b)::_,_=>b
section
open PySem.SeqAt
open PySem.AutoSeq1 (wpAny_loadPart')
open PySem.MeetsSeq PySem.MeetsSeq2 PySem.MeetsSeq3
end
def IQ (K:Je) (H:Hp) (kd:Bool) (m:V) (l:List Int):Prop:=
 (kd=false/\∃i,m=.int i/\l=[i])\/(kd=true/\∃b i j,m=.ref b/\cn K H b [.int i,.int j]/\l=[i,j])
def Pr (K:Je) (H:Hp) (kd:Bool) (v:V) (k:List Int):Prop:=∃a p m l,v=.ref a/\cn K H a [.int p,m]/\IQ K H kd m l/\k=p::l
section
variable {X:Cx}
end
theorem iR {b:Type}(f:b->Int)(c:Int):∀(l:List b),(l.map f).Nodup->(l.filter fun x=>f x==c).length<=1
 |[],_=>by simp
 |a::r,h=>by
  rw[Jr,Ko] at h
  have g:=iR f c r h.2
  by_cases e:f a=c
  ·have z:(r.filter fun x=>f x==c)=[]:=by
    refine List.filter_eq_nil_iff.mpr fun x d q=>h.1 ?_
    rw[e]
    exact Jk.mpr ⟨x,d,by simpa using q⟩
   rw[LF (p:=fun x=>f x==c) (by simpa using e),z]
   exact Jg _
  ·rw[LG (p:=fun x=>f x==c) (by simpa using e)]
   exact g
section
variable {prog:Program} {w:World} {A:Around} {E:Value->Shared->Prop} {s:Shared}
theorem xc{Q:Bool->Shared->Prop}(a:s.TypeIs (.ref b) "tuple")(h:Q false s):wpAny (model prog w) A (Builtin.Dict.quietEq (.ref b)) Q E s:=by
 unfold Builtin.Dict.quietEq
 refine Jc (wpAny_specialOf a F.slot_tuple_eq.lookup (Jf ?_))
 exact h
theorem pP {id:String}{d:Addr}{o:Obj}{es:Array DictEntry}{ep:Nat}{Q:Array DictEntry->Shared->Prop}(g:s.heap.get? d=some o)(hd:o.data=.dict es ep)
  (i:∀e∈es,∃b,e.key=.ref b/\s.TypeIs (.ref b) "tuple") (m:(es.toList.map (·.hash)).Nodup) (h:Q es s):wpAny (model prog w) A (Builtin.Dict.entriesForEmpty id d) Q E s:=by
 unfold Builtin.Dict.entriesForEmpty
 refine Jc (KG g hd (Jc ?_))
 rw[<-Array.forIn_toList]
 refine wpAny_forIn_list _ (fun rest _ s'=>s'=s/\∀e∈rest,e∈es) _ ?_ ?_ _ _ ⟨rfl,fun e c=>Kz.mp c⟩
 ·rintro e rest u s' ⟨rfl,a⟩
  obtain⟨b,f,l⟩:=i e (a e Jp)
  rw[f]
  refine Jc (xc l ?_)
  rw[if_pos (by decide)]
  have one:¬(es.filter (·.hash==e.hash)).size>1:=by
   have:=iR (fun x:DictEntry=>x.hash) e.hash es.toList m
   rw[<-JD,Array.toList_filter]
   lia
  rw[if_neg one]
  exact Jf ⟨rfl,fun x j=>a x (Jq _ j)⟩
 ·rintro u s' ⟨rfl,_⟩
  exact Jf h
theorem wo{Q:Unit->Shared->Prop}(j:d≠o)(l:(o==sysModules)=false)
  (hd:s.heap.get? d=some od) (h:od.ExactDict) (c:od.data=.dict #[] ep') (i:s.heap.get? o=some oo) (f:oo.data=.dict es ep)
  (m:∀e∈es,∃b,e.key=.ref b/\s.TypeIs (.ref b) "tuple") (r:(es.toList.map (·.hash)).Nodup) (v:es.size<=sizeLine)
  (n:∀h',(∃o' g,h'.get? d=some o'/\o'.ExactDict/\o'.data=.dict es g)->Heap.SameBut d s.heap h'->Q () {s with heap:=h'}):
  wpAny (model prog w) A (Builtin.Dict.mergeDict nm d o) Q E s:=by
 unfold Builtin.Dict.mergeDict
 rw[if_neg (by simpa using j)]
 unfold Builtin.Dict.showsAll
 rw[if_neg (by rw[l];exact Ju)]
 refine Jc (Jf (Jc (KG i f ?_)))
 dsimp only
 by_cases he:es= #[]
 ·subst he
  rw[if_neg (by simp)]
  refine Jc (Ln i f (Jc (KG i f (Jc ?_))))
  rw[Std.Legacy.Range.forIn_eq_forIn_range']
  exact Jf (Jf (n s.heap ⟨od,ep',hd,h,c⟩ (Heap.SameBut.refl _ _)))
 ·have a:(decide (es.size<=8)&&es.all fun e=>(keyPart e.key).isSome)=false:=by
   rw[Bool.and_eq_false_iff]
   refine .inr (Bool.eq_false_iff.mpr fun z=>he ?_)
   rw[<-Array.all_toList,La] at z
   refine Array.eq_empty_of_size_eq_zero (Nat.eq_zero_of_not_pos fun u=>?_)
   have p:es[0]∈es:=Array.getElem_mem u
   obtain⟨b,q,_⟩:=m _ p
   have y:=z _ (Kz.mpr p)
   rw[q] at y
   exact absurd y Ju
  rw[a]
  rw[if_pos (by rfl)]
  refine Jc (KG hd c ?_)
  rw[if_pos (by rfl)]
  refine Jc (pP i f m r ?_)
  rw[if_pos (by simpa using he)]
  exact Jc (wpAny_updateDictKeysTo hd c (Jf (n _ ⟨_,ep'+1,KS _ hd (Obj.isFreed_of_dict (Obj.data_mapDictKeys c _)),h.mapDictKeys _,Obj.data_mapDictKeys c _⟩ (Heap.SameBut.update ..))) (by lia))
theorem mw(i:(o==sysModules)=false)(f:s.heap.get? o=some oo)(j:oo.ExactDict)(l:oo.data=.dict es ep)
  (q:∀e∈es,∃b,e.key=.ref b/\s.TypeIs (.ref b) "tuple") (B:(es.toList.map (·.hash)).Nodup) (n:es.size<=sizeLine)
  (h:∀h',(∃o' d,h'.get? s.heap.objs.size=some o'/\o'.ExactDict/\o'.data=.dict es d)->(∀b u,s.heap.get? b=some u->h'.get? b=some u)->Q (.ref s.heap.objs.size) {s with heap:=h'}):
  wpAny (model prog w) A (call (.type "dict") [.ref o]) Q E s:=by
 refine callType_codes (Q₁:=fun v c=>v=.ref s.heap.objs.size/\c={s with heap:=s.heap.push {cls:=.type "dict",data:=.dict #[]}}) F.kt_called_dict (F.kt_typeCall_dict_1 _) F.entry_dict_init (kt_code_dict_new _ ⟨rfl,rfl⟩) ?_
 rintro v c ⟨rfl,rfl⟩
 have keep:∀b u,s.heap.get? b=some u->(s.heap.push {cls:=.type "dict",data:=.dict #[]}).get? b=some u:=fun b u x=>Jj _ x
 have m:Shared.TypeIs {s with heap:=s.heap.push {cls:=.type "dict",data:=.dict #[]}} (.ref s.heap.objs.size) "dict" :=⟨_,Jx _ rfl,rfl⟩
 have g:Shared.TypeIs {s with heap:=s.heap.push {cls:=.type "dict",data:=.dict #[]}} (.ref o) "dict" :=⟨oo,keep _ _ f,j.1⟩
 have a:o<s.heap.objs.size:=Jm f
 refine⟨m,F.args_dict_init_2 _ _,?_⟩
 unfold Builtin.«dict.__init__»
 refine Jc ?_
 unfold Builtin.Dict.selfAndRest
 refine Jc (LY m ?_)
 show wpAny _ _ (pure (s.heap.objs.size,[Value.ref o])) _ _ _
 refine Jf ?_
 show wpAny _ _ (Builtin.Dict.updateFrom "dict.__init__" s.heap.objs.size (.ref o) [] .none) _ _ _
 unfold Builtin.Dict.updateFrom
 refine Jc (wpAny_typeOf g ?_)
 rw[if_neg (by decide)]
 refine Jc ?_
 unfold Builtin.Dict.merge
 refine Jc ?_
 unfold Builtin.Dict.readDirectly
 refine Jc (Lb g isSubtype_dict_dict ?_)
 simp only[Bool.not_true,KW,if_false]
 refine Jc (wpAny_specialOf g F.slot_dict_iter.lookup (Jf ?_))
 simp only[beq_self_eq_true,if_true]
 refine Jc (Jf ?_)
 refine wo (KN a) i (Jx _ rfl) ⟨rfl,rfl,rfl⟩ rfl (keep _ _ f) l (fun e p=>?_) B n fun h' new sb=>?_
 ·obtain⟨b,y,C,z,r⟩:=q e p
  exact⟨b,y,C,keep _ _ z,r⟩
 ·exact Jc (Jf (Jf ⟨rfl,h h' new fun b u x=>sb.extBut b u (Jw (Jm x)) (keep _ _ x)⟩))
end
def oS (P:Program) (w:World) (kvs:List (List cP×V)):Prop:=(kvs.map fun p=>tupleKeyHash (aY P w) p.1).Nodup
theorem KT.keys{kvs:List (List cP×V)}{xs:List (List cP×Addr×Value)}(r:KT H kvs xs):kvs.map (·.1)=xs.map (·.1):=by
 induction r with
 |nil=>rfl
 |cons h _ ih=>rw[Jr,Jr,ih,h.1]
section
variable {X:Cx} {pins:List (Addr×Obj)} {σ:St} {H:Hp} {s:Shared} {a:Addr} {A:Around} {E:Value->Shared->Prop}
theorem Cf {kvs:List (List cP×V)}(I:aI X pins σ H s)(e:Rd H a (.dT kvs))(r:oS X.prog X.w kvs)(h:∀p s',H p=none->aI X pins σ (upd H p (.dT kvs)) s'->Q (.ref p) s'):wpAny (model X.prog X.w) A (call (.type "dict") [.ref a]) Q E s:=by
 obtain⟨z,hd,xs,c,o,es,ep,m,v,d,j,g,C⟩:=nj I.hok e
 have J:es.size=xs.length:=size_of_entries j
 have i:kvs.length=xs.length:=Paired.length c
 refine mw hd m v d (fun x n=>?_) ?_ (by lia) fun h' new keep=>?_
 ·have D:x∈xs.map (entryOfKey (tupleKind (aY X.prog X.w))):=j▸Kz.mpr n
  obtain⟨y,G,rfl⟩:=Jk.mp D
  obtain⟨F,_,_,h1,h2,_⟩:=g y G
  exact⟨y.2.1,rfl,F,h1,h2⟩
 ·rw[j,Jt]
  have:xs.map ((fun x:DictEntry=>x.hash)∘entryOfKey (tupleKind (aY X.prog X.w)))=kvs.map fun p=>tupleKeyHash (aY X.prog X.w) p.1:=by
   have u:xs.map ((fun x:DictEntry=>x.hash)∘entryOfKey (tupleKind (aY X.prog X.w)))=(xs.map (·.1)).map (tupleKeyHash (aY X.prog X.w)):=by rw[Jt];rfl
   rw[u,<-c.keys,Jt];rfl
  rw[this];exact r
 ·obtain⟨o',f,h1,h2,B⟩:=new
  have l:H s.heap.objs.size=none:=I.hok.fresh (Jg _)
  refine h _ _ l (I.laid (a:=s.heap.objs.size) (o:=.dT kvs) (t':=s.toks) keep (Jg _) ⟨z,beq_eq_false_iff_ne.mpr (JH (Jw I.big)),xs,c.keeps fun b ys q=>?_,o',es,f,h1,h2,B,j,C⟩)
  rw[ak (ar q l)];exact q
end
noncomputable def Hh (P:Program) (w:World):List V->Hp->VK->Prop:=fun xs H Q=>∃a,xs=[.ref a]/\
 ((∃kvs,Rd H a (.dK kvs)/\∀p,H p=none->Q (.ref p) (upd H p (.dK kvs)))\/∃kvs,Rd H a (.dT kvs)/\oS P w kvs/\∀p,H p=none->Q (.ref p) (upd H p (.dT kvs)))
theorem wq:cI X (.type "dict") (Hh X.prog X.w):=by
 intro pins s σ H xs us Q I r h
 obtain⟨a,rfl,h⟩:=h
 obtain⟨u,rfl,d⟩:=df r
 cases d
 rcases h with ⟨kvs,e,q⟩|⟨kvs,e,c,q⟩
 ·exact zX I e fun p s' b I'=>⟨.ref p,_,I',rfl,q p b⟩
 ·exact Cf I e c fun p s' b I'=>⟨.ref p,_,I',rfl,q p b⟩
section
variable {prog:Program} {w:World} {K:Type} [DecidableEq K] {knd:HeapKind prog w K} {A:Around} {E:Value->Shared->Prop} {s:Shared}
end
section
variable {X:Cx}
end
section
variable {prog:Program} {w:World} {A:Around} {E:Value->Shared->Prop} {s:Shared} {I:Addr} {fp wr:List Addr} {G:Array GenState->Array GenState->Prop} {n:Nat} {P:Nat->Value->Prop} {St:Nat->Shared->Prop}
end
theorem bT.one(r:bT k A):A.units+1<cLine:=by have:=r.un;omega
theorem vS(c:Ev td σ H (.ref a))(b:Ev ty σ H y)(g:iE H a y (some v)):Ev (uH td ty) σ H v:=fun _ q=>c _ (b _ ⟨a,v,rfl,g,q⟩)
section
variable {X:Cx} {pins:List (Addr×Obj)} {σ:St} {H:Hp} {s:Shared} {d:Addr} {u:HO} {o:Obj}
theorem bM.upd(ok:bM P w H h b x)(a:∀xs,H d≠some (.tup xs))(no:∀y,H d≠some (.own y)):bM P w (L2.upd H d v) h b x:=
 ok.stay (fun _ _ _ q=>q) (fun c q=>by rw[ak (fun z=>by rw[z] at q;exact no _ q)];exact q) fun c xs q=>by rw[ak (fun z=>by rw[z] at q;exact a _ q)];exact q
theorem aI.freeze (I:aI X pins σ H s)(e:H d=some u)(f:Co (some u)):∃o,aI X pins σ (upd H d (.frz o u)) s/\s.heap.get? d=some o:=by
 have ok:=I.hok d u e
 obtain⟨o,c⟩:∃o,s.heap.get? d=some o:=by
  cases u with
  |lst xs=>obtain⟨_,_,_,_,z⟩:=ok;exact⟨_,z⟩
  |dK kvs=>obtain⟨_,_,_,_,o,_,_,z,_⟩:=ok;exact⟨o,z⟩
  |dT kvs=>obtain⟨_,_,_,_,o,_,_,z,_⟩:=ok;exact⟨o,z⟩
  |set S n=>obtain⟨o,_,_,_,z,_⟩:=ok;exact⟨o,z⟩
  |ins C dx fs=>obtain⟨_,_,_,z,_⟩:=ok;exact⟨_,z⟩
  |ext φ=>obtain⟨_,z,_⟩:=ok;exact z
  |_=>exact f.elim
 have a:Co (H d):=by rw[e];exact f
 refine⟨o,I.write (t':=s.toks) (h':=s.heap) (x:=d) (e:=d) (o:=.frz o u) a (.inl rfl) (fun b v _ q=>q) ⟨o,c⟩ ⟨c,?_⟩,c⟩
 exact ok.upd (fun xs z=>by rw[z] at a;exact a) (fun y z=>by rw[z] at a;exact a)
theorem aI.thaw (I:aI X pins σ H s)(e:H d=some (.frz o u))(j:∀o' g,X.H₀ d≠some (.frz o' g)):aI X pins σ (upd H d u) s:=by
 have a:∀b,H b=none->b≠d:=fun b n z=>by rw[z,e] at n;cases n
 have f:∀xs,H d≠some (.tup xs):=fun xs z=>by rw[e] at z;cases z
 have no:∀y,H d≠some (.own y):=fun y z=>by rw[e] at z;cases z
 have B:=I.base
 refine⟨I.ok,I.os,I.bare,⟨B.keep,B.slot,fun b v q n h=>?_,B.there,fun b xs q=>?_,fun b v w q=>?_,fun b ps q=>?_⟩,I.loc,I.cell,?_,fun x c q=>?_,fun p l=>?_,fun b v q=>?_,I.len⟩
 ·have:=B.free b v q n h
  rw[ak (a b this)];exact this
 ·have:=B.tups b xs q
  rw[ak (fun z=>by rw[z] at this;exact f _ this)];exact this
 ·have:=B.frzs b v w q
  rw[ak (fun z=>by rw[z] at q;exact j _ _ q)];exact this
 ·obtain⟨more,this⟩:=B.tbls b ps q
  exact⟨more,by rw[ak (fun z=>by rw[z,e] at this;cases this)];exact this⟩
 ·rw[ak (a _ I.free)];exact I.free
 ·rw[ak (a _ (I.freeC x c q))];exact I.freeC x c q
 ·obtain⟨h1,h2,i⟩:=I.pin p l
  exact⟨h1,by rw[ak (a _ h2)];exact h2,i⟩
 ·by_cases hb:b=d
  ·subst hb
   rw[ae] at q;cases q
   obtain⟨_,z⟩:=I.hok b _ e
   exact z.upd f no
  ·rw[ak hb] at q
   exact(I.hok b v q).upd f no
end
noncomputable def Ib (D:fJ) (d:Addr) (o:Obj) (u:HO):fJ:=
 ⟨fun a H1=>H1 d=some (.frz o u)/\D.nx a (upd H1 d u),fun v H1=>H1 d=some (.frz o u)/\D.rt v (upd H1 d u),fun a H1=>H1 d=some (.frz o u)/\D.bk a (upd H1 d u),fun a H1=>H1 d=some (.frz o u)/\D.ct a (upd H1 d u)⟩
def HV (t:TS):TS:=fun D σ H=>∃d u,H d=some u/\Co (some u)/\∀o,t (Ib D d o u) σ (upd H d (.frz o u))
theorem zb(h:PS X a t):PS X a (HV t):=by
 intro pins s σ H D I m
 obtain⟨d,u,e,l,q⟩:=m
 have i:∀o' j,X.H₀ d≠some (.frz o' j):=fun o' j z=>by
  have:=I.base.frzs d o' j z
  rw[e] at this;cases this;exact l
 obtain⟨o,I1,_⟩:=I.freeze e l
 refine bZ (h pins s σ _ _ I1 (q o)) fun f s' g=>?_
 cases f with
 |next=>obtain⟨b,H',I',c,k⟩:=g;exact⟨b,_,I'.thaw c i,k⟩
 |brk=>obtain⟨b,H',I',c,k⟩:=g;exact⟨b,_,I'.thaw c i,k⟩
 |cont=>obtain⟨b,H',I',c,k⟩:=g;exact⟨b,_,I'.thaw c i,k⟩
 |ret v=>obtain⟨x,b,H',I',r,c,k⟩:=g;exact⟨x,b,_,I'.thaw c i,r,k⟩
noncomputable def jK:HO->Nat
 | .dK kvs=>kvs.length
 | .dT kvs=>kvs.length
 |_=>0
def nG:HO->Prop
 | .dK _=>True
 | .dT _=>True
 |_=>False
noncomputable def iz (H:Hp):HO->Nat->V->V->Prop
 | .dK kvs,i,x,v=>∃k,kvs[i]?=some (k,v)/\x=kV k
 | .dT kvs,i,x,v=>∃k b,kvs[i]?=some (k,v)/\x=.ref b/\H b=some (.tup (k.map kV))
 |_,_,_,_=>False
theorem fu {a b:Type}{R:a->b->Prop}:∀{xs:List a} {ys:List b} (_:Paired R xs ys) (i:Nat) (hi:i<ys.length),∃x,xs[i]?=some x/\R x ys[i]
 |_,_,.nil,i,hi=>absurd hi (Nat.not_lt_zero _)
 |_,_,.cons r _,0,_=>⟨_,rfl,r⟩
 |_,_,.cons _ t,i+1,hi=>by
  obtain⟨x,h1,h2⟩:=fu t i (by simpa using hi)
  exact⟨x,by simpa using h1,by simpa using h2⟩
theorem hG(ok:h_ P w H h)(e:H d=some (.frz o u))(D:nG u):(d==sysModules)=false/\h.get? d=some o/\o.ExactDict/\
  ∃es ep,o.data=.dict es ep/\es.size=jK u/\∀i (hi:i<es.size),∃x v,iz H u i x v/\aQ x es[i].key/\aQ v es[i].val:=by
 obtain⟨b,k⟩:=ok d _ e
 cases u with
 |dK kvs=>
  obtain⟨z,l,vs,a,o',es,ep,h1,h2,m,f,g,F⟩:=k
  rw[b] at h1;cases h1
  have n:es.size=vs.length:=by rw[<-g.length];simp
  refine⟨l,b,h2,es,ep,m,by rw[n,<-a.length];rfl,fun i hi=>?_⟩
  obtain⟨p,q,r,c⟩:=fu a i (by omega)
  obtain⟨s,C⟩:=g.get? (i:=i) (e:=es[i]) (k:=vs[i].1) (v:=vs[i].2) (by simp[hi]) (by rw[JL])
  refine⟨kV p.1,p.2,⟨p.1,q,rfl⟩,?_,by rw[C];exact c⟩
  rw[<-r] at s
  rcases cv s with ⟨j,t,A,B⟩|⟨j,t,A,B⟩<;>rw[A,B]<;>exact⟨t,rfl⟩
 |dT kvs=>
  obtain⟨z,l,xs,a,o',es,ep,h1,h2,m,f,g⟩:=k
  rw[b] at h1;cases h1
  have n:es.size=xs.length:=size_of_entries f
  refine⟨l,b,h2,es,ep,m,by rw[n,<-Paired.length a];rfl,fun i hi=>?_⟩
  obtain⟨p,q,r,E,c⟩:=fu a i (by omega)
  have y:es[i]=entryOfKey (tupleKind (aY P w)) xs[i]:=by
   have:=entry_at f i
   rw[JL (by omega),Lc hi] at this
   exact Option.some.inj this
  refine⟨.ref xs[i].2.1,p.2,⟨p.1,_,q,rfl,E⟩,?_,?_⟩
  ·rw[y];rfl
  ·rw[y];exact c
 |_=>exact D.elim
section
variable {prog:Program} {w:World} {A:Around} {E:Value->Shared->Prop} {s:Shared} {d it:Addr} {o:Obj} {es:Array DictEntry} {i ep:Nat}
theorem uK(hd:(d==sysModules)=false)(c:s.heap.get? d=some o)(e:o.ExactDict)(a:o.data=.dict es ep)
  (f:Q (.ref s.heap.objs.size) {s with heap:=s.heap.push {cls:=.type "dict_keyiterator",data:=.fields #[.ref d,.int 0 0,.int es.size 0,.int ep 0]}}):wpAny (model prog w) A (pyIter (.ref d)) Q E s:=by
 have b:s.TypeIs (.ref d) "dict" :=⟨o,c,e.1⟩
 refine wpAny_pyIter_slot b F.slot_dict_iter (JY F.slot_dict_iter b F.entry_dict_iter ?_ (F.args_dict_iter_1 _))
 unfold Builtin.«dict.__iter__» Builtin.Dict.dictSlotNone
 refine Jc (Jc (LY b ?_))
 show wpAny _ _ (pure (Value.ref d)) _ _ s
 refine Jf ?_
 show wpAny _ _ (Builtin.Dict.showsAll d>>=_) _ _ s
 unfold Builtin.Dict.showsAll
 rw[if_neg (by rw[hd];exact Ju)]
 refine Jc (Jf (Jc (KG c a (Jc (Ln c a ?_)))))
 refine Jc (Kt (Jf ⟨_,rfl, "dict_keyiterator",_,⟨_,Jx _ rfl,rfl⟩,F.slot_dict_keyiterator_next.lookup,?_⟩))
 simpa[rawInt] using f
theorem uZ(a:s.heap.IsKeyIter it d i es.size ep)(b:s.heap.get? d=some o)(c:o.data=.dict es ep)(g:i<es.size)
  (h:∀h',h'.IsKeyIter it d (i+1) es.size ep->Heap.SameBut it s.heap h'->Q (some es[i].key) {s with heap:=h'}):wpAny (model prog w) A (pyNext (.ref it)) Q E s:=by
 obtain⟨j,e,f,hd⟩:=id a
 unfold pyNext
 refine Jc (Ku (KF (name:=Str.ofString "__next__") a.typeIs F.slot_dict_keyiterator_next
  (JY F.slot_dict_keyiterator_next a.typeIs F.entry_dict_keyiterator_next ?_ (F.args_dict_keyiterator_next_1 _))))
 refine Jc (Jf (Jc (Jc ?_)))
 refine Jc (LZ a.typeIs (Jf ?_))
 refine Jc (wpAny_fieldsOf e hd ?_)
 simp only[show Builtin.Dict_items.ownsTuple "dict_keyiterator" =false by decide,KW,if_false]
 show wpAny _ _ (if (Value.ref d==Value.none)=true then _ else _) _ _ s
 rw[if_neg (show¬((Value.ref d==Value.none)=true) from Ju)]
 refine Jc (Jf (Jc (KG b c ?_)))
 rw[if_neg (by simp)]
 refine Jc (Jf (Jc (Ln b c ?_)))
 rw[if_neg (by simp)]
 refine Jf ?_
 simp only[show¬((i:Int)<0) from by lia,if_false,Kh,Lc g]
 refine Jc ?_
 refine Jc (LZ a.typeIs (Jf ?_))
 refine Jc (wpAny_isOneOf_keyiter a.typeIs ?_)
 show wpAny _ _ (setField (.ref it) 1 (rawInt ((i:Int)+1))>>=_) _ _ s
 refine Jc (wpAny_setField e hd (by simp) ?_)
 have new:(s.heap.update it (Obj.mapFields (·.setIfInBounds 1 (rawInt ((i:Int)+1))))).IsKeyIter it d (i+1) es.size ep:=
  ⟨_,KS _ e (Obj.isFreed_of_fields (Obj.data_mapFields hd _)),(Obj.cls_mapFields ..).trans f,by rw[Obj.data_mapFields hd];simp[rawInt]⟩
 refine Jc (JV (Jc (wpAny_isOneOf_keyiter (s:={s with heap:=s.heap.update it (Obj.mapFields (·.setIfInBounds 1 (rawInt ((i:Int)+1))))}) new.typeIs ?_)))
 show wpAny _ _ (pure es[i].key) _ _ _
 exact Jf (Jf ⟨_,rfl,Jf (h _ new (Heap.SameBut.update ..))⟩)
theorem vW(j:A.handled=none)(e:s.heap.get? d=some o)(f:o.data=.dict es ep)(h:es.size<=i)
  (l:∀h',Heap.ExtBut it s.heap h'->Q none {s with heap:=h'}):(s.heap.IsKeyIter it d i es.size ep->wpAny (model prog w) A (pyNext (.ref it)) Q E s)/\(s.heap.IsValIter it d i es.size ep->wpAny (model prog w) A (pyNext (.ref it)) Q E s):=by
 constructor
 all_goals
  intro c
  obtain⟨p,g,n,hd⟩:=id c
  unfold pyNext
  first|refine Jc (Ku (KF (name:=Str.ofString "__next__") c.typeIs F.slot_dict_keyiterator_next (JY F.slot_dict_keyiterator_next c.typeIs F.entry_dict_keyiterator_next ?_ (F.args_dict_keyiterator_next_1 _))))|refine Jc (Ku (KF (name:=Str.ofString "__next__") c.typeIs F.slot_dict_valueiterator_next (JY F.slot_dict_valueiterator_next c.typeIs F.entry_dict_valueiterator_next ?_ (F.args_dict_valueiterator_next_1 _))))
  refine Jc (Jf (Jc (Jc ?_)))
  first|refine Jc (LZ c.typeIs (Jf ?_))|refine Jc (L0 c.typeIs (Jf ?_))
  refine Jc (wpAny_fieldsOf g hd ?_)
  first|simp only[show Builtin.Dict_items.ownsTuple "dict_keyiterator" =false by decide,KW,if_false]|simp only[show Builtin.Dict_items.ownsTuple "dict_valueiterator" =false by decide,KW,if_false]
  show wpAny _ _ (if (Value.ref d==Value.none)=true then _ else _) _ _ s
  rw[if_neg (show¬((Value.ref d==Value.none)=true) from Ju)]
  refine Jc (Jf (Jc (KG e f ?_)))
  rw[if_neg (by simp)]
  refine Jc (Jf (Jc (Ln e f ?_)))
  rw[if_neg (by simp)]
  refine Jf ?_
  simp only[show¬((i:Int)<0) from by lia,if_false,Kh,L1 h]
  refine Jc ?_
  first|refine Jc (LZ c.typeIs (Jf ?_))|refine Jc (L0 c.typeIs (Jf ?_))
  show wpAny _ _ (setField (.ref it) 0 .none>>=_) _ _ s
  refine Jc (wpAny_setField g hd (by simp) ?_)
  show wpAny _ _ (newExc (.type "StopIteration") []>>=_) _ _ _
  refine Jc ?_
  simp only[newExc,newTuple]
  refine Jc (Kt ?_ (by size_fits))
  refine Jc (m:=firstArgMember _ _) (wpAny_of_eq (a:=Value.none) (by first|rfl|(simp only[firstArgMember];rfl)) (Kt ?_ (by size_fits)))
  simp only[raiseNew]
  refine Jc (wpAny_handled ?_)
  rw[show A.in1.handled=none from j]
  refine Jc (Jf (wpAny_throw ?_))
  refine Jc (Lb (T:= "StopIteration") (b:=true) ⟨_,Jx _ rfl,rfl⟩ isSubtype_stop ?_)
  exact Jf (l _ (((Heap.SameBut.update ..).extBut.push _).push _))
theorem yw(g:A.handled=none)(b:s.heap.IsKeyIter it d i es.size ep)(c:s.heap.get? d=some o)(a:o.data=.dict es ep)(e:es.size<=i)(f:∀h',Heap.ExtBut it s.heap h'->Q none {s with heap:=h'}):wpAny (model prog w) A (pyNext (.ref it)) Q E s:=(vW g c a e f).1 b
end
noncomputable def Gs (d:Addr) (o:Obj) (u:HO):It:=
 ⟨fun i H=>H d=some (.frz o u)/\i<jK u,fun i H x H'=>H'=H/\∃v,iz H u i x v,fun i H=>H d=some (.frz o u)/\jK u<=i⟩
theorem kU {h h':Heap}{it d:Addr}{i n ep:Nat}(x:h.IsKeyIter it d i n ep)(k:∀o,h.get? it=some o->h'.get? it=some o):h'.IsKeyIter it d i n ep:=let ⟨o,ho,r⟩:=x;⟨o,k _ ho,r⟩
theorem xV {P:Program}{w:World}{K:Je}{tg:Expr}(d it:Addr)(o:Obj)(u:HO)(T:nG u)(es:Array DictEntry)(ep:Nat)(hd:o.data=.dict es ep):
  kP P w K tg (Gs d o u) [it] it (fun i h=>h.IsKeyIter it d i es.size ep) where
 mem:=by simp
 obj:=fun i h st b n=>by
  rw[Jv.mp n]
  obtain⟨r,e,c,q⟩:=st
  exact⟨r,e,fun v z=>by rw[q] at z;cases z⟩
 keep:=fun i h h' st k=>kU st fun r e=>k it (by simp) r e
 item:=by
  intro X G B O S i pins s σ H E I y st hg
  subst G B O
  obtain⟨M,hi⟩:=hg
  obtain⟨_,f,_,l,m,a,W,g⟩:=hG I.hok M T
  rw[hd] at a;cases a
  obtain⟨N,R,Z,J,C,D⟩:=y it (by simp)
  have j:i<es.size:=by lia
  obtain⟨x,v,hk,r1,r2⟩:=g i j
  refine uZ st f hd j fun h' p sb=>?_
  have I1:aI X pins σ H {s with heap:=h'}:=I.turned (t':=s.toks) (fun b U n e=>(sb.2 b n).trans e) N R J C D
  obtain⟨r,e,c,q⟩:=id p
  exact⟨_,rfl,mK (s:={s with heap:=h'}) e c q (by decide) ⟨x,H,I1,r1,⟨rfl,v,hk⟩,p,fun b n=>(y b n).1⟩⟩
 done:=by
  intro X G B O S i pins s σ H E I y st hg
  subst G B O
  obtain⟨M,hi⟩:=hg
  obtain⟨_,f,_,l,m,a,W,g⟩:=hG I.hok M T
  rw[hd] at a;cases a
  obtain⟨N,R,Z,J,C,D⟩:=y it (by simp)
  exact yw (I.ok.hd S) st f hd (by lia) fun h' Y=>⟨rfl,I.turned (t':=s.toks) (fun b U n e=>Y b U n e) N R J C D⟩
 self:=fun A i s Q E st h=>by
  refine wpAny_pyIter_slot st.typeIs F.slot_dict_keyiterator_iter (JY F.slot_dict_keyiterator_iter st.typeIs F.entry_dict_keyiterator_iter ?_ (F.args_dict_keyiterator_iter_1 _))
  show wpAny _ _ (ret (.ref it)) _ _ s
  exact Jf ⟨_,rfl, "dict_keyiterator",_,st.typeIs,F.slot_dict_keyiterator_next.lookup,h⟩
def Hi (a:TE):TI:=fun σ H R=>a σ H fun x H1=>∃d o u,x=.ref d/\H1 d=some (.frz o u)/\nG u/\R (Gs d o u) H1
theorem C3(i:PE X e te):PI X tg e (Hi te):=by
 intro pins s σ H R I h
 refine bZ (i pins s σ H _ I h) fun v f n=>?_
 obtain⟨x,H1,I1,r,d,o,u,ex,hd,g,q⟩:=n
 subst ex
 cases(show v=Value.ref d from r)
 obtain⟨p,c,m,es,ep,a,w,_⟩:=hG I1.hok hd g
 refine uK p c m a ?_
 have j:∀b ob,f.heap.get? b=some ob->(f.heap.push {cls:=.type "dict_keyiterator",data:=.fields #[.ref d,.int 0 0,.int es.size 0,.int ep 0]}).get? b=some ob:=fun b ob z=>Jj _ z
 refine⟨f.heap.objs.size,[f.heap.objs.size],_,_,H1,rfl,I1.kept (t':=f.toks) j,xV d _ o u g es ep a,⟨_,Jx _ rfl,rfl,rfl⟩,fun b l=>?_,q⟩
 rw[Jv.mp l]
 exact I1.fpOk (Jg _) (I1.hok.fresh (Jg _))
section
variable {prog:Program} {w:World} {A:Around} {E:Value->Shared->Prop} {s:Shared} {d it v:Addr} {o:Obj} {es:Array DictEntry} {i ep:Nat} {ok ov:Value}
end
theorem AG {d:Addr}{o:Obj}{u:HO}{g:TG}{h:TS}{D:fJ}{a:St}{H:Hp}(b:Nat->St->Hp->Prop)(h0:b 0 a H)(r:∀i a H,i<=jK u->b i a H->H d=some (.frz o u))
  (n:∀i x v a H,iz H u i x v->i<jK u->b i a H->g x a H fun c H2=>h {D with nx:=b (i+1),ct:=b (i+1),bk:=D.nx} c H2) (hd:∀a H,b (jK u) a H->D.nx a H):
  ∃W:Nat->Nat->St->Hp->Prop,(∃m,W 0 m a H)/\∀i m a H,W i m a H->
   ((Gs d o u).stop i H/\D.nx a H)\/((Gs d o u).go i H/\∃N:St->Hp->Prop,(∀f H',N f H'->∃j,j<m/\W (i+1) j f H')/\∀x H',(Gs d o u).yld i H x H'->g x a H' fun c H2=>h {D with nx:=N,ct:=N,bk:=D.nx} c H2):=by
 refine⟨fun i m a H=>m=jK u - i/\i<=jK u/\b i a H,⟨jK u,by simp,JA _,h0⟩,?_⟩
 rintro i m a H ⟨rfl,hi,p⟩
 have q:=r i a H hi p
 by_cases hlt:i<jK u
 ·refine .inr ⟨⟨q,hlt⟩,b (i+1),fun f H' l=>⟨jK u - (i+1),by lia,rfl,hlt,l⟩,fun x H' y=>?_⟩
  obtain⟨e,v,k⟩:=y
  subst e
  exact n i x v a _ k hlt p
 ·have e:i=jK u:=by lia
  subst e
  exact .inl ⟨⟨q,Jg _⟩,hd a H p⟩
section
variable {X:Cx}
end
section
variable {prog:Program} {w:World} {A:Around} {E:Value->Shared->Prop} {s:Shared} {d:Addr} {o:Obj} {es:Array DictEntry} {ep:Nat}
end
section
variable {X:Cx}
end
section
variable {X:Cx}
theorem qA (n:Nat):((List.range n).all fun _=>true)=true:=by simp
end
noncomputable def HM (es:Array (Int×Value)) (i:Nat):Int:=(es[i]?.map (·.1)).getD 0
section
variable {prog:Program} {w:World} {A:Around} {E:Value->Shared->Prop} {s:Shared}
theorem yY{Q:Bool->Shared->Prop}(a:s.heap.get? b=some o)(j:o.cls=.type "tuple")(hd:o.data=.seq items n)(c:∀v∈items,∃i t,v=Value.int i t)(h:Q true s):
  wpAny (model prog w) A (hashByValue 8 (.ref b)) Q E s:=by
 have g:s.TypeIs (.ref b) "tuple" :=⟨o,a,j⟩
 unfold hashByValue
 refine Jc (wpAny_specialOf g F.slot_tuple_hash.lookup ?_)
 dsimp only
 refine Jc ?_
 unfold seqItems?
 refine Jc (wpAny_load a ?_)
 rw[hd]
 refine Jf (Jc ?_)
 show wpAny _ _ (forIn items _ _) _ _ _
 rw[<-Array.forIn_toList]
 refine wpAny_forIn_list _ (fun rest q s'=>s'=s/\q=(none,())/\∀v∈rest,∃i t,v=Value.int i t) _ ?_ ?_ _ _ ⟨rfl,rfl,fun v f=>c v (Kz.mp f)⟩
 ·rintro v rest q s' ⟨rfl,rfl,hr⟩
  obtain⟨i,t,rfl⟩:=hr v Jp
  have e:hashByValue 7 (.int i t)=pure true:=by simp[hashByValue]
  rw[e]
  exact Jc (Jf (by
   show wpAny _ _ (if (!true)=true then _ else _) _ _ _
   rw[if_neg (by decide)]
   exact Jf ⟨rfl,rfl,fun x d=>hr x (Jq _ d)⟩))
 ·rintro q s' ⟨rfl,rfl,_⟩
  exact Jf h
end
section
variable {prog:Program} {w:World} {A:Around} {R:Result->Shared->Prop} {I:Addr} {fp wr:List Addr} {G:Array GenState->Array GenState->Prop} {n:Nat} {P:Nat->Value->Prop} {St:Nat->Shared->Prop}
def ml (h:Heap) (k:List Int) (b:Addr):Prop:=∃o a c,h.get? b=some o/\o.cls=.type "tuple" /\o.data=.seq a c/\IntsAre a.toList k
end
abbrev pD (led:Bool):Obj:={cls:=.type "set",dict:=none,data:=.set #[] 0 (.fresh 0 0 led)}
noncomputable def gY (k:List Int):Int:=reduceHash (Builtin.Tuple.tupleHashOf (k.map hashInt))
theorem Dz(t:ml h k b):(tupleKind (intKind prog w)).is h k b:=by
 obtain⟨o,a,c,h1,h2,e,d⟩:=t
 refine⟨o,a,c,h1,h2,e,?_⟩
 have all:∀{us:List Value} {ns:List Int},IntsAre us ns->PySem.ItemsAre (intKind prog w) ns us:=by
  intro us ns z
  induction z with
  |nil=>exact .nil
  |cons n t _ ih=>exact .cons (intKind_is _ _ _ _) ih
 exact all d
noncomputable def Ij (a:Addr) (n:Nat):HO:=.ext fun h=>∃o es ep t,h.get? a=some o/\o.ExactSet/\o.data=.set es ep t/\SetTable.fits t es.size=true/\es.size=n
theorem AS(ok:h_ P w H h)(e:H b=some (.tup (c.map V.int))):ml h c b:=by
 obtain⟨_,a,g,o,f,d,n,hd⟩:=ok b _ e
 exact⟨o,a.toArray,n,f,d,hd,by simpa using se g⟩
theorem uf:cI X (.builtin "len") (fun xs H Q=>∃a n,xs=[V.ref a]/\H a=some (Ij a n)/\n<1000/\Q (.int n) H):=by
 intro pins s σ H xs us Q I r h
 obtain⟨a,n,rfl,ha,f,q⟩:=h
 obtain⟨u,rfl,d⟩:=df r
 cases d
 obtain⟨⟨o,es,ep,t,h1,h2,c,e,b⟩,_⟩:=I.hok a _ ha
 subst b
 exact call_len_set h1 h2 c e (by lia) ⟨.int es.size,H,I.tok _,⟨_,rfl⟩,q⟩
structure Im (K:Je) (C:Addr) (m:Str) (f:Addr):Prop where
 ex:∃mc,PySem.W.readsIn K C mc=true/\PySem.W.findCls K (.ref C) mc m=some (.val (.ref f))
 hh:PySem.W.handedIn (.ref f)=true
 hg:LU K (.ref C) "__getattribute__" =some (some (.builtin "type.__getattribute__"))
 kp:JW K (.ref f)=true
structure hU (P:Program) (w:World) (K:Je) (mg:Str->Option Value) (base:Heap) (C:Addr) (m:Str) (k:Nat) (ps:List Str) (sp:Sp):Prop where
 ex:∃f fd,eW P w K mg base mq k f fd ps sp/\Im K C m f/\dn K fd ps []
section
variable {X:Cx} {C:Addr} {k:Nat} {ps:List Str} {sp:Sp} {m:Str} {pos apos:Pos} {e o:Expr} {es:List Expr} {t:TA}
theorem vF {pl:Sem Bool}(y:PE X o (tC (.ref C)))(G:hU X.prog X.w X.K X.mg X.base C m k ps sp)(i:bT k X.A)(n:PA X (e::es) t)
  (c:starEach (e::es) X.env=(false,eval e X.env)::starEach es X.env:=by rfl) (b:(backTo pos (starEach es X.env)).any (·.1)=false:=by rfl)
  (q:eval (.Call (.Attribute o m apos) (e::es) [] pos) X.env=(do
   let ov<-eval o X.env
   standAt apos.atName
   let (f,first)<-holding [ov] (getMethod ov m pl)
   callWith pos f first (backTo pos (starEach (e::es) X.env)) (backToKw pos (keywordEach [] X.env))):=by rfl):
  PE X (.Call (.Attribute o m apos) (e::es) [] pos) (fH sp [] E0 t):=by
 obtain⟨f,fd,F,a,l⟩:=G.ex
 obtain⟨B,h1,h2⟩:=a.ex
 intro pins s σ H Q I h
 refine LW (pl:=pl) (bZ (y pins s σ H (fun v H1=>v=.ref C/\H1=H) I ⟨rfl,rfl⟩) fun u g ⟨x,H1,I1,j,ex,d⟩=>?_) q
 subst ex d
 cases(show u=Value.ref C from j)
 refine PySem.W.method_cls I1.kIn a.hg (PySem.W.cls_value I1.kIn h1 h2 a.hh ?_)
 have z:=I1.tok (g.toks+1)
 refine LV (first:=[]) (h₀:=X.base) I.ok.mod.kin a.kp (bZ (n pos pins _ σ _ _ z h) fun us D ⟨vs,H2,I3,r,p⟩=>⟨I3.kIn,?_⟩) c b
 exact jx F i l .nil kZ I3 r p
end
structure xI (K:Je) (x qual:Str) (st:Stmt) (f:Addr) (fd:FuncData):Prop where
 ex:∃(oc:Value) (od:Option Addr) (dV kV doc pm:Value) (an:Option Addr) (cdv ct:Value) (osl:Array (Option Value)),
  fd=JQ x qual (cH st) (bV st) (aP st) dV kV doc pm an cdv ct/\K.lookup f=some ⟨oc,od,.func fd,osl⟩/\Kg K cdv qual=true
section
variable {P:Program} {w:World} {K:Je} {mg:Str->Option Value} {base:Heap}
theorem xI.ok{st:Stmt}(F:xI K x qual st f fd)(S:eZ N ps (aP st))(len:∀vs H Q E,sp vs H Q E->vs.length=ps.length)
  (e:∀(d:Value) (A:Around) (outer:List Env) (s:Shared) (H:Hp) (vs:List V) (Q:VK) (E:XK),bT k (A.deeper (envOfC qual (aP st) s.heap.objs.size f d))->sp vs H Q E->
   ∃t,mh (bE mq P w K mg base N qual (aP st) f d A outer s H E).nox (bV st) t/\t {nx:=fun _ H'=>Q .non H',rt:=Q} (gQ N vs) H):eW P w K mg base mq (k+1) f fd ps sp:=by
 obtain⟨l,p,j,kV,c,o,m,d,n,b,rfl,i,a⟩:=F.ex
 refine Eh i a S len fun A outer s H vs Q E hr g=>?_
 obtain⟨t,h,q⟩:=e d A outer s H vs Q E hr g
 exact⟨t,h.nox,q⟩
theorem oP{st:Stmt}{a:Array (Option Value)}{kV:Value}(l:K.lookup f=some ⟨oc,od,.func (JQ x qual (cH st) (bV st) (aP st) dV kV doc pm an cdv ct),a⟩)
  (c:Kg K cdv qual=true):xI K x qual st f (JQ x qual (cH st) (bV st) (aP st) dV kV doc pm an cdv ct):=⟨⟨oc,od,dV,kV,doc,pm,an,cdv,ct,a,rfl,l,c⟩⟩
theorem tI{b:Array (Option Value)}(hd:fd.defaults=.ref T)(c:K.lookup T=some ⟨oc,od,.seq items n,b⟩)
  (h:∀us:List Value,us.length=ps.length->∃k,bindArgs fd ⟨us,[]⟩=(seqItems? fd.defaults>>=k)/\k (some items)=pure (ps.zip us)):dn K fd ps []:=fun s us d a=>by
 rw[JK] at a|-
 obtain⟨k,h1,h2⟩:=h us a
 exact PySem.W.binds_K d hd c rfl h1 h2
end
theorem kr:isSubtype (.type "AttributeError") (.type "AttributeError")=pure true:=by rw[isSubtype_type];kernel_rfl
section
variable {prog:Program} {w:World} {A:Around} {h:Heap} {g:Array GenState} {d:Drawn} {t:Nat} {os:OsState} {a:Addr}
abbrev Gu (T:Addr):Obj:={cls:=.type "AttributeError",data:=.fields #[.ref T,.none,.none,.none,.bool false,.none,unsetMember,unsetMember]}
theorem xf{Q:Unit->Shared->Prop}(hx:h.get? e=some (Gu T))
  (c:∀h',Heap.SameBut e h h'->Shared.TypeIs ⟨h',g,d,t,os⟩ (.ref e) "AttributeError" ->Q () ⟨h',g,d,t,os⟩):wpAny (model prog w) A (noteAttr (.ref e) (.ref a) nm) Q E ⟨h,g,d,t,os⟩:=by
 have b:(⟨h,g,d,t,os⟩:Shared).TypeIs (.ref e) "AttributeError" :=⟨_,hx,rfl⟩
 unfold noteAttr lacksNameAndObj
 refine Jc (Jc (Lb b kr ?_))
 rw[if_neg (by decide)]
 refine Jc (wpAny_load hx ?_)
 dsimp only
 rw[if_neg (by with_unfolding_all exact Ju),if_neg (by with_unfolding_all exact Ju)]
 refine Jf ?_
 rw[if_pos rfl]
 refine Jc (Kj (Jc (wpAny_typeOf b ?_)))
 dsimp only
 unfold layMembers
 refine Jc (wpAny_load hx ?_)
 dsimp only
 refine wpAny_update hx ?_
 refine c _ (Heap.SameBut.update ..) ⟨_,KS _ hx (by rfl),by rfl⟩
theorem ug {l:Type}{Q:l->Shared->Prop}(n:A.handled=none)(j:msg.length<=sizeLine)
  (o:∀e h' tk,(∀b u,h.get? b=some u->h'.get? b=some u)->Shared.TypeIs ⟨h',g,d,tk,os⟩ (.ref e) "AttributeError" ->E (.ref e) ⟨h',g,d,tk,os⟩):
  wpAny (model prog w) A (raiseAttrError (.ref a) name msg) Q E ⟨h,g,d,t,os⟩:=by
 unfold raiseAttrError
 refine Jc (wpAny_mkStr (hx:=j) ?_)
 refine Jc ?_
 simp only[newExc,newTuple]
 refine Jc (Kt ?_ (by size_fits))
 refine Jc (m:=firstArgMember _ _) (wpAny_of_eq (a:=Value.none) (by first|rfl|(simp only[firstArgMember];rfl)) ?_)
 refine Kt ?_ (by first|size_fits|decide)
 refine Jc (wpAny_mkText (Jc ?_))
 have f:h.objs.size<(h.push {cls:=.type "tuple",data:=.seq #[Value.str msg t]}).objs.size:=by rw[J6];exact Ly _
 have k1:∀b u,h.get? b=some u->(h.push {cls:=.type "tuple",data:=.seq #[Value.str msg t]}).get? b=some u:=fun b u z=>Jj _ z
 revert f k1
 show _->_->wpAny _ _ (noteAttr (.ref (h.push {cls:=.type "tuple",data:=.seq #[Value.str msg t]}).objs.size) (.ref a) (.str name (t+1))) _ _ ⟨(h.push {cls:=.type "tuple",data:=.seq #[Value.str msg t]}).push (Gu h.objs.size),g,d,t+1+1,os⟩
 generalize h.push {cls:=.type "tuple",data:=.seq #[Value.str msg t]}=h1
 intro f k1
 refine xf (Jx _ rfl) fun h' sb i=>?_
 simp only[raiseNew]
 refine Jc (wpAny_handled ?_)
 rw[n]
 refine Jc (Jf (wpAny_throw ?_))
 exact o _ h' _ (fun b u z=>by
  have c:=k1 b u z
  rw[sb.2 b (Jw (Jm c))]
  exact Jj _ c) i
theorem DL{Q:Fin->Shared->Prop}(c:A.handled=none)(hx:h.get? a=some {cls:=.type "list",data:=.seq items n})
  (f:∀e h' tk,(∀b u,h.get? b=some u->h'.get? b=some u)->Shared.TypeIs ⟨h',g,d,tk,os⟩ (.ref e) "AttributeError" ->E' (.ref e) ⟨h',g,d,tk,os⟩):
  wpAny (model prog w) A (Builtin.«object.__getattribute__» ⟨[.ref a,.str "keys" tk],[]⟩) Q E' ⟨h,g,d,t,os⟩:=by
 have i:(⟨h,g,d,t,os⟩:Shared).TypeIs (.ref a) "list" :=⟨_,hx,rfl⟩
 have j:typeLookup (.type "list") "keys" =pure none:=by rw[typeLookup_type,builtinLookup_eq_fast];kernel_rfl
 repeat (any_goals (first|assumption|wp_step))
 exact ug c (by decide+kernel) f
theorem CT(l:A.handled=none)(hx:h.get? a=some {cls:=.type "list",data:=.seq items n})
  (i:∀h' tk,(∀b u,h.get? b=some u->h'.get? b=some u)->Q none ⟨h',g,d,tk,os⟩):wpAny (model prog w) A (getAttr? (.ref a) "keys") Q E ⟨h,g,d,t,os⟩:=by
 have p:(⟨h,g,d,t,os⟩:Shared).TypeIs (.ref a) "list" :=⟨_,hx,rfl⟩
 have c:(⟨h,g,d,t+1,os⟩:Shared).TypeIs (.ref a) "list" :=⟨_,hx,rfl⟩
 have o:=F.slot_list_getattribute.lookup
 have j:=F.slot_list_getattribute.bind (.ref a)
 have m:typeLookup (.type "list") "__getattr__" =pure none:=by rw[typeLookup_type,builtinLookup_eq_fast];kernel_rfl
 unfold getAttr? getAttrBy?
 refine Jc (wpAny_mkText (Jc (Ku ?_)))
 unfold getAttrBy
 refine JV (Jc (wpAny_typeOf c ?_))
 rw[o]
 refine Jc (Jf ?_)
 dsimp only
 rw[if_neg (by decide)]
 unfold getAttrByItsOwn hookBefore
 rw[if_neg (by decide)]
 refine Jc (Jf (Jc (Ku (JV ?_))))
 unfold callGetattribute
 rw[if_neg (by decide)]
 unfold boundAndCalled
 rw[j]
 refine Jc (Jf ?_)
 show wpAny _ _ (call (.builtin "list.__getattribute__") [.ref a,.str "keys" t]) _ _ _
 refine wpAny_call (codeAny_call_builtin F.slot_list_getattribute.plain F.entry_list_ga (F.slot_list_getattribute.check _ _ _ _ _ _ _ _ c (F.args_list_getattribute_2 _ _) (DL (show A.in1.handled=none from l) hx fun e h' tk keep f=>?_)))
 show wpAny _ _ (getattributeRaised (.ref a) (.str "keys" t) (.type "list") (.ref e) none false false) _ _ _
 unfold getattributeRaised hookBehind
 refine Jc (Lb f kr ?_)
 rw[if_pos rfl,if_neg (by decide),m]
 refine Jc (Jf ?_)
 show wpAny _ _ (attributeErrorLeaves (.ref a) (.str "keys" t) (.ref e) false false) _ _ _
 unfold attributeErrorLeaves
 dsimp only
 rw[if_pos (show(!false)=true from rfl)]
 refine Jc (wpAny_throw (Jc (Lb f kr ?_)))
 rw[if_pos rfl]
 exact Jf (i _ _ keep)
end
theorem nF:entryFor table "dict.update.loop" =some Builtin.«dict.update.loop»:=entryFor_of_tree (by kernel_rfl)
theorem ig:plainId "dict.update.loop" =true:=by decide+kernel
def ku (h:Heap) (p:Addr) (k v:Value):Prop:=∃o c,h.get? p=some o/\o.cls=.type "tuple" /\o.data=.seq #[k,v] c
abbrev ym (h:Heap) (p k:Addr) (v:Value):Prop:=ku h p (.ref k) v
section
variable {prog:Program} {w:World} {A:Around} {R:Result->Shared->Prop} {I:Addr} {fp wr:List Addr} {G:Array GenState->Array GenState->Prop} {n:Nat} {P:Nat->Value->Prop} {St:Nat->Shared->Prop} {DX KO:Nat->Heap->Prop}
theorem tL (W:WalksS prog w A.in1 I fp wr G n P St)(D:Addr)(K:D∉fp)(u:Nat->Addr)(S F:Nat->Value)(y:∀i v,P i v->v=.ref (u i))
  (M:∀i,i<n->u i≠D/\u i∉wr) (x:∀i,i<n->∀h h':Heap,(∀b o,b≠D->b∉wr->h.get? b=some o->h'.get? b=some o)->KO i h->KO i h')
  (N:∀(i:Nat),i<=n->∀(h h':Heap),(∀b o,b∉wr->h.get? b=some o->h'.get? b=some o)->DX i h->DX i h')
  (H:∀i,i<n->∀(s:Shared) (Q:Unit->Shared->Prop) (E:Value->Shared->Prop),KO i s.heap->DX i s.heap->(∀h' t,s.toks<=t->DX (i+1) h'->Heap.SameBut D s.heap h'->Q () {s with heap:=h',toks:=t})->wpAny (model prog w) A.in1 (dictSet D (S i) (F i)) Q E s):
  ∀(k i:Nat) (ti:Tok) (s:Shared),n - i=k->i<=n->St i s->(∀j,j<n->ku s.heap (u j) (S j) (F j)/\KO j s.heap)->DX i s.heap->
   (∀s',Moved (D::wr) G s s'->DX n s'.heap->R (.ok (.ret .none)) s')->
   codeAny (model prog w) A (.builtin "dict.update.loop" ⟨[.ref D,.ref I,.int (i:Nat) ti,.none],[]⟩) R s:=by
 have g:D∉wr:=fun h=>K (W.sub _ h)
 have more:∀b∈wr,b∈D::wr:=fun b l=>Jq _ l
 intro k
 induction k with
 |zero=>
  intro i ti s hk hi r ht T X
  obtain rfl:i=n:=by omega
  refine codeAny_builtin nF ?_
  rw[Around.under_plainId ig _]
  show wpAny _ A.in1 (pyNext (.ref I)>>=_) _ _ s
  refine Jc (W.done s _ _ r fun s' p=>?_)
  show wpAny _ _ (Builtin.Dict.addKeywords D []>>=_) _ _ _
  refine Jc ?_
  unfold Builtin.Dict.addKeywords
  refine Jf (Jf (X s' (p.mono more) (N _ hi _ _ (fun b o l e=>p.heap b o l e) T)))
 |succ k ih=>
  intro i ti s hk hi r ht T X
  have a:i<n:=by omega
  refine codeAny_builtin nF ?_
  rw[Around.under_plainId ig _]
  show wpAny _ A.in1 (pyNext (.ref I)>>=_) _ _ s
  refine Jc (W.item i s _ _ a r fun v s' hP J p=>?_)
  obtain rfl:=y i v hP
  have d:∀j,j<n->ku s'.heap (u j) (S j) (F j)/\KO j s'.heap:=fun j m=>by
   obtain⟨⟨o,c,h1,h2⟩,Y⟩:=ht j m
   exact⟨⟨o,c,p.heap _ o (M j m).2 h1,h2⟩,x j m _ _ (fun b o _ l e=>p.heap b o l e) Y⟩
  have f:=N i hi _ _ (fun b o l e=>p.heap b o l e) T
  obtain⟨⟨o,c,h1,h2,Y⟩,h4⟩:=d i a
  have hT:s'.TypeIs (.ref (u i)) "tuple" :=⟨o,h1,h2⟩
  refine Jc (JV (Jc (wpAny_tryCatch ?_)))
  unfold Builtin.Dict.pairItems
  refine Jc (wpAny_typeOf hT ?_)
  rw[if_pos (by decide)]
  refine Jc ?_
  unfold seqItems?
  refine Jc (wpAny_load h1 ?_)
  rw[Y]
  refine Jf (Jf ?_)
  show wpAny _ _ (holding [S i,F i] (dictSet D (S i) (F i))) _ _ _
  refine JV (H i a _ _ _ h4 f fun h' t' C U sb=>?_)
  refine Jf ⟨plainId_quiet ig _,?_⟩
  have e:((i:Nat):Int)+1=((i+1:Nat):Int):=by omega
  show codeAny _ _ (.builtin "dict.update.loop" ⟨[.ref D,.ref I,.int (((i:Nat):Int)+1) 0,.none],[]⟩) _ _
  rw[e]
  refine ih (i+1) _ _ (by omega) a (W.frame _ s' _ _ J C fun b l o q=>?_) (fun j m=>?_) U fun Z O B=>?_
  ·rw[sb.2 b (fun z=>K (z▸l))];exact q
  ·obtain⟨⟨o,c,q1,q2⟩,q3⟩:=d j m
   refine⟨⟨o,c,?_,q2⟩,x j m _ _ (fun b o l _ q=>?_) q3⟩
   ·rw[sb.2 _ (M j m).1];exact q1
   ·rw[sb.2 b l];exact q
  ·refine X Z (Moved.trans W.gtrans ((p.mono more).then_heap C fun b o l q=>?_) O) B
   rw[sb.2 b (fun z=>l (by rw[z];exact Jp))];exact q
end
theorem pT {K:Type} [DecidableEq K]{xs:List (K×Addr×Value)}{k:K}{a:Addr}{v:Value}{P:Addr->Prop}(h:∀x∈xs,P x.2.1)(c:P a):∀x∈storedH xs k a v,P x.2.1:=by
 unfold storedH
 split
 ·intro x hx
  obtain⟨y,b,rfl⟩:=Jk.mp hx
  unfold putAt
  split
  ·exact h y b
  ·exact h y b
 ·intro x hx
  rcases Jz.mp hx with hx|hx
  ·exact h x hx
  ·rw[Jv.mp hx];exact c
theorem rS {K:Type} [DecidableEq K]{xs:List (K×Addr×Value)}{k:K}{a:Addr}{v:Value}:(storedH xs k a v).length<=xs.length+1:=by
 unfold storedH
 split
 ·rw[Jd];lia
 ·simp
noncomputable def qM {K:Type} [DecidableEq K] (a:Nat->K) (b:Nat->Addr) (c:Nat->Value):Nat->List (K×Addr×Value)
 |0=>[]
 |i+1=>storedH (qM a b c i) (a i) (b i) (c i)
theorem mS {K:Type} [DecidableEq K]{a:Nat->K}{b:Nat->Addr}{c:Nat->Value}{P:Addr->Prop}:∀(i:Nat),(∀j,j<i->P (b j))->∀x∈qM a b c i,P x.2.1
 |0,_=>fun _ h=>nomatch h
 |i+1,h=>pT (mS i fun j d=>h j (by lia)) (h i (Ly _))
theorem m_ {K:Type} [DecidableEq K]{a:Nat->K}{c:Nat->Addr}{b:Nat->Value}:∀(i:Nat),(qM a c b i).length<=i
 |0=>Jg _
 |i+1=>Jn rS (KC (m_ i))
section
variable {prog:Program} {w:World} {A:Around} {E:Value->Shared->Prop} {s:Shared} {DX KO:Nat->Heap->Prop}
theorem gK {l:Addr}{as:List Addr}{c:Nat}{Q:Value->Shared->Prop}(hh:A.handled=none)(U:s.heap.get? l=some {cls:=.type "list",data:=.seq (as.map Value.ref).toArray c})
  (ky W:Nat->Value) (hp:∀j,j<as.length->ku s.heap (as.getD j 0) (ky j) (W j)/\KO j s.heap)
  (M:∀j,j<as.length->∀h h':Heap,(∀b o,b<s.heap.objs.size->h.get? b=some o->h'.get? b=some o)->KO j h->KO j h')
  (Z:∀i,i<=as.length->∀h h':Heap,(∀b o,b<=s.heap.objs.size->h.get? b=some o->h'.get? b=some o)->DX i h->DX i h')
  (N:∀i,i<as.length->∀(s':Shared) (Q:Unit->Shared->Prop) (E:Value->Shared->Prop),KO i s'.heap->DX i s'.heap->(∀h' t,s'.toks<=t->DX (i+1) h'->Heap.SameBut s.heap.objs.size s'.heap h'->Q () {s' with heap:=h',toks:=t})->wpAny (model prog w) A.in1.in1 (dictSet s.heap.objs.size (ky i) (W i)) Q E s')
  (h0:∀h':Heap,h'.get? s.heap.objs.size=some {cls:=.type "dict",data:=.dict #[]}->DX 0 h')
  (h:∀(h':Heap) (tk:Nat),DX as.length h'->(∀b o,s.heap.get? b=some o->h'.get? b=some o)->Q (.ref s.heap.objs.size) {s with heap:=h',toks:=tk}):
  wpAny (model prog w) A (call (.type "dict") [.ref l]) Q E s:=by
 refine callType_codes (Q₁:=fun v J=>v=.ref s.heap.objs.size/\J={s with heap:=s.heap.push {cls:=.type "dict",data:=.dict #[]}}) F.kt_called_dict (F.kt_typeCall_dict_1 _) F.entry_dict_init (kt_code_dict_new _ ⟨rfl,rfl⟩) ?_
 rintro v J ⟨rfl,rfl⟩
 have a:∀b u,s.heap.get? b=some u->(s.heap.push {cls:=.type "dict",data:=.dict #[]}).get? b=some u:=fun b u x=>Jj _ x
 have S:Shared.TypeIs {s with heap:=s.heap.push {cls:=.type "dict",data:=.dict #[]}} (.ref s.heap.objs.size) "dict" :=⟨_,Jx _ rfl,rfl⟩
 have X:Shared.TypeIs {s with heap:=s.heap.push {cls:=.type "dict",data:=.dict #[]}} (.ref l) "list" :=⟨_,a _ _ U,rfl⟩
 have R:(s.heap.push {cls:=.type "dict",data:=.dict #[]}).get? s.heap.objs.size=some {cls:=.type "dict",data:=.dict #[]}:=Jx _ rfl
 have m:(s.heap.push {cls:=.type "dict",data:=.dict #[]}).objs.size=s.heap.objs.size+1:=J6 ..
 revert a S X R m
 generalize s.heap.push {cls:=.type "dict",data:=.dict #[]}=a6
 intro a S X R m
 refine⟨S,F.args_dict_init_2 _ _,?_⟩
 unfold Builtin.«dict.__init__»
 refine Jc ?_
 unfold Builtin.Dict.selfAndRest
 refine Jc (LY S ?_)
 show wpAny _ _ (pure (s.heap.objs.size,[Value.ref l])) _ _ _
 refine Jf ?_
 show wpAny _ _ (Builtin.Dict.updateFrom "dict.__init__" s.heap.objs.size (.ref l) [] .none) _ _ _
 unfold Builtin.Dict.updateFrom
 refine Jc (wpAny_typeOf X ?_)
 rw[if_pos (by decide)]
 refine Jc (CT (show A.in1.in1.handled=none from hh) (a _ _ U) fun h1 a3 I=>?_)
 rw[if_pos (show(none:Option Value).isNone=true from rfl)]
 refine Jc (Kj (Jc ?_))
 have r:h1.get? l=some {cls:=.type "list",data:=.seq (as.map Value.ref).toArray c}:=I _ _ (a _ _ U)
 have p:h1.IsList l (as.map Value.ref).toArray:=⟨_,r,rfl,c,rfl⟩
 refine KP p (Jf ⟨plainId_quiet ig _,?_⟩)
 have f:s.heap.objs.size+1<=h1.objs.size:=Jm (I _ _ R)
 have H:l<s.heap.objs.size:=Jm U
 have D:l≠h1.objs.size:=Jw (Jm r)
 have nD:s.heap.objs.size∉[h1.objs.size,l]:=fun z=>by
  rcases Jo.mp z with z|z
  ·exact absurd z (Jw (Nat.lt_of_succ_le f))
  ·exact absurd (Jv.mp z) (KN H)
 have nI:∀{b:Addr},b<s.heap.objs.size->b∉[h1.objs.size]:=fun K z=>absurd (Jv.mp z) (Jw (JO K (Nat.le_of_succ_le f)))
 have d:∀{b:Addr} {o:Obj},s.heap.get? b=some o->b<s.heap.objs.size:=fun e=>Jm e
 have C:A.in1.in1.handled=none:=by simpa using hh
 have sz:(as.map Value.ref).toArray.size=as.length:=by simp
 refine tL (A:=A.in1) ((Walks.list C _ l D (as.map Value.ref).toArray).toS) s.heap.objs.size nD (fun i=>as.getD i 0) ky W (fun i v hv=>?_) (fun i hi=>?_) (fun i hi g O hg z=>M i (sz▸hi) g O (fun b o K e=>hg b o (Jw K) (nI K) e) z) (fun i hi g O hg z=>Z i (sz▸hi) g O (fun b o K e=>hg b o (fun y=>absurd (Jv.mp y) (Jw (JO (Nat.lt_succ_of_le K) f))) e) z) (fun i hi=>N i (sz▸hi))
  ((as.map Value.ref).toArray.size - 0) 0 0 _ (by lia) (JA _) ⟨⟨_,Jx _ rfl,rfl,rfl⟩,p.push _⟩ (fun j hj=>?_) (h0 _ (Jj _ (I _ _ R))) fun s' T Y=>?_
 ·have n:(as.map Value.ref).toArray[i]?=some v:=hv
  rw[List.getElem?_toArray,JG] at n
  obtain⟨x,hx,rfl⟩:=K_.mp n
  show _=Value.ref (as.getD i 0)
  rw[Kb,hx];rfl
 ·obtain⟨⟨o,c',P,_⟩,_⟩:=hp i (sz▸hi)
  exact⟨Jw (d P),nI (d P)⟩
 ·obtain⟨⟨o,c',P,q2⟩,q3⟩:=hp j (sz▸hj)
  have up:∀b u,s.heap.get? b=some u->(h1.push {cls:=.type "list_iterator",data:=.fields #[.ref l,.int 0 0]}).get? b=some u:=fun b u z=>Jj _ (I _ _ (a _ _ z))
  exact⟨⟨o,c',up _ _ P,q2⟩,M j (sz▸hj) _ _ (fun b o _ q=>up b o q) q3⟩
 ·obtain⟨h',O,d',G,B⟩:=s'
  obtain rfl:O=s.gens:=T.gens
  obtain rfl:d'=s.drawn:=T.drawn
  obtain rfl:B=s.os:=T.os
  refine⟨rfl,h h' G (sz▸Y) fun b o e=>T.heap b o (fun z=>?_) (Jj _ (I _ _ (a _ _ e)))⟩
  rcases Jo.mp z with z|z
  ·exact absurd z (Jw (d e))
  ·exact nI (d e) z
end
abbrev B_ (H:Hp) (as:List Addr) (kvs:List (List cP×V)):Prop:=Paired (fun a (kv:List cP×V)=>∃b,H a=some (.tup [.ref b,kv.2])/\H b=some (.tup (kv.1.map kV))) as kvs
noncomputable def DT {b:Type} [DecidableEq b] (kvs:List (b×V)):List (b×V):=kvs.foldl (fun a c=>dY a c.1 c.2) []
abbrev GS (kvs:List (List cP×V)):List (List cP×V):=DT kvs
theorem lq {a:Type} [DecidableEq a]{kvs:List (a×V)}{p:a×V}:DT (kvs++[p])=dY (DT kvs) p.1 p.2:=by unfold DT;rw[List.foldl_append];rfl
theorem vE {c:Type} [DecidableEq c]{kvs:List (c×V)}:(DT kvs).length<=kvs.length:=by
 have all:∀(l b:List (c×V)),(l.foldl (fun b d=>dY b d.1 d.2) b).length<=b.length+l.length:=by
  intro l
  induction l with
  |nil=>intro b;exact Jg _
  |cons a r ih=>
   intro b
   have h1:=ih (dY b a.1 a.2)
   have h2:=eS b a.1 a.2
   rw[J8,JC]
   lia
 have h:=all kvs []
 unfold DT
 simpa using h
theorem lH(hc:X.calm=true){k:Nat}(hr:bT k X.A):cI X (.type "dict") (fun xs H Q=>∃(l:Addr) (as:List Addr) (kvs:List (List cP×V)),xs=[.ref l]/\H l=some (.lst (as.map V.ref))/\B_ H as kvs/\∀p,H p=none->Q (.ref p) (upd H p (.dT (GS kvs)))):=by
 intro pins s σ H xs us Q I r h
 obtain⟨l,as,kvs,rfl,hl,T,q⟩:=h
 obtain⟨u,rfl,ru⟩:=df r
 cases ru
 obtain⟨N,w,c,rv,v⟩:=I.hok l _ hl
 obtain rfl:=ic rv
 have hu:=hr.units
 have len:as.length=kvs.length:=Paired.length T
 have ex:∀j,∃(b:Addr) (u:Value),j<as.length->ym s.heap (as.getD j 0) b u/\H b=some (.tup ((kvs.getD j ([],.non)).1.map kV))/\aQ (kvs.getD j ([],.non)).2 u:=fun j=>by
  by_cases D:j<as.length
  ·have d:j<kvs.length:=by omega
   obtain⟨a,ha,b,h1,h2⟩:=fu T j d
   obtain⟨_,ii,rr,o,U,f,n,hd⟩:=I.hok a _ h1
   obtain⟨Z,u2,rfl,r1,r2⟩:=lC rr
   cases(show Z=Value.ref b from r1)
   refine⟨b,u2,fun _=>?_⟩
   have W:as.getD j 0=a:=by rw[Kb,ha];rfl
   have K:kvs.getD j ([],.non)=kvs[j]:=by rw[Kb,JL d];rfl
   rw[W,K]
   exact⟨⟨o,n,U,f,hd⟩,h2,r2⟩
  ·exact⟨0,.none,fun z=>absurd z D⟩
 obtain⟨y,G⟩:∃y:Nat->Addr,∀j,∃u:Value,j<as.length->ym s.heap (as.getD j 0) (y j) u/\H (y j)=some (.tup ((kvs.getD j ([],.non)).1.map kV))/\aQ (kvs.getD j ([],.non)).2 u:=⟨fun j=>Classical.choose (ex j),fun j=>Classical.choose_spec (ex j)⟩
 obtain⟨F,B⟩:∃F:Nat->Value,∀j,j<as.length->ym s.heap (as.getD j 0) (y j) (F j)/\H (y j)=some (.tup ((kvs.getD j ([],.non)).1.map kV))/\aQ (kvs.getD j ([],.non)).2 (F j):=⟨fun j=>Classical.choose (G j),fun j=>Classical.choose_spec (G j)⟩
 have kt:∀i,i<=as.length->KT H (GS (kvs.take i)) (qM (fun j=>(kvs.getD j ([],.non)).1) y F i):=by
  intro i
  induction i with
  |zero=>intro _;exact .nil
  |succ i ih=>
   intro hi
   obtain⟨_,h2,M⟩:=B i hi
   have m:i<kvs.length:=by omega
   have K:kvs[i]?=some (kvs.getD i ([],.non)):=by rw[Kb,JL m];rfl
   have et:kvs.take (i+1)=kvs.take i++[kvs.getD i ([],.non)]:=by rw[KY,K];rfl
   unfold GS;rw[et,lq]
   exact KT.put (ih (by omega)) _ h2 M
 have mono:∀{g J:Heap} {k:List cP} {b:Addr},(∀o,g.get? b=some o->J.get? b=some o)->(tupleKind (aY X.prog X.w)).is g k b->(tupleKind (aY X.prog X.w)).is J k b:=fun hg ⟨o,C,n,z1,z2⟩=>⟨o,C,n,hg o z1,z2⟩
 refine gK (I.ok.hd hc) v (fun j=> .ref (y j)) F (DX:=fun i h=>h.DictOfH (tupleKind (aY X.prog X.w)) s.heap.objs.size (qM (fun j=>(kvs.getD j ([],.non)).1) y F i)) (KO:=fun j h=>(tupleKind (aY X.prog X.w)).is h (kvs.getD j ([],.non)).1 (y j)) (fun j D=>?_) (fun j D g J hg z=>mono (fun o q=>hg _ o (I.hok.lt (B j D).2.1) q) z) (fun i hi g J hg ⟨o,es,ep,a1,a2,a3,Y,a5,a6⟩=>⟨o,es,ep,hg _ _ (Jg _) a1,a2,a3,Y,fun x O=>mono (fun o q=>hg _ o (Ky (mS (P:=fun b=>b<s.heap.objs.size) i (fun j D=>I.hok.lt (B j (JO D hi)).2.1) x O)) q) (a5 x O),a6⟩) (fun i hi s' Q E k1 d1 q=>wpAny_dictSet_heap (show X.A.units+1+1<cLine by omega) k1 d1 (fun h' hd sb=>q h' _ (KZ _ _) hd sb) (Jn (m_ i) (Jn (Ky hi) (by simpa using N)))) (fun h' e=>⟨_,#[],0,e,⟨rfl,rfl,rfl⟩,rfl,rfl,(fun _ z=>nomatch z),Lk⟩) fun h' tk hd hk=>?_
 ·obtain⟨h1,h2,_⟩:=B j D
  exact⟨h1,ju I.hok h2⟩
 ·have S:=kt as.length (Jg _)
  rw[len,JI] at S
  rw[len] at hd
  obtain⟨o,es,ep,h1,h2,M,h4,h5,h6⟩:=hd
  have R:H s.heap.objs.size=none:=I.hok.fresh (Jg _)
  refine⟨.ref s.heap.objs.size,_,I.laid (a:=s.heap.objs.size) (o:=.dT (GS kvs)) (t':=tk) hk (Jg _) ⟨Jn vE (by rw[<-len];simpa using N),beq_eq_false_iff_ne.mpr (JH (Jw I.big)),_,S.keeps fun b ys z=>?_,o,es,ep,h1,h2,M,h4,h6⟩,rfl,q _ R⟩
  rw[ak (ar z R)];exact z
structure Nx (prog:Program) (w:World) (A:Around) (it src:Addr) (vals:Array Value) (St:Nat->Heap->Prop):Prop where
 obj:∀i h,St i h->∃o vs,h.get? it=some o/\o.data=.fields vs/\o.cls≠.type "zip" /\∃o',h.get? src=some o'
 keep:∀i h h',St i h->(∀o,h.get? it=some o->h'.get? it=some o)->(∀o,h.get? src=some o->h'.get? src=some o)->St i h'
 item:∀(i:Nat) (s:Shared) (Q:Value->Shared->Prop) (E:Value->Shared->Prop) (x:Value),St i s.heap->vals[i]?=some x->(∀h',St (i+1) h'->Heap.SameBut it s.heap h'->Q x {s with heap:=h'})->wpAny (model prog w) A (Builtin.SmallTypes.nextOf (.ref it)) Q E s
 done:∀(i:Nat) (s:Shared) (Q:Value->Shared->Prop) (E:Value->Shared->Prop),A.handled=none->St i s.heap->vals[i]?=none->
  (∀h' e,Heap.ExtBut it s.heap h'->(∃o,h'.get? e=some o/\o.cls=.type "StopIteration")->E (.ref e) {s with heap:=h'})->wpAny (model prog w) A (Builtin.SmallTypes.nextOf (.ref it)) Q E s
section
variable {prog:Program} {w:World} {A:Around} {E:Value->Shared->Prop} {s:Shared}
theorem qo{it:Addr}(c:IsTupIter s.heap it t i)(f:IsTup s.heap t items)(hx:items[i]?=some x)
  (g:∀h',IsTupIter h' it t (i+1)->Heap.SameBut it s.heap h'->Q x {s with heap:=h'}):wpAny (model prog w) A (Builtin.SmallTypes.nextOf (.ref it)) Q E s:=by
 obtain⟨o,d,e,hd⟩:=id c
 obtain⟨h,b,_,nl,a⟩:=f
 unfold Builtin.SmallTypes.nextOf
 refine Jc (KF (name:=Str.ofString "__next__") c.typeIs slot_tupleiter_next (JY slot_tupleiter_next c.typeIs entry_tupleiter_next ?_ (args_tupleiter_next _)))
 show wpAny _ _ (field (.ref it) 0>>=_) _ _ s
 refine Jc (J1 d hd (x:=.ref t) rfl ?_)
 show wpAny _ _ (if (Value.ref t==Value.none)=true then _ else _) _ _ s
 rw[if_neg (show¬((Value.ref t==Value.none)=true) from Ju)]
 show wpAny _ _ (field (.ref it) 1>>=_) _ _ s
 refine Jc (J1 d hd (x:=.int i 0) rfl ?_)
 show wpAny _ _ (seqItems? (.ref t)>>=_) _ _ s
 refine Jc (K0 b a ?_)
 simp only[Kh,hx]
 refine Jc (wpAny_setField d hd (by simp) (Jf ⟨x,rfl,Jf (g _ ?_ (Heap.SameBut.update ..))⟩))
 exact⟨_,KS _ d (Obj.isFreed_of_fields (Obj.data_mapFields hd _)),(Obj.cls_mapFields ..).trans e,by rw[Obj.data_mapFields hd];simp[rawInt]⟩
theorem sG{it:Addr}(g:A.handled=none)(d:IsTupIter s.heap it t i)(h:IsTup s.heap t items)(hx:items[i]?=none)
  (j:∀h' e,Heap.ExtBut it s.heap h'->(∃o,h'.get? e=some o/\o.cls=.type "StopIteration")->E (.ref e) {s with heap:=h'}):wpAny (model prog w) A (Builtin.SmallTypes.nextOf (.ref it)) Q E s:=by
 obtain⟨o,f,l,hd⟩:=id d
 obtain⟨n,c,_,nl,b⟩:=h
 unfold Builtin.SmallTypes.nextOf
 refine Jc (KF (name:=Str.ofString "__next__") d.typeIs slot_tupleiter_next (JY slot_tupleiter_next d.typeIs entry_tupleiter_next ?_ (args_tupleiter_next _)))
 show wpAny _ _ (field (.ref it) 0>>=_) _ _ s
 refine Jc (J1 f hd (x:=.ref t) rfl ?_)
 show wpAny _ _ (if (Value.ref t==Value.none)=true then _ else _) _ _ s
 rw[if_neg (show¬((Value.ref t==Value.none)=true) from Ju)]
 show wpAny _ _ (field (.ref it) 1>>=_) _ _ s
 refine Jc (J1 f hd (x:=.int i 0) rfl ?_)
 show wpAny _ _ (seqItems? (.ref t)>>=_) _ _ s
 refine Jc (K0 c b ?_)
 simp only[Kh,hx]
 refine Jc (Kj (Jc (wpAny_setField f hd (by simp) ?_)))
 show wpAny _ _ (newExc (.type "StopIteration") []>>=_) _ _ _
 refine Jc ?_
 simp only[newExc,newTuple]
 refine Jc (Kt ?_ (by size_fits))
 refine Jc (m:=firstArgMember _ _) (wpAny_of_eq (a:=Value.none) (by first|rfl|(simp only[firstArgMember];rfl)) (Kt ?_ (by size_fits)))
 simp only[raiseNew]
 refine Jc (wpAny_handled ?_)
 first|rw[show A.in1.handled=none from g]|rw[g]
 refine Jc (Jf (wpAny_throw ?_))
 exact j _ _ (((Heap.SameBut.update ..).extBut.push _).push _) ⟨_,Jx _ rfl,rfl⟩
theorem Nx.tup {it t:Addr}{items:Array Value}(d:t≠it):Nx prog w A it t items (fun i h=>IsTupIter h it t i/\IsTup h t items) where
 obj:=fun i h ⟨⟨o,h1,h2,l⟩,⟨o',e,_⟩⟩=>⟨o,_,h1,l,by rw[h2];decide,o',e⟩
 keep:=fun i h h' ⟨⟨o,h1,h2⟩,⟨o',e,f⟩⟩ k1 k2=>⟨⟨o,k1 _ h1,h2⟩,⟨o',k2 _ e,f⟩⟩
 item:=fun i s Q E x ⟨h1,h2⟩ c j=>qo h1 h2 c fun h' a b=>j h' ⟨a,h2.extBut b.extBut d⟩ b
 done:=fun i s Q E g ⟨h1,h2⟩ c m=>sG g h1 h2 c m
structure ZA (z TI TO i1 i2 s1 s2:Addr):Prop where
 TIz:TI≠z
 TOz:TO≠z
 i1z:i1≠z
 i2z:i2≠z
 TITO:TI≠TO
 TIi1:TI≠i1
 TIi2:TI≠i2
 TOi1:TO≠i1
 TOi2:TO≠i2
 i12:i1≠i2
 s1z:s1≠z
 s1TO:s1≠TO
 s1i2:s1≠i2
 s2z:s2≠z
 s2TO:s2≠TO
 s2i1:s2≠i1
theorem Cp {z TI TO n p W Z:Addr}{xs ys:Array Value}{M G:Nat->Heap->Prop}{i:Nat}{x y a b:Value}{Q:Value->Shared->Prop}(D:ZA z TI TO n p W Z)(P:Nx prog w A n W xs M)(O:Nx prog w A p Z ys G)
  (r:IsZip s.heap z TI TO .none) (I:IsPair s.heap TI (.ref n) (.ref p)) (U:IsPair s.heap TO a b) (h1:M i s.heap) (h2:G i s.heap) (hx:xs[i]?=some x) (hy:ys[i]?=some y)
  (hQ:∀h',IsZip h' z TI TO (rawInt s.heap.objs.size)->IsPair h' TO x y->M (i+1) h'->G (i+1) h'->IsPair h' s.heap.objs.size x y->h'.objs.size=s.heap.objs.size+1->
   (∀c o,c≠z->c≠TO->c≠n->c≠p->s.heap.get? c=some o->h'.get? c=some o)->Q (.ref s.heap.objs.size) {s with heap:=h'}):
  wpAny (model prog w) A (Builtin.«zip.__next__» ⟨[.ref z],[]⟩) (fun R s'=>∃v,R=.done (.ret v)/\Q v s') E s:=by
 show wpAny _ _ (field (.ref z) 2>>=_) _ _ _
 refine Jc (J1 r rfl (x:=.bool false) rfl ?_)
 show wpAny _ _ (field (.ref z) 3>>=_) _ _ _
 refine Jc (J1 r rfl (x:=.ref TI) rfl (Jc (K0 I rfl ?_)))
 show wpAny _ _ (Builtin.SmallTypes.ownedTupleIsFree (.ref z)>>=_) _ _ _
 refine Jc ?_
 unfold Builtin.SmallTypes.ownedTupleIsFree
 refine Jc (J1 r rfl (x:=.none) rfl (Jf ?_))
 simp only[if_true]
 refine Jc (Kj (Jc (J1 r rfl (x:=.ref TO) rfl (Jc (Lp r (by simp) fun g1 T k1=>?_)))))
 replace T:IsZip g1 z TI TO .ellipsis:=T
 refine Jc ?_
 simp only[List.zipIdx_cons,List.zipIdx_nil,List.forIn_cons,List.forIn_nil]
 refine Jc (Jc (wpAny_onRaise ?_))
 show wpAny _ _ (Builtin.SmallTypes.nextOf (.ref n)>>=_) _ _ _
 refine Jc (P.item i {s with heap:=g1} _ _ x (P.keep _ _ _ h1 (fun o e=>k1.extBut _ _ D.i1z e) (fun o e=>k1.extBut _ _ D.s1z e)) hx fun g2 a1 k2=>Jf ?_)
 have t2:IsPair g2 TO a b:=k2.extBut _ _ D.TOi1 (k1.extBut _ _ D.TOz U)
 refine Jc (K0 t2 rfl (Jc (wpAny_updateSeq_pair t2 fun Y t3 k3=>?_)))
 replace t3:IsPair Y TO x b:=t3
 refine Jc (wpAny_letGo (Jf ?_))
 refine Jc (Jc (wpAny_onRaise ?_))
 show wpAny _ _ (Builtin.SmallTypes.nextOf (.ref p)>>=_) _ _ _
 refine Jc (O.item i {s with heap:=Y} _ _ y (O.keep _ _ _ h2 (fun o e=>k3.extBut _ _ D.TOi2.symm (k2.extBut _ _ D.i12.symm (k1.extBut _ _ D.i2z e))) (fun o e=>k3.extBut _ _ D.s2TO (k2.extBut _ _ D.s2i1 (k1.extBut _ _ D.s2z e)))) hy fun g4 a2 q=>Jf ?_)
 have t4:IsPair g4 TO x b:=q.extBut _ _ D.TOi2 t3
 refine Jc (K0 t4 rfl (Jc (wpAny_updateSeq_pair t4 fun l C k5=>?_)))
 replace C:IsPair l TO x y:=C
 refine Jc (wpAny_letGo (Jf (Jf ?_)))
 refine Jc (K0 C rfl (Jc (wpAny_newTuple ?_)))
 have h:l.objs.size=s.heap.objs.size:=by rw[k5.1,q.1,k3.1,k2.1,k1.1]
 have X:IsZip l z TI TO .ellipsis:=k5.extBut _ _ D.TOz.symm (q.extBut _ _ D.i2z.symm (k3.extBut _ _ D.TOz.symm (k2.extBut _ _ D.i1z.symm T)))
 have j:∀c o,c≠z->c≠TO->c≠n->c≠p->s.heap.get? c=some o->l.get? c=some o:=fun c o m B N K e=>k5.extBut _ _ B (q.extBut _ _ K (k3.extBut _ _ B (k2.extBut _ _ N (k1.extBut _ _ m e))))
 have d:z<l.objs.size:=Jm X
 show wpAny _ _ (Builtin.SmallTypes.ownedTupleHandOut (.ref z) (.ref l.objs.size)>>=_) _ _ _
 refine Jc ?_
 unfold Builtin.SmallTypes.ownedTupleHandOut
 have z6:IsZip (l.push {cls:=.type "tuple",data:=.seq #[x,y]}) z TI TO .ellipsis:=Jj _ X
 refine Jc (Lp z6 (by simp) fun g7 H S=>?_)
 replace H:IsZip g7 z TI TO (rawInt l.objs.size):=H
 refine Lp H (by simp) fun u F J=>?_
 replace F:IsZip u z TI TO (rawInt l.objs.size):=F
 have up:∀c o,c≠z->l.get? c=some o->u.get? c=some o:=fun c o m e=>J.extBut _ _ m (S.extBut _ _ m (Jj _ e))
 have f:IsPair u l.objs.size x y:=J.extBut _ _ (KN d) (S.extBut _ _ (KN d) (Jx _ rfl))
 have g:u.objs.size=l.objs.size+1:=by rw[J.1,S.1,J6]
 rw[h] at F f g
 refine Jf ⟨_,rfl,?_⟩
 show Q (.ref l.objs.size) _
 rw[h]
 exact hQ u F (up _ _ D.TOz C)
  (P.keep _ _ _ a1 (fun o e=>up _ o D.i1z (k5.extBut _ _ D.TOi1.symm (q.extBut _ _ D.i12 (k3.extBut _ _ D.TOi1.symm e)))) (fun o e=>up _ o D.s1z (k5.extBut _ _ D.s1TO (q.extBut _ _ D.s1i2 (k3.extBut _ _ D.s1TO e)))))
  (O.keep _ _ _ a2 (fun o e=>up _ o D.i2z (k5.extBut _ _ D.TOi2.symm e)) (fun o e=>up _ o D.s2z (k5.extBut _ _ D.s2TO e))) f g fun c o m B N K e=>up c o m (j c o m B N K e)
theorem ER{TI TO:Addr}{I G:Nat->Heap->Prop}{Q:Fin->Shared->Prop}(H:A.handled=none)(D:ZA z TI TO i1 i2 s1 s2)(B:Nx prog w A i1 s1 xs I)(J:Nx prog w A i2 s2 ys G)
  (l:IsZip s.heap z TI TO .none) (u:IsPair s.heap TI (.ref i1) (.ref i2)) (F:IsPair s.heap TO a b) (h1:I i s.heap) (X:G i s.heap) (n:xs[i]?=none\/ys[i]?=none)
  (K:∀h' e,(∀c o,c≠z->c≠TO->c≠i1->c≠i2->s.heap.get? c=some o->h'.get? c=some o)->(∃o,h'.get? e=some o/\o.cls=.type "StopIteration")->E (.ref e) {s with heap:=h'}):
  wpAny (model prog w) A (Builtin.«zip.__next__» ⟨[.ref z],[]⟩) Q E s:=by
 show wpAny _ _ (field (.ref z) 2>>=_) _ _ _
 refine Jc (J1 l rfl (x:=.bool false) rfl ?_)
 show wpAny _ _ (field (.ref z) 3>>=_) _ _ _
 refine Jc (J1 l rfl (x:=.ref TI) rfl (Jc (K0 u rfl ?_)))
 show wpAny _ _ (Builtin.SmallTypes.ownedTupleIsFree (.ref z)>>=_) _ _ _
 refine Jc ?_
 unfold Builtin.SmallTypes.ownedTupleIsFree
 refine Jc (J1 l rfl (x:=.none) rfl (Jf ?_))
 simp only[if_true]
 refine Jc (Kj (Jc (J1 l rfl (x:=.ref TO) rfl (Jc (Lp l (by simp) fun p q k1=>?_)))))
 replace q:IsZip p z TI TO .ellipsis:=q
 refine Jc ?_
 simp only[List.zipIdx_cons,List.zipIdx_nil,List.forIn_cons,List.forIn_nil]
 refine Jc (Jc (wpAny_onRaise ?_))
 show wpAny _ _ (Builtin.SmallTypes.nextOf (.ref i1)>>=_) _ _ _
 have j:=B.keep _ _ p h1 (fun o e=>k1.extBut _ _ D.i1z e) (fun o e=>k1.extBut _ _ D.s1z e)
 cases hx:xs[i]? with
 |none=>
  refine Jc (B.done i {s with heap:=p} _ _ H j hx fun r e k2 C=>?_)
  obtain⟨oe,d,f⟩:=C
  have M:IsZip r z TI TO .ellipsis:=k2 _ _ D.i1z.symm q
  have g:e≠z:=fun x=>by subst x;rw[M] at d;cases d;simp at f
  exact Lp M (by simp) fun y _ k3=>K y e (fun c o m _ v _ x=>k3.extBut _ _ m (k2 _ _ v (k1.extBut _ _ m x))) ⟨oe,k3.extBut _ _ g d,f⟩
 |some x=>
  have W:ys[i]?=none:=by rcases n with h|h;rw[hx] at h;cases h;exact h
  refine Jc (B.item i {s with heap:=p} _ _ x j hx fun r Y k2=>Jf ?_)
  have O:IsPair r TO a b:=k2.extBut _ _ D.TOi1 (k1.extBut _ _ D.TOz F)
  refine Jc (K0 O rfl (Jc (wpAny_updateSeq_pair O fun y t3 k3=>?_)))
  refine Jc (wpAny_letGo (Jf ?_))
  refine Jc (Jc (wpAny_onRaise ?_))
  show wpAny _ _ (Builtin.SmallTypes.nextOf (.ref i2)>>=_) _ _ _
  refine Jc (J.done i {s with heap:=y} _ _ H (J.keep _ _ _ X (fun o e=>k3.extBut _ _ D.TOi2.symm (k2.extBut _ _ D.i12.symm (k1.extBut _ _ D.i2z e))) (fun o e=>k3.extBut _ _ D.s2TO (k2.extBut _ _ D.s2i1 (k1.extBut _ _ D.s2z e)))) W fun T e P C=>?_)
  obtain⟨oe,d,f⟩:=C
  have N:IsZip T z TI TO .ellipsis:=P _ _ D.i2z.symm (k3.extBut _ _ D.TOz.symm (k2.extBut _ _ D.i1z.symm q))
  have g:e≠z:=fun x=>by subst x;rw[N] at d;cases d;simp at f
  exact Lp N (by simp) fun R _ k5=>K R e (fun c o m U v S x=>k5.extBut _ _ m (P _ _ S (k3.extBut _ _ U (k2.extBut _ _ v (k1.extBut _ _ m x))))) ⟨oe,k5.extBut _ _ g d,f⟩
end
theorem nV{a:List (Addr×Obj)}(I:aI X a σ H s)(h:cn X.K H t xs)(f:js X a H b):t≠b:=fun z=>by
 subst z
 obtain⟨d,m,l,f3,i,j⟩:=f
 rcases h with (h|⟨_,h⟩)|⟨o,e,n,g,_⟩
 ·rw[d] at h;cases h
 ·rw[d] at h;cases h
 ·have c:=I.ok.mod.kin _ _ g
  rcases f3 with f3|f3
  ·exact I.ok.noex _ _ c f3
  ·exact absurd (JO (Jm (I.ok.bs _ _ c).1) f3) (Km _)
noncomputable def AA (K:Je) (a b:Addr):It:=
 ⟨fun i H=>∃xs ys x y,cn K H a xs/\cn K H b ys/\xs[i]?=some x/\ys[i]?=some y,
  fun i H x H'=>∃p c d,H p=none/\x=.ref p/\H'=upd H p (.tup [c,d])/\(∀xs,cn K H a xs->xs[i]?=some c)/\∀ys,cn K H b ys->ys[i]?=some d,
  fun i H=>∃xs ys,cn K H a xs/\cn K H b ys/\(xs.length<=i\/ys.length<=i)⟩
def GG (z TI TO c d e f:Addr) (i:Nat) (h:Heap):Prop:=IsZip h z TI TO .none/\IsPair h TI (.ref c) (.ref d)/\(∃a b,IsPair h TO a b)/\IsTupIter h c e i/\IsTupIter h d f i
theorem xM {P:Program}{w:World}{K:Je}{bl:List Expr}{x1:Nat}{b6:Pos}(z TI TO i1 i2 t1 t2:Addr)(D0:TI≠z/\TO≠z/\i1≠z/\i2≠z/\TI≠TO/\TI≠i1/\TI≠i2/\TO≠i1/\TO≠i2/\i1≠i2):
  kP P w K (.Tuple bl x1 b6) (AA K t1 t2) [z,TI,TO,i1,i2] z (GG z TI TO i1 i2 t1 t2) where
 mem:=by simp
 obj:=fun i h st b hb=>by
  obtain⟨h1,h2,⟨a,c,h3⟩,⟨o4,h4,_,d4⟩,⟨o5,h5,_,d5⟩⟩:=st
  simp only[Jo,JM,or_false] at hb
  rcases hb with rfl|rfl|rfl|rfl|rfl
  ·exact⟨_,h1,fun v e=>by have e':Data.fields _=Data.cell v:=e;cases e'⟩
  ·exact⟨_,h2,fun v e=>by have e':Data.seq _ _=Data.cell v:=e;cases e'⟩
  ·exact⟨_,h3,fun v e=>by have e':Data.seq _ _=Data.cell v:=e;cases e'⟩
  ·exact⟨_,h4,fun v e=>by rw[d4] at e;cases e⟩
  ·exact⟨_,h5,fun v e=>by rw[d5] at e;cases e⟩
 keep:=fun i h h' ⟨h1,h2,⟨a,c,h3⟩,⟨o4,h4,c4,d4⟩,⟨o5,h5,c5,d5⟩⟩ k=>⟨k z (by simp) _ h1,k TI (by simp) _ h2,⟨a,c,k TO (by simp) _ h3⟩,⟨o4,k i1 (by simp) _ h4,c4,d4⟩,⟨o5,k i2 (by simp) _ h5,c5,d5⟩⟩
 item:=by
  intro X hP hw hK hc i pins s σ H E I hf st hg
  subst hP hw hK
  obtain⟨xs,ys,x,y,j,g,hx,hy⟩:=hg
  obtain⟨hz,B,⟨a,b,J⟩,O,M⟩:=st
  obtain⟨G,r1,p1,_⟩:=I.tuple j
  obtain⟨C,r2,p2,_⟩:=I.tuple g
  obtain⟨u1,W,Z⟩:=r1.get hx
  obtain⟨u2,ad,am⟩:=r2.get hy
  obtain⟨d1,d2,d3,d4,d5,d6,d7,d8,d9,R⟩:=D0
  have f:∀b∈[z,TI,TO,i1,i2],t1≠b:=fun b hb=>nV I j (hf b hb)
  have d:∀b∈[z,TI,TO,i1,i2],t2≠b:=fun b hb=>nV I g (hf b hb)
  have D:ZA z TI TO i1 i2 t1 t2:=⟨d1,d2,d3,d4,d5,d6,d7,d8,d9,R,f _ (by simp),f _ (by simp),f _ (by simp),d _ (by simp),d _ (by simp),d _ (by simp)⟩
  have hT:s.TypeIs (.ref z) "zip" :=⟨_,hz,rfl⟩
  have nT:s.heap.get? s.heap.objs.size=none:=Lw (Jg _)
  have S:∀b∈[z,TI,TO,i1,i2],b<s.heap.objs.size:=fun b hb=>by
   obtain⟨_,e4,_⟩:=O
   obtain⟨_,e5,_⟩:=M
   simp only[Jo,JM,or_false] at hb
   rcases hb with rfl|rfl|rfl|rfl|rfl
   ·exact Jm hz
   ·exact Jm B
   ·exact Jm J
   ·exact Jm e4
   ·exact Jm e5
  unfold pyNext
  refine Jc (Ku (KF (name:=Str.ofString "__next__") hT F.slot_zip_next (JY F.slot_zip_next hT F.entry_zip_next
   (Cp D (Nx.tup (items:=G.toArray) (f _ (by simp))) (Nx.tup (items:=C.toArray) (d _ (by simp))) hz B J ⟨O,p1⟩ ⟨M,p2⟩ (by simpa using W) (by simpa using ad) fun h' a1 a2 a3 a4 a5 a6 hk=>Jf ⟨_,rfl,?_⟩) (F.args_zip_next_1 _))))
  refine wpAny_letOwnedTupleGo_zip (s:={s with heap:=h'}) a1 fun h2 ca sb=>?_
  replace sb:Heap.SameBut z h' h2:=sb
  have ab:z<s.heap.objs.size:=S z (by simp)
  have an:h2.get? s.heap.objs.size=some {cls:=.type "tuple",data:=.seq #[u1,u2]}:=(sb.2 _ (KN ab)).trans a5
  refine⟨.ref s.heap.objs.size,upd H s.heap.objs.size (.tup [x,y]),aI.turnedLaid (s:=s) (h':=h2) (fp:=[z,TI,TO,i1,i2]) (t':=s.toks) I hf (fun b v hb q=>?_) nT ?_,rfl,⟨_,x,y,I.hok.none_of nT,rfl,rfl,fun l hl=>by rw[I.tuple_inj hl j];exact hx,fun l hl=>by rw[I.tuple_inj hl g];exact hy⟩,
   ⟨ca,?_,⟨_,_,(sb.2 _ d2).trans a2⟩,?_,?_⟩,fun b hb=>?_⟩
  ·have p:b≠z/\b≠TO/\b≠i1/\b≠i2:=⟨fun e=>hb (by simp[e]),fun e=>hb (by simp[e]),fun e=>hb (by simp[e]),fun e=>hb (by simp[e])⟩
   exact(sb.2 b p.1).trans (hk b v p.1 p.2.1 p.2.2.1 p.2.2.2 q)
  ·exact⟨by show 2<=sizeLine;decide,_,.cons Z (.cons am .nil),_,an,rfl,_,rfl⟩
  ·exact(sb.2 _ d1).trans (hk _ _ d1 d5 d6 d7 B)
  ·obtain⟨o,e,r⟩:=a3.1
   exact⟨o,(sb.2 _ d3).trans e,r⟩
  ·obtain⟨o,e,r⟩:=a4.1
   exact⟨o,(sb.2 _ d4).trans e,r⟩
  ·rw[ak (Jw (S b hb))];exact(hf b hb).1
 done:=by
  intro X hP hw hK hc i pins s σ H E I hf st hg
  subst hP hw hK
  obtain⟨xs,ys,j,g,U⟩:=hg
  obtain⟨hz,B,⟨a,b,J⟩,O,M⟩:=st
  obtain⟨G,r1,p1,_⟩:=I.tuple j
  obtain⟨C,r2,p2,_⟩:=I.tuple g
  have e1:=r1.length
  have e2:=r2.length
  obtain⟨d1,d2,d3,d4,d5,d6,d7,d8,d9,R⟩:=D0
  have f:∀b∈[z,TI,TO,i1,i2],t1≠b:=fun b hb=>nV I j (hf b hb)
  have d:∀b∈[z,TI,TO,i1,i2],t2≠b:=fun b hb=>nV I g (hf b hb)
  have D:ZA z TI TO i1 i2 t1 t2:=⟨d1,d2,d3,d4,d5,d6,d7,d8,d9,R,f _ (by simp),f _ (by simp),f _ (by simp),d _ (by simp),d _ (by simp),d _ (by simp)⟩
  have hT:s.TypeIs (.ref z) "zip" :=⟨_,hz,rfl⟩
  unfold pyNext
  refine Jc (Ku (KF (name:=Str.ofString "__next__") hT F.slot_zip_next (JY F.slot_zip_next hT F.entry_zip_next
   (ER (show X.A.in1.handled=none from I.ok.hd hc) D (Nx.tup (items:=G.toArray) (f _ (by simp))) (Nx.tup (items:=C.toArray) (d _ (by simp))) hz B J ⟨O,p1⟩ ⟨M,p2⟩ ?_ fun h' e hk he=>?_) (F.args_zip_next_1 _))))
  ·rcases U with h|h
   ·exact .inl (L1 (by simp;lia))
   ·exact .inr (L1 (by simp;lia))
  ·obtain⟨o,ho,ap⟩:=he
   refine Jc (Lb (T:= "StopIteration") (b:=true) ⟨o,ho,ap⟩ isSubtype_stop ?_)
   refine Jf ⟨rfl,?_⟩
   refine I.step (g':=s.gens) (d':=s.drawn) (t':=s.toks) (h':=h') (ch:=[z,TI,TO,i1,i2]) (fun b hb=>⟨(hf b hb).2.2.2.1,(hf b hb).2.1,(hf b hb).2.2.2.2.1,(hf b hb).2.2.2.2.2⟩) (fun b u _ _ hc' q _=>?_) (fun b u _ _ hc' q _=>⟨u.slots,?_⟩) (fun b u _ _ n=>n) (fun b u hc' q=>⟨u,?_⟩) (fun b xs q=>q) (fun b u xs q=>q) (fun b ps q=>⟨#[],by rw[q];simp⟩) (fun m hm=>?_) (fun b u q=>?_) I.bare
   ·exact hk b u (fun e=>hc' (by simp[e])) (fun e=>hc' (by simp[e])) (fun e=>hc' (by simp[e])) (fun e=>hc' (by simp[e])) q
   ·exact hk b u (fun e=>hc' (by simp[e])) (fun e=>hc' (by simp[e])) (fun e=>hc' (by simp[e])) (fun e=>hc' (by simp[e])) q
   ·exact hk b u (fun e=>hc' (by simp[e])) (fun e=>hc' (by simp[e])) (fun e=>hc' (by simp[e])) (fun e=>hc' (by simp[e])) q
   ·obtain⟨o',es,ep,Y,r⟩:=hm
    have nl:∀b∈[z,TI,TO,i1,i2],X.env.locals≠b:=fun b hb=>JH (hf b hb).2.1
    exact⟨o',es,ep,hk _ o' (nl _ (by simp)) (nl _ (by simp)) (nl _ (by simp)) (nl _ (by simp)) Y,r⟩
   ·have sy:∀b∈[z,TI,TO,i1,i2],∀c u,H c=some u->c≠b:=fun b hb c u e z=>by rw[z,(hf b hb).1] at e;cases e
    refine(I.hok b u q).stay (fun c v hc' e=>?_) (fun _ e=>e) fun _ _ e=>e
    have ac:∃u',H c=some u':=by
     rcases hc' with rfl|hc'
     ·exact⟨_,q⟩
     ·exact⟨_,hc'⟩
    obtain⟨u',N⟩:=ac
    exact hk c v (sy _ (by simp) c u' N) (sy _ (by simp) c u' N) (sy _ (by simp) c u' N) (sy _ (by simp) c u' N) e
 self:=fun A i s Q E st h=>wpAny_pyIter_zip st.1 h
abbrev Cn (h:Heap) (l1:Addr):Heap:=h.push {cls:=.type "tuple_iterator",data:=.fields #[.ref l1,.int 0 0]}
abbrev Dl (h:Heap) (l1 l2:Addr):Heap:=(Cn h l1).push {cls:=.type "tuple_iterator",data:=.fields #[.ref l2,.int 0 0]}
abbrev BY (h:Heap) (l1 l2:Addr):Heap:=(Dl h l1 l2).push {cls:=.type "tuple",data:=.seq #[.ref h.objs.size,.ref (Cn h l1).objs.size]}
abbrev Dr (h:Heap) (l1 l2:Addr):Heap:=(BY h l1 l2).push {cls:=.type "tuple",data:=.seq #[.none,.none]}
abbrev uc (h:Heap) (l1 l2:Addr):Heap:=(Dr h l1 l2).push {cls:=.type "zip",data:=.fields #[.none,.bool false,.bool false,.ref (Dl h l1 l2).objs.size,.ref (BY h l1 l2).objs.size]}
theorem yL (l1 a:Addr)(xs ys:Array Value):Meets (Builtin.«zip.__new__» ⟨[.type "zip",.ref l1,.ref a],[]⟩) (fun _ R s=>IsTup s.heap l1 xs/\IsTup s.heap a ys/\R (.ok (.ret (.ref (Dr s.heap l1 a).objs.size))) {s with heap:=uc s.heap l1 a}):=
 .of_wp fun prog w A R s h=>by
  obtain⟨b,g,d,tk,os⟩:=s;obtain⟨c,e,h⟩:=h
  have sz:=sub_zip
  have f:IsTup (Shared.heap ⟨b,g,d,tk,os⟩) l1 xs:=c
  have b2:IsTup (Shared.heap ⟨b.push {cls:=.type "tuple_iterator",data:=.fields #[.ref l1,.int 0 0]},g,d,tk,os⟩) a ys:=IsTup.push e _
  wp_walk using iter_tuple f,iter_tuple b2
  exact⟨_,rfl,h⟩
theorem xy{l1:Addr}(g:IsTup s.heap l1 xs)(d:IsTup s.heap l2 ys)
  (h:∀h',GG (s.heap.objs.size+4) (s.heap.objs.size+2) (s.heap.objs.size+3) s.heap.objs.size (s.heap.objs.size+1) l1 l2 0 h'->h'.objs.size=s.heap.objs.size+5->(∀c o,s.heap.get? c=some o->h'.get? c=some o)->Q (.ref (s.heap.objs.size+4)) {s with heap:=h'}):
  wpAny (model prog w) A (call (.type "zip") [.ref l1,.ref l2]) Q E s:=by
 refine callType_new F.called_zip (by decide) (F.typeCall_zip_2 _ _) (F.newCall_zip_2 _ _) (fun a=>F.args_object_init_3 a _ _) F.entry_zip_new (yL l1 l2 xs ys) ⟨g,d,?_⟩
 have j:(Cn s.heap l1).objs.size=s.heap.objs.size+1:=J6 ..
 have f:(Dl s.heap l1 l2).objs.size=s.heap.objs.size+2:=by rw[J6,j]
 have e:(BY s.heap l1 l2).objs.size=s.heap.objs.size+3:=by rw[J6,f]
 have i:(Dr s.heap l1 l2).objs.size=s.heap.objs.size+4:=by rw[J6,e]
 have p:(uc s.heap l1 l2).objs.size=s.heap.objs.size+5:=by rw[J6,i]
 have b:(uc s.heap l1 l2).get? (Dr s.heap l1 l2).objs.size=some _:=Jx _ rfl
 have m:(uc s.heap l1 l2).get? (BY s.heap l1 l2).objs.size=some _:=Jj _ (Jx _ rfl)
 have n:(uc s.heap l1 l2).get? (Dl s.heap l1 l2).objs.size=some _:=Jj _ (Jj _ (Jx _ rfl))
 have l:(uc s.heap l1 l2).get? (Cn s.heap l1).objs.size=some _:=Jj _ (Jj _ (Jj _ (Jx _ rfl)))
 have q:(uc s.heap l1 l2).get? s.heap.objs.size=some _:=Jj _ (Jj _ (Jj _ (Jj _ (Jx _ rfl))))
 show _/\_
 rw[f,e,i] at b
 rw[j,f] at n
 rw[e] at m
 rw[j] at l
 rw[i]
 exact⟨⟨_,b,rfl⟩,h _ ⟨b,n,⟨_,_,m⟩,⟨_,q,rfl,rfl⟩,⟨_,l,rfl,rfl⟩⟩ p fun c o x=>Jj _ (Jj _ (Jj _ (Jj _ (Jj _ x))))⟩
def G7 (K:Je) (ta:TA):TI:=fun σ H R=>ta σ H fun vs H1=>∃a b,vs=[.ref a,.ref b]/\(∃xs,cn K H1 a xs)/\(∃ys,cn K H1 b ys)/\R (AA K a b) H1
theorem Cc(A:Gl X "zip")(F:X.mg "zip" =none)(x:PA X [a,b] ta)(N:starEach [a,b] X.env=[(false,eval a X.env),(false,eval b X.env)]:=by rfl)
  (B:starEach [a,b] X.env=(false,eval a X.env)::starEach [b] X.env:=by rfl) (r:(backTo pos (starEach [b] X.env)).any (·.1)=false:=by rfl):
  PI X (.Tuple elts x1 pt) (.Call (.Name "zip" p) [a,b] [] pos) (G7 X.K ta):=by
 intro pins s σ H R I h
 refine K7 (gF I A F Fq ?_ (by decide) (by decide))
 refine PyProof.Rows.callWith_type1 (bZ (x pos pins s σ H _ I h) fun us o G=>?_) B r
 obtain⟨vs,H1,I1,J,l1,v,E,⟨xs,f⟩,⟨ys,e⟩,q⟩:=G
 subst E
 obtain⟨y,D,rfl,d,g⟩:=lC J
 cases(show y=Value.ref l1 from d)
 cases(show D=Value.ref v from g)
 obtain⟨i,m,w,_⟩:=I1.tuple f
 obtain⟨j,l,p2,_⟩:=I1.tuple e
 refine xy w p2 fun h' st sz C=>?_
 refine wpAny_pyIter_zip (s:={o with heap:=h'}) st.1 ?_
 refine⟨o.heap.objs.size+4,[o.heap.objs.size+4,o.heap.objs.size+2,o.heap.objs.size+3,o.heap.objs.size,o.heap.objs.size+1],_,_,H1,rfl,I1.kept (t':=o.toks) C,xM _ _ _ _ _ l1 v ?_,st,fun b u=>?_,q⟩
 ·generalize o.heap.objs.size=n
  refine⟨?_,?_,?_,?_,?_,?_,?_,?_,?_,?_⟩<;>(intro z;have M:(_:Nat)=_:=z;lia)
 ·have c:o.heap.objs.size<=b:=by
   simp only[Jo,JM,or_false] at u
   rcases u with rfl|rfl|rfl|rfl|rfl
   ·exact KZ _ _
   ·exact KZ _ _
   ·exact KZ _ _
   ·exact Jg _
   ·exact KZ _ _
  exact I1.fpOk c (I1.hok.fresh c)
theorem Bf {K:Je}{a b:Addr}{xs ys:List V}{g:TG}{n:TS}{D:fJ}{c:St}{H:Hp}(s:xs.length=ys.length)(d:Nat->St->Hp->Prop)(h0:d 0 c H)(B:∀i c H,i<=xs.length->d i c H->cn K H a xs/\cn K H b ys)
  (v:∀i x y p c H,xs[i]?=some x->ys[i]?=some y->H p=none->d i c H->g (.ref p) c (upd H p (.tup [x,y])) fun f H2=>n {D with nx:=d (i+1),ct:=d (i+1),bk:=D.nx} f H2) (hd:∀c H,d xs.length c H->D.nx c H):
  ∃W:Nat->Nat->St->Hp->Prop,(∃m,W 0 m c H)/\∀i m c H,W i m c H->
   ((AA K a b).stop i H/\D.nx c H)\/((AA K a b).go i H/\∃N:St->Hp->Prop,(∀h H',N h H'->∃o,o<m/\W (i+1) o h H')/\∀x H',(AA K a b).yld i H x H'->g x c H' fun f H2=>n {D with nx:=N,ct:=N,bk:=D.nx} f H2):=by
 refine⟨fun i m c H=>m=xs.length - i/\i<=xs.length/\d i c H,⟨xs.length,by simp,JA _,h0⟩,?_⟩
 rintro i m c H ⟨rfl,hi,p⟩
 obtain⟨j,l⟩:=B i c H hi p
 by_cases hlt:i<xs.length
 ·refine .inr ⟨⟨xs,ys,xs[i],ys[i],j,l,by simp[hlt],by simp[show i<ys.length by lia]⟩,d (i+1),fun h H' q=>⟨xs.length - (i+1),by lia,rfl,hlt,q⟩,fun x H' z=>?_⟩
  obtain⟨P,u,C,A,rfl,rfl,r,w⟩:=z
  exact v i u C P c _ (r xs j) (w ys l) A p
 ·have e:i=xs.length:=by lia
  subst e
  exact .inl ⟨⟨xs,ys,j,l,.inl (Jg _)⟩,hd c H p⟩
section
variable {prog:Program} {w:World} {A:Around} {E:Value->Shared->Prop} {s:Shared} {d it v:Addr} {o:Obj} {es:Array DictEntry} {i ep:Nat}
theorem vK(hd:(d==sysModules)=false)(c:s.heap.get? d=some o)(b:o.ExactDict)
  (h:Q (.ref s.heap.objs.size) {s with heap:=s.heap.push {cls:=.type "dict_values",data:=.fields #[.ref d]}}):wpAny (model prog w) A (call (.builtin "dict.values") [.ref d]) Q E s:=by
 have a:s.TypeIs (.ref d) "dict" :=⟨o,c,b.1⟩
 refine JY F.slot_dict_values a F.entry_dict_values ?_ (F.args_dict_values_1 _)
 refine Jc ?_
 unfold Builtin.Dict.noArgs
 refine Jc (LY a ?_)
 show wpAny _ _ (pure d) _ _ s
 refine Jf ?_
 show wpAny _ _ (Builtin.Dict.showsAll d>>=_) _ _ s
 unfold Builtin.Dict.showsAll
 rw[if_neg (by rw[hd];exact Ju)]
 exact Jc (Jf (Jc (Kt (Jf ⟨_,rfl,h⟩))))
theorem B4(f:s.heap.IsValuesView v d)(g:s.heap.get? d=some o)(e:o.data=.dict es ep)
  (h:Q (.ref s.heap.objs.size) {s with heap:=s.heap.push {cls:=.type "dict_valueiterator",data:=.fields #[.ref d,.int 0 0,.int es.size 0,.int ep 0]}}):wpAny (model prog w) A (pyIter (.ref v)) Q E s:=by
 obtain⟨i,b,c,a⟩:=id f
 refine wpAny_pyIter_slot f.typeIs F.slot_dict_values_iter (JY F.slot_dict_values_iter f.typeIs F.entry_dict_values_iter ?_ (F.args_dict_values_iter_1 _))
 unfold Builtin.«dict_values.__iter__»
 refine Jc (Jf (Jc ?_))
 unfold Builtin.Dict_items.dictOf
 refine Jc (J1 b a (x:=.ref d) rfl (Jf (Jc ?_)))
 unfold Builtin.Dict_items.newIterator
 refine Jc (KG g e (Jc (Ln g e ?_)))
 simp only[show Builtin.Dict_items.ownsTuple "dict_valueiterator" =false by decide,KW,if_false]
 refine Kt (Jf ⟨_,rfl, "dict_valueiterator",_,⟨_,Jx _ rfl,rfl⟩,F.slot_dict_valueiterator_next.lookup,?_⟩)
 simpa[rawInt] using h
theorem Dy(a:s.heap.IsValIter it d i es.size ep)(b:s.heap.get? d=some o)(c:o.data=.dict es ep)(g:i<es.size)
  (h:∀h',h'.IsValIter it d (i+1) es.size ep->Heap.SameBut it s.heap h'->Q (some es[i].val) {s with heap:=h'}):wpAny (model prog w) A (pyNext (.ref it)) Q E s:=by
 obtain⟨j,e,f,hd⟩:=id a
 unfold pyNext
 refine Jc (Ku (KF (name:=Str.ofString "__next__") a.typeIs F.slot_dict_valueiterator_next
  (JY F.slot_dict_valueiterator_next a.typeIs F.entry_dict_valueiterator_next ?_ (F.args_dict_valueiterator_next_1 _))))
 refine Jc (Jf (Jc (Jc ?_)))
 refine Jc (L0 a.typeIs (Jf ?_))
 refine Jc (wpAny_fieldsOf e hd ?_)
 simp only[show Builtin.Dict_items.ownsTuple "dict_valueiterator" =false by decide,KW,if_false]
 show wpAny _ _ (if (Value.ref d==Value.none)=true then _ else _) _ _ s
 rw[if_neg (show¬((Value.ref d==Value.none)=true) from Ju)]
 refine Jc (Jf (Jc (KG b c ?_)))
 rw[if_neg (by simp)]
 refine Jc (Jf (Jc (Ln b c ?_)))
 rw[if_neg (by simp)]
 refine Jf ?_
 simp only[show¬((i:Int)<0) from by lia,if_false,Kh,Lc g]
 refine Jc ?_
 refine Jc (L0 a.typeIs (Jf ?_))
 refine Jc (wpAny_isOneOf_valiter a.typeIs ?_)
 show wpAny _ _ (setField (.ref it) 1 (rawInt ((i:Int)+1))>>=_) _ _ s
 refine Jc (wpAny_setField e hd (by simp) ?_)
 have new:(s.heap.update it (Obj.mapFields (·.setIfInBounds 1 (rawInt ((i:Int)+1))))).IsValIter it d (i+1) es.size ep:=
  ⟨_,KS _ e (Obj.isFreed_of_fields (Obj.data_mapFields hd _)),(Obj.cls_mapFields ..).trans f,by rw[Obj.data_mapFields hd];simp[rawInt]⟩
 refine Jc (JV (Jc (wpAny_isOneOf_valiter (s:={s with heap:=s.heap.update it (Obj.mapFields (·.setIfInBounds 1 (rawInt ((i:Int)+1))))}) new.typeIs ?_)))
 refine Jc (wpAny_isOneOf_valiter (s:={s with heap:=s.heap.update it (Obj.mapFields (·.setIfInBounds 1 (rawInt ((i:Int)+1))))}) new.typeIs ?_)
 show wpAny _ _ (pure es[i].val) _ _ _
 exact Jf (Jf ⟨_,rfl,Jf (h _ new (Heap.SameBut.update ..))⟩)
theorem Fv(g:A.handled=none)(b:s.heap.IsValIter it d i es.size ep)(c:s.heap.get? d=some o)(a:o.data=.dict es ep)(e:es.size<=i)(f:∀h',Heap.ExtBut it s.heap h'->Q none {s with heap:=h'}):wpAny (model prog w) A (pyNext (.ref it)) Q E s:=(vW g c a e f).2 b
end
noncomputable def GJ (d:Addr) (o:Obj) (u:HO):It:=
 ⟨fun i H=>H d=some (.frz o u)/\i<jK u,fun i H v H'=>H'=H/\∃x,iz H u i x v,fun i H=>H d=some (.frz o u)/\jK u<=i⟩
theorem xK {P:Program}{w:World}{K:Je}{tg:Expr}(d it:Addr)(o:Obj)(u:HO)(T:nG u)(es:Array DictEntry)(ep:Nat)(hd:o.data=.dict es ep):
  kP P w K tg (GJ d o u) [it] it (fun i h=>h.IsValIter it d i es.size ep) where
 mem:=by simp
 obj:=fun i h st b n=>by
  rw[Jv.mp n]
  obtain⟨r,e,c,q⟩:=st
  exact⟨r,e,fun v z=>by rw[q] at z;cases z⟩
 keep:=fun i h h' st k=>Heap.IsValIter.at st fun r e=>k it (by simp) r e
 item:=by
  intro X G B O S i pins s σ H E I y st hg
  subst G B O
  obtain⟨M,hi⟩:=hg
  obtain⟨_,f,_,l,m,a,W,g⟩:=hG I.hok M T
  rw[hd] at a;cases a
  obtain⟨N,R,Z,J,C,D⟩:=y it (by simp)
  have j:i<es.size:=by lia
  obtain⟨x,v,hk,r1,r2⟩:=g i j
  refine Dy st f hd j fun h' p sb=>?_
  have I1:aI X pins σ H {s with heap:=h'}:=I.turned (t':=s.toks) (fun b U n e=>(sb.2 b n).trans e) N R J C D
  obtain⟨r,e,c,q⟩:=id p
  exact⟨_,rfl,mK (s:={s with heap:=h'}) e c q (by decide) ⟨v,H,I1,r2,⟨rfl,x,hk⟩,p,fun b n=>(y b n).1⟩⟩
 done:=by
  intro X G B O S i pins s σ H E I y st hg
  subst G B O
  obtain⟨M,hi⟩:=hg
  obtain⟨_,f,_,l,m,a,W,g⟩:=hG I.hok M T
  rw[hd] at a;cases a
  obtain⟨N,R,Z,J,C,D⟩:=y it (by simp)
  exact Fv (I.ok.hd S) st f hd (by lia) fun h' Y=>⟨rfl,I.turned (t':=s.toks) (fun b U n e=>Y b U n e) N R J C D⟩
 self:=fun A i s Q E st h=>by
  refine wpAny_pyIter_slot st.typeIs F.slot_dict_valueiterator_iter (JY F.slot_dict_valueiterator_iter st.typeIs entry_dict_valueiterator_iter ?_ (F.args_dict_valueiterator_iter_1 _))
  show wpAny _ _ (ret (.ref it)) _ _ s
  exact Jf ⟨_,rfl, "dict_valueiterator",_,st.typeIs,F.slot_dict_valueiterator_next.lookup,h⟩
def Hl (a:TE):TI:=fun σ H R=>a σ H fun x H1=>∃d o u,x=.ref d/\H1 d=some (.frz o u)/\nG u/\R (GJ d o u) H1
theorem xu(p:PE X e te)
  (j:attributeBase e "values" X.env (eval e X.env)=eval e X.env:=by rfl) (i:(apos.endLine==cpos.line)=true:=by rfl):
  PI X tg (.Call (.Attribute e "values" apos) [] [] cpos) (Hl te):=by
 intro pins s σ H R I h
 refine wpAny_Call_method0_late j i (bZ (p pins s σ H _ I h) fun v g w=>?_)
 obtain⟨x,H1,I1,r,d,o,u,ex,hd,n,q⟩:=w
 subst ex
 cases(show v=Value.ref d from r)
 obtain⟨B,c,l,es,ep,f,C,_⟩:=hG I1.hok hd n
 refine⟨"dict", "dict.values",F.plainAttrs_dict,F.slot_dict_values,F.type_dict_values,⟨o,c,l.1⟩,fun a A=>by cases A;exact⟨o,c,l.2.1⟩,Calls.callWith_builtin rfl (PySem.evalArgs_none ?_)⟩
 refine vK B c l ?_
 have k1:∀b ob,g.heap.get? b=some ob->(g.heap.push {cls:=.type "dict_values",data:=.fields #[.ref d]}).get? b=some ob:=fun b ob z=>Jj _ z
 refine B4 (s:={g with heap:=g.heap.push {cls:=.type "dict_values",data:=.fields #[.ref d]}}) ⟨_,Jx _ rfl,rfl,rfl⟩ (k1 _ _ c) f ?_
 have m:=I1.kept (t':=g.toks) k1
 refine⟨_,[(g.heap.push {cls:=.type "dict_values",data:=.fields #[.ref d]}).objs.size],_,_,H1,rfl,m.kept (t':=g.toks) (fun b ob z=>Jj _ z),xK d _ o u n es ep f,⟨_,Jx _ rfl,rfl,rfl⟩,fun b y=>?_,q⟩
 rw[Jv.mp y]
 exact m.fpOk (Jg _) (m.hok.fresh (Jg _))
theorem zv {d:Addr}{o:Obj}{u:HO}{g:TG}{h:TS}{D:fJ}{a:St}{H:Hp}(b:Nat->St->Hp->Prop)(h0:b 0 a H)(r:∀i a H,i<=jK u->b i a H->H d=some (.frz o u))
  (n:∀i x v a H,iz H u i x v->i<jK u->b i a H->g v a H fun c H2=>h {D with nx:=b (i+1),ct:=b (i+1),bk:=D.nx} c H2) (hd:∀a H,b (jK u) a H->D.nx a H):
  ∃W:Nat->Nat->St->Hp->Prop,(∃m,W 0 m a H)/\∀i m a H,W i m a H->
   ((GJ d o u).stop i H/\D.nx a H)\/((GJ d o u).go i H/\∃N:St->Hp->Prop,(∀f H',N f H'->∃j,j<m/\W (i+1) j f H')/\∀x H',(GJ d o u).yld i H x H'->g x a H' fun c H2=>h {D with nx:=N,ct:=N,bk:=D.nx} c H2):=by
 refine⟨fun i m a H=>m=jK u - i/\i<=jK u/\b i a H,⟨jK u,by simp,JA _,h0⟩,?_⟩
 rintro i m a H ⟨rfl,hi,p⟩
 have q:=r i a H hi p
 by_cases hlt:i<jK u
 ·refine .inr ⟨⟨q,hlt⟩,b (i+1),fun f H' l=>⟨jK u - (i+1),by omega,rfl,hlt,l⟩,fun x H' y=>?_⟩
  obtain⟨e,v,k⟩:=y
  subst e
  exact n i v x a _ k hlt p
 ·have e:i=jK u:=by omega
  subst e
  exact .inl ⟨⟨q,Jg _⟩,hd a H p⟩
section
variable {X:Cx}
theorem fN:∀{c d:List Int},c.map V.int=d.map V.int->c=d
 |[],[],_=>rfl
 |[],_::_,h=>by simp at h
 |_::_,[],h=>by simp at h
 |a::c,b::d,h=>by
  rw[Jr,Jr] at h
  injection h with h1 h2
  injection h1 with h1
  rw[h1,fN h2]
end
noncomputable def nY (f:Nat->Nat):Nat->Nat->Bool
 |0,_=>true
 |n+1,acc=>!(acc.testBit (f n))&&nY f n (acc|||(1<<<f n))
theorem mC {f:Nat->Nat}:∀{n a:Nat},nY f n a=true->∀i<n,a.testBit (f i)=false/\∀j<n,f j=f i->j=i
 |0,_,_,i,hi=>absurd hi (Nat.not_lt_zero _)
 |n+1,a,h,i,hi=>by
  unfold nY at h
  rw[Ki] at h
  obtain⟨h1,h2⟩:=h
  have h1:a.testBit (f n)=false:=by simpa using h1
  have d:=mC h2
  have key:∀k<n,a.testBit (f k)=false/\f k≠f n:=fun k l=>by
   have:=(d k l).1
   rw[Nat.testBit_or,Bool.or_eq_false_iff] at this
   refine⟨this.1,fun e=>?_⟩
   have c:=this.2
   rw[e,Nat.testBit_shiftLeft] at c
   simp at c
  by_cases e:i=n
  ·subst e
   refine⟨h1,fun j g b=>?_⟩
   by_cases e2:j=i
   ·exact e2
   ·exact absurd b (key j (by lia)).2
  ·refine⟨(key i (by lia)).1,fun j g b=>?_⟩
   by_cases e2:j=n
   ·subst e2;exact absurd b.symm (key i (by lia)).2
   ·exact(d i (by lia)).2 j (by lia) b
noncomputable def Ey (k:Nat):Int:=reduceHash (Builtin.Tuple.tupleHashOf [((k/256:Nat):Int),((k/16%16:Nat):Int),((k%16:Nat):Int)])
def Iu (k:Nat):Nat:=(Ey k%14941).toNat
theorem E8:nY Iu 1024 0=true:=by decide+kernel
theorem vO(a:i<1024)(b:j<1024)(e:Ey i=Ey j):i=j:=(mC E8 j b).2 i a (by unfold Iu;rw[e])
section
variable {prog:Program} {w:World} {d:Addr} {es:Array DictEntry} {ep:Nat}
theorem AW (hd:(d==sysModules)=false):PySem.W.KdlSrc prog w "dict" d d es.size (fun i v=>∃hi:i<es.size,v=es[i].key) (fun h=>∃o,h.get? d=some o/\o.ExactDict/\o.data=.dict es ep) where
 type:=fun _ ⟨o,a,g,_⟩=>⟨o,a,g.1⟩
 there:=fun _ ⟨o,a,_⟩=>⟨Jm a,Jm a⟩
 keep:=fun _ _ ⟨o,a,x⟩ l=>⟨o,l d (.inl rfl) o a,x⟩
 notList:=by decide
 notTuple:=by decide
 hint:=fun _ _ _ _ ⟨o,a,g,_⟩ m=>PySem.W.kdl_hint_dict ⟨o,a,g.1⟩ m
 iter:=fun A s q ⟨o,a,g,c⟩=>⟨_,fun i h=>h.IsKeyIter s.heap.objs.size d i es.size ep/\∃o,h.get? d=some o/\o.data=.dict es ep,(fun _ _ m=>uK hd a g c m),{
   sub:=fun b f=>by simp at f;simp[f]
   frame:=fun _ _ _ ⟨st,o,h1,h2⟩ l=>⟨kU st fun o e=>l _ (by simp) o e,o,l d (by simp) o h1,h2⟩
   item:=fun i s' Q E hi ⟨st,o,h1,h2⟩ j=>uZ st h1 h2 hi fun h' n sb=>j _ h' s'.toks ⟨hi,rfl⟩ ⟨n,o,(sb.2 d (Jw (Jm a))).trans h1,h2⟩ fun b o f e=>(sb.2 b (fun z=>f (by simp[z]))).trans e
   done:=fun s' Q E ⟨st,o,h1,h2⟩ j=>yw q st h1 h2 (Jg _) fun h' p=>j h' s'.toks fun b o f e=>p b o (fun z=>f (by simp[z])) e
   self:=fun i s' Q E ⟨st,_⟩ j=>wpAny_pyIter_keyiter st j},⟨⟨_,Jx _ rfl,rfl,rfl⟩,o,Jj _ a,c⟩⟩
end
section
variable {X:Cx}
end
section
variable {X:Cx}
theorem vx:∀{cs:List (List Int)} {vs:List Value},vs.length=cs.length->(∀(i:Nat) (v:Value) (c:List Int),vs[i]?=some v->cs[i]?=some c->∃a,v=.ref a/\H a=some (.tup (c.map V.int)))->∃as:List Addr,vs=as.map Value.ref/\bB H as cs
 |[],[],_,_=>⟨[],rfl,.nil⟩
 |[],_::_,h,_=>by simp at h
 |_::_,[],h,_=>by simp at h
 |c::cs,v::vs,h,f=>by
  obtain⟨a,rfl,ha⟩:=f 0 v c rfl rfl
  obtain⟨as,rfl,b⟩:=vx (cs:=cs) (vs:=vs) (by simpa using h) fun i v c h1 h2=>f (i+1) v c (by simpa using h1) (by simpa using h2)
  exact⟨a::as,rfl,.cons ha b⟩
theorem gB:∀c:List Int,(c.map Sum.inl:List cP).map kV=c.map V.int
 |[]=>rfl
 |a::c=>by rw[Jr,Jr,Jr,gB c];rfl
end
section
variable {prog:Program} {w:World} {κ:Type} [DecidableEq κ] {knd:HeapKind prog w κ} {A:Around} {E:Value->Shared->Prop} {s:Shared}
end
section
variable {X:Cx}
end
theorem pe {X:Cx}{K:Je}(e:X.K=K):EM X (w8 K):=by subst e;exact aF
section
open PySem.SeqAt
open PySem.AutoSeq1 (wpAny_loadPart')
open PySem.MeetsSeq PySem.MeetsSeq2 PySem.MeetsSeq3
end
section
variable {prog:Program} {w:World} {A:Around} {E:Value->Shared->Prop} {s:Shared}
end
section
variable {prog:Program} {w:World} {A:Around} {R:Result->Shared->Prop} {it:Addr} {fp wr:List Addr} {P:Nat->Value->Prop} {St:Nat->Heap->Prop}
end
section
variable {prog:Program} {w:World} {A:Around} {E:Value->Shared->Prop} {s:Shared}
end
section
variable {X:Cx}
end
section
variable {prog:Program} {w:World} {A:Around} {R:Result->Shared->Prop} {it:Addr} {fp wr:List Addr} {P:Nat->Value->Prop} {St:Nat->Heap->Prop}
end
section
variable {prog:Program} {w:World} {A:Around} {E:Value->Shared->Prop} {s:Shared}
end
section
variable {X:Cx}
end
section
variable {X:Cx}
end
section
variable {X:Cx} {pins:List (Addr×Obj)} {σ:St} {H:Hp} {s:Shared}
end
section
variable {M:Model} {A:Around} {E:Value->Shared->Prop} {s:Shared} {env:Env} {pos:Pos} {f:Addr} {Q:Value->Shared->Prop}
end
section
variable {X:Cx}
end
section
variable {X:Cx}
theorem sk (O:X.calm=true):cI X (.type "list") (fun xs H Q=>∃(a:Addr) (u:HO),xs=[.ref a]/\H a=some u/\Co (some u)/\nG u/\jK u<=1000/\
  ∀(l:Addr) (ys:List V),H l=none->ys.length=jK u->(∀(i:Nat) y,ys[i]?=some y->∃v,iz H u i y v)->Q (.ref l) (upd H l (.lst ys))):=by
 intro pins s σ H xs us Q I r h
 obtain⟨a,u,rfl,e,mu,du,g,q⟩:=h
 obtain⟨uu,rfl,Z⟩:=df r
 cases Z
 obtain⟨o,I1,C⟩:=I.freeze e mu
 obtain⟨hS,n,hc,es,ep,A,G,m⟩:=hG I1.hok ae du
 have B:es.size<=sizeLine:=by rw[G];exact Jn g (by decide)
 refine PySem.W.kdl_call (AW hS) (I.ok.hd O) ⟨o,n,hc,A⟩ B fun h' tk D c P Y E=>?_
 obtain⟨ys,J,F⟩:∃ys:List V,aS ys D.toList/\∀(i:Nat) y,ys[i]?=some y->∃v,iz H u i y v:=by
  have w:∀(i:Nat) v,D.toList[i]?=some v->∃y,aQ y v/\∃w',iz H u i y w':=fun i v M=>by
   obtain⟨hi,rfl⟩:=E.2 i v (by rw[<-J7];exact M)
   obtain⟨x,y,d,N,T⟩:=m i hi
   refine⟨x,N,y,?_⟩
   cases u with
   |dK kvs=>exact d
   |dT kvs=>
    obtain⟨k,b,h1,h2,K⟩:=d
    have hb:b≠a:=fun z=>by rw[z,ae] at K;cases K
    rw[ak hb] at K
    exact⟨k,b,h1,h2,K⟩
   |_=>exact d.elim
  have mk:∀(l:List Value) (f:Nat),(∀(i:Nat) v,l[i]?=some v->∃y,aQ y v/\∃w',iz H u (f+i) y w')->∃ys:List V,aS ys l/\∀(i:Nat) y,ys[i]?=some y->∃v,iz H u (f+i) y v:=by
   intro l
   induction l with
   |nil=>exact fun f _=>⟨[],.nil,fun i y h=>by simp at h⟩
   |cons v l ih=>
    intro f S
    obtain⟨y,N,w',d⟩:=S 0 v rfl
    obtain⟨ys,T,p⟩:=ih (f+1) fun i U R=>by
     have:=S (i+1) U R
     rw[show f+1+i=f+(i+1) by omega];exact this
    refine⟨y::ys,.cons N T,fun i z G=>?_⟩
    cases i with
    |zero=>cases G;exact⟨w',d⟩
    |succ i=>
     have:=p i z G
     rw[show f+1+i=f+(i+1) by omega] at this;exact this
  obtain⟨ys,r,P⟩:=mk D.toList 0 fun i v M=>by rw[Nat.zero_add];exact w i v M
  exact⟨ys,r,fun i y hy=>by have:=P i y hy;rw[Nat.zero_add] at this;exact this⟩
 have j:ys.length=jK u:=by rw[J.length,JD,E.1,G]
 have hn:H s.heap.objs.size=none:=I.hok.fresh (Jg _)
 refine⟨.ref s.heap.objs.size,_,I.laid (o:=.lst ys) P (Jg _) ⟨?_,D.toList,c,J,Y⟩,rfl,q _ ys hn j F⟩
 rw[j];exact Jn g (by decide)
end
section
variable {P:Program} {w:World} {K:Je} {mg:Str->Option Value} {base:Heap}
end
namespace TabA
open SetTable
variable (t:SetTable) (hashAt:Nat->Int) (h:Int)
noncomputable def lp (p:Probe):Probe:={p with j:=(leap t.mask p.i p.perturb).1,more:=runEnd t.mask (leap t.mask p.i p.perturb).1 - (leap t.mask p.i p.perturb).1,i:=(leap t.mask p.i p.perturb).1,perturb:=(leap t.mask p.i p.perturb).2}
def e7 (N:Nat) (p:Probe):Prop:=∀f,N<=f->∃j,probe.go t hashAt h f p=some (.empty j none)
variable {t hashAt h}
theorem e7.mono{p:Probe}(g:e7 t hashAt h N p)(l:N<=M):e7 t hashAt h M p:=fun f a=>g f (Jn l a)
theorem xN(e:t.slot j=.live i):i<t.place.size:=by
 unfold slot at e
 dsimp only at e
 split at e
 ·rename_i q
  injection e with e
  subst e
  have a:=beq_iff_eq.mp q
  exact(L3.mp a).1
 ·split at e<;>cases e
theorem i8(hd:t.dummies= #[]):t.slot j≠.dummy:=by
 unfold slot
 dsimp only
 split
 ·intro z;cases z
 ·rw[hd]
  split
  ·rename_i q
   unfold has at q
   simp at q
  ·intro z;cases z
theorem xO(hd:t.dummies= #[])(b:j∉t.place):t.slot j=.empty:=by
 cases e:t.slot j with
 |empty=>rfl
 |dummy=>exact(i8 hd e).elim
 |live i=>
  unfold slot at e
  dsimp only at e
  split at e
  ·rename_i q
   have a:=beq_iff_eq.mp q
   exact(b (Array.mem_of_getElem? a)).elim
  ·split at e<;>cases e
theorem sU {p:Probe}(a:p.dummy=none)(e:t.slot p.j=.empty):e7 t hashAt h 1 p:=by
 intro f b
 obtain⟨f,rfl⟩:∃g,f=g+1:=⟨f - 1,by lia⟩
 refine⟨p.j,?_⟩
 unfold probe.go
 rw[e]
 dsimp only
 rw[a]
theorem mD{p:Probe}(hd:t.dummies= #[])(a:∀i,i<t.place.size->hashAt i≠h)(b:p.dummy=none)(g:e7 t hashAt h N (t.advance p)):e7 t hashAt h (N+1) p:=by
 intro f c
 obtain⟨f,rfl⟩:∃g,f=g+1:=⟨f - 1,by lia⟩
 unfold probe.go
 cases e:t.slot p.j with
 |empty=>exact⟨p.j,by dsimp only;rw[b]⟩
 |dummy=>exact(i8 hd e).elim
 |live i=>
  dsimp only
  rw[if_neg (by simpa using a i (xN e))]
  exact g f (by lia)
theorem yc (hd:t.dummies= #[])(a:∀i,i<t.place.size->hashAt i≠h):∀(m N:Nat) (p:Probe),p.more=m->p.dummy=none->e7 t hashAt h N (lp t p)->e7 t hashAt h (N+(m+1)) p:=by
 intro m
 induction m with
 |zero=>
  intro N p c b g
  refine mD hd a b ?_
  have e:t.advance p=lp t p:=by unfold advance;rw[if_neg (by lia)];rfl
  rw[e];exact g
 |succ m ih=>
  intro N p c b g
  have e:t.advance p={p with j:=p.j+1,more:=m}:=by unfold advance;rw[if_pos (by lia),c];rfl
  refine mD (N:=N+(m+1)) hd a b ?_
  rw[e]
  exact ih N _ rfl b g
theorem AU (m i:Nat):runEnd m i - i<=9:=by unfold runEnd;split<;>lia
noncomputable def jN (t:SetTable) (h:Int):Nat->Probe
 |0=>t.probeStart h
 |n+1=>lp t (jN t h n)
theorem jr:∀n,(jN t h n).dummy=none
 |0=>rfl
 |n+1=>jr n
theorem yF:∀n,(jN t h n).more<=9
 |0=>AU _ _
 |_+1=>AU _ _
theorem Hc:∀n,(jN t h n).j=(jN t h n).i
 |0=>rfl
 |_+1=>rfl
theorem rh (hd:t.dummies= #[])(a:∀i,i<t.place.size->hashAt i≠h):∀(n k:Nat),t.slot (jN t h (k+n)).j=.empty->e7 t hashAt h (1+10*n) (jN t h k)
 |0,k,e=>sU (jr k) e
 |n+1,k,e=>by
  have g:e7 t hashAt h (1+10*n) (jN t h (k+1)):=rh hd a n (k+1) (by rw[show k+1+n=k+(n+1) by lia];exact e)
  have:=yc hd a _ _ (jN t h k) rfl (jr k) g
  exact this.mono (by have:=yF (t:=t) (h:=h) k;lia)
theorem Cv (h:Int):bits h<2^64:=by unfold bits;lia
theorem pZ:∀n,(jN t h n).perturb=bits h/32^n
 |0=>by show bits h=_;simp
 |n+1=>by
  show(jN t h n).perturb/32=_
  rw[pZ n,Nat.div_div_eq_div_mul,Nat.pow_succ]
theorem Ei (n:Nat):(jN t h (n+1)).i=((jN t h n).i*5+1+bits h/32^(n+1))%(t.mask+1):=by
 show((jN t h n).i*5+1+(jN t h n).perturb/32)%(t.mask+1)=_
 rw[pZ n,Nat.div_div_eq_div_mul,Nat.pow_succ]
theorem GF(a:13<=n):bits h/32^n=0:=by
 refine Nat.div_eq_of_lt (JO (Cv h) ?_)
 exact Jn (by decide:2^64<=32^13) (Nat.pow_le_pow_right (by decide) a)
noncomputable def it (M:Nat):Nat->Nat->Nat
 |0,a=>a
 |k+1,a=>(it M k a*5+1)%M
theorem t_:∀k,(jN t h (12+k)).i=it (t.mask+1) k (jN t h 12).i
 |0=>rfl
 |k+1=>by
  show(jN t h (12+k+1)).i=_
  rw[Ei,GF (by lia),t_ k]
  rfl
theorem IS:∀a<8,∀j<8,∃k,k<8/\it 8 k a=j:=by decide+kernel
theorem Ip:∀a<32,∀j<32,∃k,k<32/\it 32 k a=j:=by decide+kernel
theorem EU:∀n,(jN t h n).i<t.mask+1
 |0=>Nat.mod_lt _ (Nat.succ_pos _)
 |n+1=>by rw[Ei];exact Nat.mod_lt _ (Nat.succ_pos _)
theorem uL (b:t.mask=7\/t.mask=31){j:Nat}(a:j<t.mask+1):∃n,n<13+t.mask/\(jN t h n).i=j:=by
 have l:=EU (t:=t) (h:=h) 12
 rcases b with e|e
 ·rw[e] at a l|-
  obtain⟨k,c,q⟩:=IS _ l j a
  exact⟨12+k,by lia,by rw[t_,e];exact q⟩
 ·rw[e] at a l|-
  obtain⟨k,c,q⟩:=Ip _ l j a
  exact⟨12+k,by lia,by rw[t_,e];exact q⟩
theorem q_:∀{l m:List Nat},l.Nodup->(∀x∈l,x∈m)->l.length<=m.length
 |[],m,_,_=>JA _
 |a::l,m,hn,hs=>by
  have ha:=hs a Jp
  have:=q_ (l:=l) (m:=m.erase a) (Ko.mp hn).2 fun x b=>(List.mem_erase_of_ne (fun(e:x=a)=>(Ko.mp hn).1 (e▸b))).mpr (hs x (Jq _ b))
  rw[List.length_erase_of_mem ha] at this
  have:=List.length_pos_of_mem ha
  simp only[JC]
  lia
theorem wu (_hd:t.dummies= #[])(b:t.place.size<=t.mask):∃j,j<t.mask+1/\j∉t.place:=by
 by_cases q:∀j,j<t.mask+1->j∈t.place
 ·exfalso
  have:=q_ (l:=List.range (t.mask+1)) (m:=t.place.toList) List.nodup_range fun j a=>Kz.mpr (q j (Lv.mp a))
  simp at this
  lia
 ·simp only[Classical.not_forall] at q
  obtain⟨j,h1,h2⟩:=q
  exact⟨j,h1,h2⟩
theorem probe_new (c:t.mask=7\/t.mask=31)(hd:t.dummies= #[])(d:t.place.size<=t.mask)(a:∀i,i<t.place.size->hashAt i≠h):∃j,t.probe hashAt h (t.probeStart h)=some (.empty j none):=by
 obtain⟨j,b,f⟩:=wu hd d
 obtain⟨n,g,e⟩:=uL (h:=h) c b
 have:=rh (h:=h) hd a n 0 (by rw[Nat.zero_add,Hc,e];exact xO hd f)
 exact this _ (by unfold turns;lia)
noncomputable def Hu (o:Array (Option Nat)):Nat:=o.toList.countP Option.isSome
structure Ow (o:Array (Option Nat)) (k:Nat):Prop where
 sz:o.size=32
 ct:Hu o=k
 lt:∀(j v:Nat),o[j]?=some (some v)->v<k
theorem Cy {o:Array (Option Nat)}(w:Ow o k)(f:k<32):∃j,j<32/\o.getD j (some 0)=none:=by
 by_cases q:∀j,j<32->o.getD j (some 0)≠none
 ·exfalso
  have:o.toList.countP Option.isSome=o.toList.length:=by
   refine List.countP_eq_length.mpr fun v d=>?_
   obtain⟨j,b,e⟩:=List.mem_iff_getElem.mp d
   have a:j<o.size:=by simpa using b
   have:=q j (by rw[<-w.sz];exact a)
   rw[Md,Lc a] at this
   have c:o[j]=v:=by simpa using e
   rw[c] at this
   cases v with
   |none=>exact(this rfl).elim
   |some _=>rfl
  have h1:=w.ct
  unfold Hu at h1
  rw[this,JD,w.sz] at h1
  lia
 ·simp only[Classical.not_forall,Classical.not_not] at q
  obtain⟨j,h1,h2⟩:=q
  exact⟨j,h1,h2⟩
theorem wC {o:Array (Option Nat)}:∀(f i p:Nat),(∃n,n<f/\∃j,o.getD j (some 0)=none/\j=(Nat.rec (motive:=fun _=>Nat×Nat) (i,p) (fun _ q=>leap 31 q.1 q.2) n).1)->∃j,layClean.free 31 o f i p=some j/\o.getD j (some 0)=none:=by
 intro f
 induction f with
 |zero=>intro i p ⟨n,c,_⟩;lia
 |succ f ih=>
  intro i p ⟨n,c,j,b,e⟩
  unfold layClean.free
  cases q:(List.range (runEnd 31 i+1 - i)).find? fun k=>(o.getD (i+k) (some 0)).isNone with
  |some k=>
   exact⟨i+k,rfl,by have:=List.find?_some q;simpa using this⟩
  |none=>
   dsimp only
   cases n with
   |zero=>
    exfalso
    have e:j=i:=e
    have:=List.find?_eq_none.mp q 0 (Lv.mpr (by unfold runEnd;split<;>lia))
    rw[Nat.add_zero,<-e,b] at this
    exact this rfl
   |succ n=>
    refine ih _ _ ⟨n,by lia,j,b,e.trans ?_⟩
    have a:∀n,(Nat.rec (motive:=fun _=>Nat×Nat) (i,p) (fun _ q=>leap 31 q.1 q.2) (n+1):Nat×Nat)=Nat.rec (motive:=fun _=>Nat×Nat) ((leap 31 i p).1,(leap 31 i p).2) (fun _ q=>leap 31 q.1 q.2) n:=by
     intro n
     induction n with
     |zero=>rfl
     |succ n ih=>show leap 31 _ _=leap 31 _ _;rw[<-ih]
    rw[a]
noncomputable def HI:SetTable:={mask:=31,place:= #[],dummies:= #[],finger:=0,led:=true,moves:=0,plain:=true}
theorem ve (h:Int):∀n,(Nat.rec (motive:=fun _=>Nat×Nat) (bits h%32,bits h) (fun _ q=>leap 31 q.1 q.2) n:Nat×Nat)=((jN HI h n).i,(jN HI h n).perturb)
 |0=>rfl
 |n+1=>by show leap 31 _ _=_;rw[ve h n];rfl
theorem yG {o:Array (Option Nat)}(w:Ow o k)(c:k<32)(h:Int):∃j,layClean.free 31 o (turns 31) (bits h%(31+1)) (bits h)=some j/\j<32/\o[j]?=some none:=by
 obtain⟨j,b,e⟩:=Cy w c
 obtain⟨n,d,q⟩:=uL (t:=HI) (h:=h) (.inr rfl) (j:=j) b
 obtain⟨a,h1,h2⟩:=wC (o:=o) (turns 31) (bits h%32) (bits h) ⟨n,by unfold turns;have:HI.mask=31:=rfl;lia,j,e,by rw[ve];exact q.symm⟩
 refine⟨a,h1,?_⟩
 rw[Md] at h2
 cases z:o[a]? with
 |none=>rw[z] at h2;cases h2
 |some v=>
  rw[z] at h2
  have lt:=(L3.mp z).1
  rw[w.sz] at lt
  exact⟨lt,congrArg some h2⟩
theorem EF {o:Array (Option Nat)}{k j:Nat}(w:Ow o k)(b:j<32)(e:o[j]?=some none):Ow (o.setIfInBounds j (some k)) (k+1) where
 sz:=by simpa using w.sz
 ct:=by
  have h1:=w.ct
  unfold Hu at h1|-
  obtain⟨l,a⟩:=L3.mp e
  rw[Me,List.countP_set (by simpa using l),h1]
  simp[a]
 lt:=fun i v q=>by
  rw[Array.getElem?_setIfInBounds] at q
  split at q
  ·split at q
   ·injection q with q;injection q with q;lia
   ·cases q
  ·have:=w.lt i v q;lia
theorem qC:∀(a:List Int) (o:Array (Option Nat)) (k:Nat),Ow o k->k+a.length<=32->∃o',(a.foldl (init:=some (o,k)) fun b h=>do
  let (owner,k)<-b
  let j<-layClean.free 31 owner (turns 31) (bits h%(31+1)) (bits h)
  pure (owner.setIfInBounds j (some k),k+1))=some (o',k+a.length)/\Ow o' (k+a.length)
 |[],o,k,w,_=>⟨o,rfl,w⟩
 |h::a,o,k,w,l=>by
  simp only[JC] at l
  obtain⟨j,e,c,f⟩:=yG w (by lia) h
  obtain⟨o',h1,h2⟩:=qC a _ _ (EF w c f) (by lia)
  refine⟨o',?_,by rw[JC,show k+(a.length+1)=k+1+a.length by lia];exact h2⟩
  rw[J8,JC,show k+(a.length+1)=k+1+a.length by lia,<-h1]
  congr 1
  show(layClean.free 31 o (turns 31) (bits h%(31+1)) (bits h)>>=_)=_
  rw[e]
  rfl
theorem laid_some (c f:Nat)(g plain:Bool)(d:Array Int)(n:d.size<=32):∃t b,laid 31 c f g plain d=some (t,b)/\t.mask=31/\t.dummies= #[]/\t.place.size=d.size/\b.size=d.size/\∀k∈b,k<d.size:=by
 obtain⟨o,h1,w⟩:=qC d.toList (Array.replicate 32 none) 0 ⟨by simp,by decide+kernel,fun j v e=>by
  rw[Array.getElem?_replicate] at e
  split at e<;>simp at e⟩ (by simpa using n)
 have l:layClean 31 d=some o:=by
  unfold layClean
  rw[<-Array.foldl_toList]
  rw[show(31:Nat)+1=32 from rfl] at h1|-
  rw[h1]
  rfl
 have cl:((List.range (31+1)).filterMap fun j=>(o.getD j none).map (j, ·)).length=d.size:=by
  rw[List.length_filterMap_eq_countP]
  have m:o.toList=(List.range 32).map (fun j=>o.getD j none):=by
   refine LC fun j=>?_
   rw[JG,J7]
   by_cases hj:j<32
   ·rw[List.getElem?_range hj]
    have:j<o.size:=by rw[w.sz];exact hj
    simp[Lc this]
   ·have:¬j<o.size:=by rw[w.sz];exact hj
    rw[L1 (by lia)]
    rw[LH (by simpa using hj)]
    rfl
  have h2:=w.ct
  unfold Hu at h2
  rw[m,List.countP_map] at h2
  simp only[Nat.zero_add,JD] at h2
  rw[<-h2]
  congr 1
  funext j
  simp
 refine⟨_,_,by unfold laid;rw[l];rfl,rfl,rfl,?_,?_,?_⟩
 ·simpa using cl
 ·simpa using cl
 ·intro k i
  simp only[List.mem_toArray,Jk,Kd] at i
  obtain⟨⟨j,k'⟩,⟨h,a,e⟩,rfl⟩:=i
  cases q:o.getD h none with
  |none=>rw[q] at e;cases e
  |some v=>
   rw[q] at e
   simp at e
   obtain⟨rfl,rfl⟩:=e
   rw[Md] at q
   have:o[h]?=some (some v):=by
    cases z:o[h]? with
    |none=>rw[z] at q;cases q
    |some u=>rw[z] at q;exact congrArg some q
   have:=w.lt _ _ this
   simpa using this
end TabA
noncomputable def gL (t:SetTable) (es:Array (Int×Value)) (h:Int) (x:Value):Option (SetTable×Array (Int×Value)):=
 if t.gaveWay=true then none else
 match t.probe (HM es) h (t.probeStart h) with
 |some (.empty j none)=>if (t.put j).1.fits (SetTable.insertAt es (t.put j).2 (h,x)).size=true then
   (if (t.put j).1.tooFull=true then
    (match (t.put j).1.relaid ((SetTable.insertAt es (t.put j).2 (h,x)).map (·.1)) (SetTable.grown (es.size+1)) with
    |some (t2,order)=>if (order.filterMap ((SetTable.insertAt es (t.put j).2 (h,x))[·]?)).size=(SetTable.insertAt es (t.put j).2 (h,x)).size then some (t2,order.filterMap ((SetTable.insertAt es (t.put j).2 (h,x))[·]?)) else none
    |none=>none)
   else some ((t.put j).1,SetTable.insertAt es (t.put j).2 (h,x))) else none
 |_=>none
section
variable {prog:Program} {w:World} {A:Around} {E:Value->Shared->Prop} {s:Shared}
theorem Aa{es:Array (Int×Value)}{t b:SetTable}{Q:Unit->Shared->Prop}(c:s.heap.get? a=some o)(hd:o.data=.set es ep t)(f:t.fits es.size=true)(g:SetTable.sizeAbove wanted<=sizeLine)
  (e:t.relaid (es.map (·.1)) wanted=some (b,order)) (d:(order.filterMap (es[·]?)).size=es.size) (i:es.size<1000) (h:Q () {s with heap:=s.heap.update a (Obj.putSet (order.filterMap (es[·]?)) b)}):
  wpAny (model prog w) A (setRelay a wanted) Q E s:=by
 unfold setRelay
 refine Jc (wpAny_setState_of c hd f ?_)
 dsimp only
 rw[if_neg (by lia),e]
 refine Jc ?_
 show wpAny _ _ (if ((order.filterMap (es[·]?)).size !=es.size)=true then _ else _) _ _ _
 rw[if_neg (by simp[d])]
 refine Jf ?_
 dsimp only
 exact wpAny_storeSet_of c hd h (by have:sizeLine=2^24:=rfl;lia)
set_option tactic.hygienic true in
theorem oa {K:Type} [DecidableEq K]{knd:HeapKind prog w K}{a b:Addr}{k:K}{o:Obj}{es d:Array (Int×Value)}{ep:Nat}{t t':SetTable}{Q:Bool->Shared->Prop}(p:knd.room A)(n:knd.is s.heap k b)(f:s.heap.get? a=some o)(hd:o.data=.set es ep t)(i:t.fits es.size=true)(u:d.size<1000)(hsz:es.size<999)
  (q:∀(tk:Nat) (Q':Bool->Shared->Prop),Q' true {s with toks:=tk}->wpAny (model prog w) A (hashByValue 8 (.ref b)) Q' E {s with toks:=tk})
  (e:gL t es (knd.hash k) (.ref b)=some (t',d)) (l:SetTable.sizeAbove (SetTable.grown (es.size+1))<=sizeLine)
  (h:∀h' m,Heap.SameBut a s.heap h'->h'.get? a=some {o with data:=.set d m t'}->Q true {s with heap:=h',toks:=s.toks+knd.draws k}):
  wpAny (model prog w) A (setAdd a (.ref b)) Q E s:=by
 unfold gL at e
 split at e
 ·cases e
 ·rename_i hg
  split at e
  ·rename_i j hp
   split at e
   ·rename_i hfit
    have c:(SetTable.insertAt es (t.put j).2 (knd.hash k,Value.ref b)).size=es.size+1:=by
     have:=(SetTable.insertAt_perm es (t.put j).2 (knd.hash k,Value.ref b)).length_eq
     simpa using this
    unfold setAdd
    refine JV (Jc (knd.pyHash p n ?_))
    unfold setAddHashed
    refine JV ?_
    show wpAny _ _ (setAddHashedIn a (.ref b) (knd.hash k) (99999+1)) _ _ _
    unfold setAddHashedIn
    refine Jc (wpAny_setState_of (s:={s with toks:=s.toks+knd.draws k}) f hd i ?_)
    dsimp only
    rw[if_neg (show¬byScan (.ref b) es=true by simp[byScan,Value.scannable])]
    refine Jc ?_
    unfold setSearch
    show wpAny _ _ (setSearchFrom a (.ref b) (knd.hash k) true (99999+1) none) _ _ _
    unfold setSearchFrom
    refine Jc (wpAny_setState_of (s:={s with toks:=s.toks+knd.draws k}) f hd i ?_)
    dsimp only
    rw[if_neg hg]
    split
    ·rename_i met hm
     have r:met=.empty j none:=Option.some.inj (hm.symm.trans hp)
     subst r
     dsimp only
     refine Jf ?_
     dsimp only
     refine Jc (wpAny_setState_of (s:={s with toks:=s.toks+knd.draws k}) f hd i ?_)
     dsimp only
     have tail:wpAny (model prog w) A (storeSet a (SetTable.insertAt es (t.put j).2 (knd.hash k,.ref b)) (t.put j).1>>=fun _=>if (!false&&(t.put j).1.tooFull)=true then (setRelay a (SetTable.grown (es.size+1))>>=fun _=>pure true) else pure true) Q E {s with toks:=s.toks+knd.draws k}:=by
      refine Jc (wpAny_storeSet_of (s:={s with toks:=s.toks+knd.draws k}) f hd ?_ (by have:sizeLine=2^24:=rfl;lia))
      have g:=KS (Obj.putSet (SetTable.insertAt es (t.put j).2 (knd.hash k,.ref b)) (t.put j).1) f (by rw[putSet_of _ _ hd];rfl)
      rw[putSet_of _ _ hd] at g
      split at e
      ·rename_i hfull
       rw[if_pos (by simpa using hfull)]
       split at e
       ·rename_i t2 order hrl
        split at e
        ·rename_i hq
         injection e with e
         injection e with e1 e2
         subst e1 e2
         refine Jc (Aa (s:={s with heap:=_,toks:=s.toks+knd.draws k}) g rfl hfit l hrl hq (by lia) ?_)
         refine Jf (h _ (ep+1+1) ((Heap.SameBut.update ..).trans (Heap.SameBut.update ..)) ?_)
         have:=KS (Obj.putSet (order.filterMap ((SetTable.insertAt es (t.put j).2 (knd.hash k,Value.ref b))[·]?)) t2) g (by rw[putSet_of _ _ rfl];rfl)
         rw[putSet_of _ _ rfl] at this
         exact this
        ·cases e
       ·cases e
      ·rename_i hfull
       injection e with e
       injection e with e1 e2
       subst e1 e2
       rw[if_neg (by simpa using hfull)]
       exact Jf (h _ _ (Heap.SameBut.update ..) g)
     split
     ·refine Jc (q _ _ ?_)
      rw[if_pos (rfl:true=true)]
      exact tail
     ·refine Jc (Jf ?_)
      rw[if_pos (rfl:true=true)]
      exact tail
    ·rename_i hm
     exact(hm _ hp).elim
   ·cases e
  ·cases e
end
section
variable {prog:Program} {w:World} {A:Around} {R:Result->Shared->Prop} {I:Addr} {fp wr:List Addr} {G:Array GenState->Array GenState->Prop} {n:Nat} {P:Nat->Value->Prop} {St:Nat->Shared->Prop}
theorem sZ (W:WalksS prog w A.in1 I fp wr G n P St)(S:Addr)(J:S∉fp)(knd:HeapKind prog w (List Int))(y:knd.room A.in1)(Y:∀h k b,ml h k b->knd.is h k b)(u:Nat->Addr)(x:Nat->List Int)(D:∀i v,P i v->v=.ref (u i))
  (O:∀i,i<n->u i≠S/\u i∉wr) (T:Nat->SetTable) (r:Nat->Array (Int×Value)) (M:∀i,i<n->gL (T i) (r i) (knd.hash (x i)) (.ref (u i))=some (T (i+1),r (i+1))) (p:∀i,i<=n->(T i).fits (r i).size=true/\(r i).size<1000/\SetTable.sizeAbove (SetTable.grown ((r i).size+1))<=sizeLine/\(r i).size<999):
  ∀(k i:Nat) (s:Shared),n - i=k->i<=n->St i s->(∀j,j<n->ml s.heap (x j) (u j))->(∃o ep,s.heap.get? S=some o/\o.ExactSet/\o.data=.set (r i) ep (T i))->
   (∀s',Moved (S::wr) G s s'->(∃o ep,s'.heap.get? S=some o/\o.ExactSet/\o.data=.set (r n) ep (T n))->R (.ok (.ret .none)) s')->
   codeAny (model prog w) A (.builtin "set.update.loop" ⟨[.ref S,.ref I],[]⟩) R s:=by
 have m:S∉wr:=fun h=>J (W.sub _ h)
 have more:∀b∈wr,b∈S::wr:=fun b E=>Jq _ E
 have d:∀{h h':Heap} {k b},ml h k b->(∀o,h.get? b=some o->h'.get? b=some o)->ml h' k b:=fun⟨o,l,c,h1,h2⟩ f=>⟨o,l,c,f o h1,h2⟩
 intro k
 induction k with
 |zero=>
  intro i s hk hi B ht Z U
  obtain rfl:i=n:=by omega
  refine codeAny_builtin F.entry_set_update_loop ?_
  rw[Around.under_plainId F.plain_set_update_loop _]
  show wpAny _ A.in1 (pyNext (.ref I)>>=_) _ _ s
  refine Jc (W.done s _ _ B fun s' C=>Jf (U s' (C.mono more) ?_))
  obtain⟨o,ep,h1,h2⟩:=Z
  exact⟨o,ep,C.heap S _ m h1,h2⟩
 |succ k ih=>
  intro i s hk hi B ht Z U
  have a:i<n:=by omega
  refine codeAny_builtin F.entry_set_update_loop ?_
  rw[Around.under_plainId F.plain_set_update_loop _]
  show wpAny _ A.in1 (pyNext (.ref I)>>=_) _ _ s
  refine Jc (W.item i s _ _ a B fun v s' hP N C=>?_)
  obtain rfl:=D i v hP
  obtain⟨o,ep,h1,h2,h3⟩:=Z
  have g:∀j,j<n->ml s'.heap (x j) (u j):=fun j H=>d (ht j H) fun o q=>C.heap _ o (O j H).2 q
  obtain⟨ob,l,c,g1,g2,g3,g4⟩:=id (g i a)
  show wpAny _ A.in1 (holding [Value.ref (u i)] (setAdd S (.ref (u i)))>>=_) _ _ s'
  refine Jc (JV ?_)
  refine oa (knd:=knd) (s:=s') y (Y _ _ _ (g i a)) (C.heap S _ m h1) h3 (p i hi).1 (p (i+1) a).2.1 (p i hi).2.2.2 (fun tk Q' q=>yY (s:={s' with toks:=tk}) g1 g2 g3 (fun v hv=>?_) q) (M i a) (p i hi).2.2.1 fun h' a0 sb hg=>?_
  ·exact g4.allInts v (by simpa using hv)
  ·refine Jf ⟨plainId_quiet F.plain_set_update_loop _,ih (i+1) _ (by omega) a (W.frame _ s' _ _ N (KZ _ _) fun b E o e=>?_) (fun j H=>d (g j H) fun o q=>?_) ⟨_,_,hg,h2,rfl⟩ fun X Q K=>?_⟩
   ·rw[sb.2 b (fun z=>J (z▸E))];exact e
   ·rw[sb.2 _ (O j H).1];exact q
   ·refine U X (Moved.trans W.gtrans ((C.mono more).then_heap (KZ _ _) fun b o E e=>?_) Q) K
    rw[sb.2 b (fun z=>E (by rw[z];exact Jp))];exact e
end
set_option maxHeartbeats 3200000 in
theorem lP {prog:Program}{w:World}{A:Around}{E:Value->Shared->Prop}{s:Shared}{l:Addr}{as:List Addr}{Q:Value->Shared->Prop}(hh:A.handled=none)(hl:s.heap.IsList l (as.map Value.ref).toArray)
  (knd:HeapKind prog w (List Int)) (W:knd.room A.in1.in1.in1) (am:∀h k b,ml h k b->knd.is h k b) (U:Nat->List Int) (O:∀j,j<as.length->ml s.heap (U j) (as.getD j 0))
  (T:Bool->Nat->SetTable) (M:Bool->Nat->Array (Int×Value)) (h0:∀led,T led 0=.fresh 0 0 led/\M led 0= #[]) (Y:∀led i,i<as.length->gL (T led i) (M led i) (knd.hash (U i)) (.ref (as.getD i 0))=some (T led (i+1),M led (i+1)))
  (ab:∀led i,i<=as.length->(T led i).fits (M led i).size=true/\(M led i).size<1000/\SetTable.sizeAbove (SetTable.grown ((M led i).size+1))<=sizeLine/\(M led i).size<999)
  (h:∀(led:Bool) (h':Heap) (tk:Nat),(∃o ep,h'.get? s.heap.objs.size=some o/\o.ExactSet/\o.data=.set (M led as.length) ep (T led as.length))->(∀b o,b<s.heap.objs.size->s.heap.get? b=some o->h'.get? b=some o)->
   Q (.ref s.heap.objs.size) {s with heap:=h',toks:=tk}):wpAny (model prog w) A (call (.type "set") [.ref l]) Q E s:=by
 obtain⟨c0,K,I⟩:=F.called_set.mro
 have made:=F.called_set.made
 have sub:=F.called_set.sub
 have nt:=F.called_set.notType
 have cc:=F.called_set.canCreate
 have ck:=F.typeCall_set_1 (.ref l)
 refine wpAny_call (codeAny_of_tree ?_)
 show wpAny _ _ (callAny (.type "set") ⟨[.ref l],[]⟩) _ _ _
 refine Jf ⟨Code.quiet_builtin _ (by decide+kernel),codeAny_builtin F.entry_type_call ?_⟩
 rw[Around.under_plain (weight_type_call_type "set" [.ref l] []) rfl]
 repeat (any_goals (first|assumption|wp_step))
 refine codeAny_mono (code_set_new_1 (.ref l) (E:=E) (Q₁:=fun v P=>∃led:Bool,v=.ref s.heap.objs.size/\P={s with heap:=s.heap.push (pD led)}) fun led=>⟨led,rfl,rfl⟩) fun r P hr=>?_
 match r,hr with
 | .error e,hr=>exact hr
 | .ok (.ret v),⟨led,ev,es⟩=>
  subst ev es
  have hS:(s.heap.push (pD led)).get? s.heap.objs.size=some (pD led):=Jx _ rfl
  have hT:Shared.TypeIs {s with heap:=s.heap.push (pD led)} (.ref s.heap.objs.size) "set" :=⟨_,hS,rfl⟩
  have li:=F.called_set.init.lookup
  have bi:=F.called_set.init.bind (.ref s.heap.objs.size)
  repeat (any_goals (first|assumption|wp_step))
  refine codeAny_mono (codeAny_call_builtin (R:=wants (fun r N=>r=.none/\∃h' tk,N={s with heap:=h',toks:=tk}/\(∃o ep,h'.get? s.heap.objs.size=some o/\o.ExactSet/\o.data=.set (M led as.length) ep (T led as.length))/\
   ∀b o,b<s.heap.objs.size->s.heap.get? b=some o->h'.get? b=some o) E) F.called_set.init.plain F.entry_set_init (check_set_init_1 hT ?_)) fun Z N S=>?_
  ·have lt:l<s.heap.objs.size:=by obtain⟨o,ho,_⟩:=hl;exact Jm ho
   obtain⟨⟨oc,od,J,y⟩,u,d,nl,g⟩:=id hl
   simp only at d g
   subst d g
   have n:(s.heap.push (pD led)).get? l=some ⟨.type "list",od,.seq (as.map Value.ref).toArray nl,y⟩:=Jj _ u
   have n1:=F.sub_list_set
   have n2:=F.sub_list_frozenset
   have n3:(Value.type "list" ==Value.type "dict")=false:=by decide
   have m:(s.heap.push (pD led)).IsList l (as.map Value.ref).toArray:=⟨_,n,rfl,nl,rfl⟩
   unfold Builtin.«set.__init__» noKeywords Builtin.Frozenset.updateFrom
   generalize ap:pyIter=PI
   wp_walk
   subst ap
   refine KP m (Jc (wpAny_runValue ?_))
   have a:(s.heap.push (pD led)).objs.size=s.heap.objs.size+1:=J6 ..
   have H:A.in1.in1.in1.handled=none:=by simp[hh]
   have D:l≠(s.heap.push (pD led)).objs.size:=by rw[a];exact Jw (LA lt)
   have nS:s.heap.objs.size∉[(s.heap.push (pD led)).objs.size,l]:=by
    rw[a]
    intro z
    rcases Jo.mp z with z|z
    ·exact absurd z (Jw (Ly _))
    ·exact absurd (Jv.mp z) (KN lt)
   have B:∀j,j<as.length->as.getD j 0<s.heap.objs.size:=fun j hj=>by obtain⟨o,_,_,h1,_⟩:=O j hj;exact Jm h1
   refine sZ ((Walks.list H _ l D (as.map Value.ref).toArray).toS) s.heap.objs.size nS knd W am (fun i=>as.getD i 0) U (fun i v hv=>?_) (fun i hi=>?_) (T led) (M led) (fun i hi=>Y led i (by simpa using hi)) (fun i hi=>ab led i (by simpa using hi))
    ((as.map Value.ref).toArray.size - 0) 0 _ (by omega) (JA _) ⟨⟨_,Jx _ rfl,rfl,rfl⟩,(m.push _)⟩ (fun j hj=>?_) ?_ fun s' hm ad=>?_
   ·have f:(as.map Value.ref).toArray[i]?=some v:=hv
    rw[List.getElem?_toArray,JG] at f
    obtain⟨x,hx,rfl⟩:=K_.mp f
    show _=Value.ref (as.getD i 0)
    rw[Kb,hx];rfl
   ·have p:i<as.length:=by simpa using hi
    have:=B i p
    refine⟨Jw this,fun z=>?_⟩
    have X:=Jv.mp z
    rw[a] at X
    exact absurd X (Jw (LA this))
   ·obtain⟨o,C,c,q1,q2⟩:=O j (by simpa using hj)
    exact⟨o,C,c,Jj _ (Jj _ q1),q2⟩
   ·refine⟨_,0,Jj _ hS,⟨rfl,rfl,rfl⟩,?_⟩
    rw[(h0 led).1,(h0 led).2]
   ·obtain⟨h',g',d',G,q⟩:=s'
    obtain rfl:g'=s.gens:=hm.gens
    obtain rfl:d'=s.drawn:=hm.drawn
    obtain rfl:q=s.os:=hm.os
    refine Jf ?_
    show wpAny _ _ (ret Value.none) _ _ _
    refine Jf ⟨rfl,h',G,rfl,by simpa using ad,fun b o hb e=>hm.heap b o (fun z=>?_) (Jj _ (Jj _ e))⟩
    rcases Jo.mp z with z|z
    ·exact absurd z (Jw hb)
    ·have X:=Jv.mp z
     rw[a] at X
     exact absurd X (Jw (LA hb))
  ·match Z,S with
   | .error e,z=>exact z
   | .ok (.ret v),⟨e1,h',tk,e2,z1,z2⟩=>
    subst e1 e2
    repeat (any_goals (first|assumption|wp_step))
    exact h led h' tk z1 z2
   | .ok .next,z=>exact z.elim
   | .ok .brk,z=>exact z.elim
   | .ok .cont,z=>exact z.elim
 | .ok .next,hr=>exact hr.elim
 | .ok .brk,hr=>exact hr.elim
 | .ok .cont,hr=>exact hr.elim
structure SI (t:SetTable) (es:Array (Int×Value)) (n:Nat) (hs:List Int):Prop where
 dm:t.dummies= #[]
 ms:t.mask=7/\n<5\/t.mask=31/\n<=18
 pl:t.place.size=n
 sz:es.size=n
 hm:∀e∈es,e.1∈hs
theorem cX {a:Type}(xs:Array a)(p:Nat)(x:a):(SetTable.insertAt xs p x).size=xs.size+1:=by
 have:=(SetTable.insertAt_perm xs p x).length_eq
 simpa using this
theorem tP {a:Type}{xs:Array a}{x y:a}(h:y∈SetTable.insertAt xs p x):y=x\/y∈xs:=by
 have:=(SetTable.insertAt_perm xs p x).mem_iff.mp (Kz.mpr h)
 rw[KH] at this
 rcases Jz.mp this with z|z
 ·exact .inr (Kz.mp z)
 ·exact .inl (Jv.mp z)
theorem SI.add {t:SetTable}{es:Array (Int×Value)}(I:SI t es n hs)(J:n<18)(B:h∉hs):∃r f,gL t es h x=some (r,f)/\SI r f (n+1) (h::hs):=by
 have y:t.mask=7\/t.mask=31:=I.ms.imp (·.1) (·.1)
 obtain⟨j,H⟩:=TabA.probe_new (t:=t) (hashAt:=HM es) (h:=h) y I.dm (by rw[I.pl];rcases I.ms with q|q<;>lia) (fun i hi e=>by
  rw[I.pl,<-I.sz] at hi
  unfold HM at e
  rw[Lc hi] at e
  exact B (e▸I.hm _ (Array.getElem_mem hi)))
 have hg:¬t.gaveWay=true:=by unfold SetTable.gaveWay;rcases y with q|q<;>simp[q]
 have A:(t.put j).1.dummies= #[]:=by
  unfold SetTable.put
  dsimp only
  rw[I.dm]
  split
  ·rename_i q;unfold SetTable.has at q;simp at q
  ·rfl
 have g:(t.put j).1.mask=t.mask:=rfl
 have l:(t.put j).1.place.size=n+1:=by
  show(SetTable.insertAt t.place _ j).size=_
  rw[cX,I.pl]
 have o:(t.put j).1.fill=n+1:=by unfold SetTable.fill;rw[l,A];rfl
 have d:(t.put j).1.fits (SetTable.insertAt es (t.put j).2 (h,x)).size=true:=by
  unfold SetTable.fits
  rw[cX,l,o,g,I.sz]
  simp
  rcases I.ms with q|q<;>lia
 have b:∀e∈SetTable.insertAt es (t.put j).2 (h,x),e.1∈h::hs:=fun e m=>by
  rcases tP m with rfl|z
  ·exact Jp
  ·exact Jq _ (I.hm _ z)
 unfold gL
 rw[if_neg hg,H]
 dsimp only
 rw[if_pos d]
 by_cases hf:(t.put j).1.tooFull=true
 ·rw[if_pos hf]
  have c:t.mask=7/\n=4:=by
   unfold SetTable.tooFull at hf
   rw[o,g] at hf
   simp only[ge_iff_le,decide_eq_true_eq] at hf
   rcases I.ms with q|q
   ·exact⟨q.1,by rw[q.1] at hf;lia⟩
   ·rw[q.1] at hf;lia
  obtain⟨E,a,F,C,G,s,p,w⟩:=TabA.laid_some (t.put j).1.finger ((t.put j).1.movedTo 31) (t.put j).1.led (t.put j).1.plain ((SetTable.insertAt es (t.put j).2 (h,x)).map (·.1)) (by rw[Array.size_map,cX,I.sz];lia)
  have D:(t.put j).1.relaid ((SetTable.insertAt es (t.put j).2 (h,x)).map (·.1)) (SetTable.grown (es.size+1))=some (E,a):=by
   unfold SetTable.relaid
   rw[I.sz,c.2]
   exact F
  rw[D]
  dsimp only
  rw[Array.size_map,cX,I.sz] at s p w
  have u:(a.filterMap ((SetTable.insertAt es (t.put j).2 (h,x))[·]?)).size=(SetTable.insertAt es (t.put j).2 (h,x)).size:=by
   rw[<-JD,Array.toList_filterMap,List.length_filterMap_eq_countP,cX,I.sz]
   rw[List.countP_eq_length.mpr,JD,p]
   intro k v
   have:=w k (Kz.mp v)
   rw[Lc (by rw[cX,I.sz];exact this)]
   rfl
  rw[if_pos u]
  refine⟨_,_,rfl,G,.inr ⟨C,by lia⟩,s,by rw[u,cX,I.sz],fun e m=>?_⟩
  obtain⟨k,v,q⟩:=Array.mem_filterMap.mp m
  exact b _ (Array.mem_of_getElem? q)
 ·rw[if_neg hf]
  refine⟨_,_,rfl,A,?_,l,by rw[cX,I.sz],b⟩
  rw[g]
  rcases I.ms with q|q
  ·refine .inl ⟨q.1,?_⟩
   unfold SetTable.tooFull at hf
   rw[o,g,q.1] at hf
   simp only[ge_iff_le,decide_eq_true_eq] at hf
   lia
  ·exact .inr ⟨q.1,by lia⟩
theorem SI.fits {t:SetTable}{es:Array (Int×Value)}(I:SI t es n hs):t.fits es.size=true:=by
 unfold SetTable.fits SetTable.fill
 rw[I.pl,I.sz,I.dm]
 simp
 rcases I.ms with q|q<;>lia
theorem Ci (r:Nat->Int×Value)(f:SetTable)(N:Nat)(h0:SI f #[] 0 [])(g:N<=18)(hd:((List.range N).map fun i=>(r i).1).Nodup):∃(T:Nat->SetTable) (Es:Nat->Array (Int×Value)),T 0=f/\Es 0= #[]/\
  (∀i,i<N->gL (T i) (Es i) (r i).1 (r i).2=some (T (i+1),Es (i+1)))/\∀i,i<=N->SI (T i) (Es i) i ((List.range i).map fun i=>(r i).1).reverse:=by
 let S:Nat->SetTable×Array (Int×Value):=fun i=>Nat.rec (f,#[]) (fun i q=>(gL q.1 q.2 (r i).1 (r i).2).getD q) i
 have b:∀i,i<=N->SI (S i).1 (S i).2 i ((List.range i).map fun i=>(r i).1).reverse:=by
  intro i
  induction i with
  |zero=>intro _;exact h0
  |succ i ih=>
   intro hi
   have I:=ih (by lia)
   have d:(r i).1∉((List.range i).map fun i=>(r i).1).reverse:=by
    rw[List.mem_reverse]
    have h1:((List.range (i+1)).map fun i=>(r i).1).Nodup:=by
     refine hd.sublist (List.Sublist.map _ ?_)
     exact List.range_sublist.mpr hi
    rw[List.range_succ,Jl,K1] at h1
    intro z
    exact h1.2.2 _ z _ (Jv.mpr rfl) rfl
   obtain⟨c,a,e,I'⟩:=I.add (x:=(r i).2) (by lia) d
   have es:S (i+1)=(c,a):=by show(gL (S i).1 (S i).2 (r i).1 (r i).2).getD (S i)=_;rw[e];rfl
   rw[es,List.range_succ,Jl,L4]
   exact I'
 refine⟨fun i=>(S i).1,fun i=>(S i).2,rfl,rfl,fun i hi=>?_,b⟩
 have I:=b i (by lia)
 have d:(r i).1∉((List.range i).map fun i=>(r i).1).reverse:=by
  rw[List.mem_reverse]
  have h1:((List.range (i+1)).map fun i=>(r i).1).Nodup:=by
   refine hd.sublist (List.Sublist.map _ ?_)
   exact List.range_sublist.mpr hi
  rw[List.range_succ,Jl,K1] at h1
  intro z
  exact h1.2.2 _ z _ (Jv.mpr rfl) rfl
 obtain⟨c,a,e,I'⟩:=I.add (x:=(r i).2) (by lia) d
 have es:S (i+1)=(c,a):=by show(gL (S i).1 (S i).2 (r i).1 (r i).2).getD (S i)=_;rw[e];rfl
 show gL (S i).1 (S i).2 _ _=some ((S (i+1)).1,(S (i+1)).2)
 rw[e,es]
theorem xR(D:X.calm=true){k:Nat}(C:bT k X.A):cI X (.type "set") (fun xs H Q=>∃(l:Addr) (as:List Addr) (cs:List (List Int)),xs=[.ref l]/\aH X.K H l (as.map V.ref)/\bB H as cs/\cs.length<=18/\(cs.map gY).Nodup/\∀p,H p=none->Q (.ref p) (upd H p (Ij p cs.length))):=by
 intro pins s σ H xs us Q I r h
 obtain⟨l,as,cs,rfl,P,B,g,y,q⟩:=h
 obtain⟨u,rfl,E⟩:=df r
 cases E
 obtain⟨m,N,R,W⟩:=I.list P
 obtain rfl:=ic N
 have Y:=C.units
 have len:as.length=cs.length:=Paired.length B
 have d:∀j,j<as.length->ml s.heap (cs.getD j []) (as.getD j 0):=fun j v=>by
  obtain⟨c,h1,h2⟩:=B.at (i:=j) (a:=as.getD j 0) (by rw[Kb,JL v];rfl)
  rw[Kb,h1]
  exact AS I.hok h2
 have x:((List.range as.length).map fun j=>(gY (cs.getD j []),Value.ref (as.getD j 0)).1)=cs.map gY:=by
  refine LC fun j=>?_
  rw[JG,JG]
  by_cases v:j<as.length
  ·rw[List.getElem?_range v,JL (show j<cs.length by omega)]
   show some (gY (cs.getD j []))=some (gY cs[j])
   rw[Kb,JL (show j<cs.length by omega)];rfl
  ·rw[LH (by simpa using v),LH (by omega)];rfl
 have st:∀led:Bool,∃(T:Nat->SetTable) (Es:Nat->Array (Int×Value)),T 0=.fresh 0 0 led/\Es 0= #[]/\(∀i,i<as.length->gL (T i) (Es i) (gY (cs.getD i [])) (.ref (as.getD i 0))=some (T (i+1),Es (i+1)))/\
   ∀i,i<=as.length->SI (T i) (Es i) i ((List.range i).map fun j=>(gY (cs.getD j []),Value.ref (as.getD j 0)).1).reverse:=fun led=>
  Ci (fun j=>(gY (cs.getD j []),Value.ref (as.getD j 0))) (.fresh 0 0 led) as.length ⟨rfl,.inl ⟨rfl,by decide⟩,rfl,rfl,fun e F=>by simp at F⟩ (by omega) (by rw[x];exact y)
 have S:∀n,n<=18->SetTable.sizeAbove (SetTable.grown (n+1))<=sizeLine:=by
  have:∀n,n<19->SetTable.sizeAbove (SetTable.grown (n+1))<=2^24:=by decide+kernel
  exact fun n hn=>this n (by omega)
 refine lP (I.ok.hd D) R.isList (tupleKind (intKind X.prog X.w)) (show X.A.units+1+1+1<cLine by omega) (fun h k b t=>Dz t) (fun i=>cs.getD i []) d (fun led=>Classical.choose (st led)) (fun led=>Classical.choose (Classical.choose_spec (st led)))
  (fun led=>⟨(Classical.choose_spec (Classical.choose_spec (st led))).1,(Classical.choose_spec (Classical.choose_spec (st led))).2.1⟩) (fun led=>(Classical.choose_spec (Classical.choose_spec (st led))).2.2.1) (fun led i hi=>?_) fun led h' tk O G=>?_
 ·have z:=(Classical.choose_spec (Classical.choose_spec (st led))).2.2.2 i hi
  exact⟨z.fits,by rw[z.sz];omega,by rw[z.sz];exact S i (by omega),by rw[z.sz];omega⟩
 have z:=(Classical.choose_spec (Classical.choose_spec (st led))).2.2.2 _ (Jg _)
 obtain⟨o,ep,h1,h2,M⟩:=O
 refine⟨.ref s.heap.objs.size,_,I.laid (a:=s.heap.objs.size) (o:=Ij s.heap.objs.size cs.length) (t':=tk) (fun b u e=>G b u (Jm e) e) (Jg _) ⟨⟨o,_,ep,_,h1,h2,M,z.fits,z.sz.trans len⟩,⟨o,h1⟩,?_⟩,rfl,q _ (I.hok.fresh (Jg _))⟩
 rintro Z U ⟨o',es,f,t,x,J⟩ k'
 exact⟨o',es,f,t,k' _ x,J⟩
end L2
namespace L2
open PySem PySem.Spec PyProof.Rows
section
variable {prog:Program} {w:World} {κ:Type} [DecidableEq κ] {knd:HeapKind prog w κ} {A:Around} {E:Value->Shared->Prop} {s:Shared}
end
section
variable {X:Cx}
end
section
variable {prog:Program} {w:World}
variable {A:Around} {E:Value->Shared->Prop} {s:Shared}
end
section
variable {X:Cx}
end
section
variable {X:Cx}
end
section
variable {X:Cx}
end
section
variable {P:Program} {w:World} {K:Je} {mg:Str->Option Value} {base:Heap}
end
section
variable {X:Cx}
end
structure Az (P:Program) (w:World) (K:Je) (mg:Str->Option Value) (base:Heap) (C:Addr) (x:Str) (k:Nat) (ps:List Str) (sp:Sp):Prop where
 ex:∃f fd,eW P w K mg base mq k f fd ps sp/\Mk K C f/\mg x=some (.ref C)/\dn K fd ps []/\dn K fd ps [Value.none]/\dn K fd ps [Value.none,Value.none]
section
variable {X:Cx} {C:Addr} {k:Nat} {ps:List Str} {sp:Sp} {x:Str} {p pos:Pos} {e:Expr} {es:List Expr} {t:TA} (G:Az X.prog X.w X.K X.mg X.base C x k ps sp) (hr:bT (k+1) X.A) (hg:Gl X x) (ha:PA X (e::es) t) (hdb:(x==("__debug__" :Str))=false:=by decide)
  (he:starEach (e::es) X.env=(false,eval e X.env)::starEach es X.env:=by rfl) (hpl:(backTo pos (starEach es X.env)).any (·.1)=false:=by rfl)
include G hr hg ha hdb he hpl
end
theorem jU {X:Cx}{K:Je}{e:Expr}{f:Str}{a:Pos}{ta:TE}(d:X.K=K)(c:PE X e ta)(b:attributeBase e f X.env (eval e X.env)=eval e X.env):PE X (.Attribute e f a) (wD K ta f):=by subst d;exact bC c b
section
variable {P:Program} {w:World} {K:Je} {mg:Str->Option Value} {base:Heap}
end
section
variable {X:Cx}
end
section
variable {prog:Program} {w:World} {A:Around} {R:Result->Shared->Prop} {it:Addr} {fp wr:List Addr} {P:Nat->Value->Prop} {St:Nat->Heap->Prop} {n:Nat}
end
section
variable {prog:Program} {w:World} {A:Around} {E:Value->Shared->Prop} {s:Shared}
end
section
variable {X:Cx}
end
section
variable {X:Cx}
end
section
variable {X:Cx} {pins:List (Addr×Obj)} {σ:St} {H:Hp} {s:Shared} {a:Addr} {C:Value} {cx:Str} {CW:Addr} {np hpos pos:Pos} {b₀:Stmt} {suite:List Stmt} {nm:Option Str} {rest:List ExceptHandler} {D:fJ}
end
section
variable {X:Cx}
end
section
variable {X:Cx} {scope:Scope} {ls ys:List Str} {ix:List Nat} {tg iter elt:Expr} {ifs:List Expr} {pos:Pos} {wi:TI} {g:TG} {tt:TT} {te:TE}
end
section
variable {P:Program} {w:World} {K:Je} {mg:Str->Option Value} {base:Heap} {N:List Str} {qual:Str} {scope:Scope} {f:Addr} {cd:Value} {A:Around} {outer:List Env} {s₀:Shared} {H₀:Hp} {E:XK}
end
section
variable {X:Cx} {scope:Scope} {ls ys:List Str} {ix:List Nat} {tg iter elt:Expr} {ifs:List Expr} {pos:Pos} {wi:TI} {g:TG} {tt:TT} {te:TE}
end
section
variable {X:Cx}
end
section
variable {X:Cx} {C:Addr} {x:Str} {p pos:Pos}
end
theorem B2 {K:Je}{a:Addr}{xs:List V}{j:St}{g:TG}{l:TT}{o:TE}{n:Hp}{D:Addr}{Q:Hp->Prop}(f:Nat->St->Hp->Prop)(h0:f 0 j (upd n D (.lst [])))
  (w:∀i c H,i<=xs.length->f i c H->cn K H a xs)
  (u:∀i x c H,xs[i]?=some x->f i c H->g x c H fun d H2=>l d H2 fun b H3=>
   if b=true then o d H3 fun v H4=>∃h,H4 D=some (.lst h)/\h.length<sizeLine/\f (i+1) d (upd H4 D (.lst (h++[v]))) else f (i+1) d H3)
  (hd:∀c H,f xs.length c H->Q H):sI j g l o (Gw K a) n D Q:=by
 refine⟨fun i m c H=>m=xs.length - i/\i<=xs.length/\f i c H,⟨xs.length,by simp,JA _,h0⟩,?_⟩
 rintro i m c H ⟨rfl,hi,p⟩
 have q:=w i c H hi p
 by_cases hlt:i<xs.length
 ·refine .inr ⟨⟨xs,xs[i],q,by simp[hlt]⟩,f (i+1),fun s H' r=>⟨xs.length - (i+1),by lia,rfl,hlt,r⟩,fun x H' y=>?_⟩
  obtain⟨e,y⟩:=y
  subst e
  exact u i x c _ (y xs q) p
 ·have e:i=xs.length:=by lia
  subst e
  exact .inl ⟨⟨xs,q,Jg _⟩,hd c H p⟩
section
open PySem.SeqAt
open PySem.AutoSeq1 (wpAny_loadPart')
open PySem.MeetsSeq PySem.MeetsSeq2 PySem.MeetsSeq3
end
section
variable {prog:Program} {w:World} {A:Around} {E:Value->Shared->Prop} {s:Shared}
end
section
variable {X:Cx}
end
end L2
namespace HT
open PySem PyProof.Rows
section
variable {prog:Program} {w:World} {A:Around} {E:Value->Shared->Prop} {s:Shared}
end
end HT
namespace L2
open PySem PySem.Spec PyProof.Rows
section
open PySem.SeqAt
open PySem.AutoSeq1 (wpAny_loadPart')
open PySem.MeetsSeq PySem.MeetsSeq2 PySem.MeetsSeq3
end
section
variable {X:Cx}
end
structure zI (P:Program) (w:World) (K:Je) (mg:Str->Option Value) (base:Heap) (C:Addr) (x:Str) (k:Nat) (ps:List Str) (sp:Sp) (n:Nat):Prop where
 ex:∃f fd,eW P w K mg base mq k f fd ps sp/\Mk K C f/\mg x=some (.ref C)/\∀j,j<=n->∃ds,aS (List.replicate j (.int 0)) ds/\dn K fd ps ds
section
variable {X:Cx} {C:Addr} {k n:Nat} {ps:List Str} {sp:Sp} {x:Str} {p pos:Pos} {e:Expr} {es:List Expr} {t:TA} (G:zI X.prog X.w X.K X.mg X.base C x k ps sp n) (hr:bT (k+1) X.A) (hg:Gl X x) (ha:PA X (e::es) t) (hdb:(x==("__debug__" :Str))=false:=by decide)
  (he:starEach (e::es) X.env=(false,eval e X.env)::starEach es X.env:=by rfl) (hpl:(backTo pos (starEach es X.env)).any (·.1)=false:=by rfl)
include G hr hg ha hdb he hpl
end
section
variable {X:Cx}
end
section
variable {X:Cx}
def GR:R2:=fun x y H Q=>∃a b xs ys,x=.ref a/\y=.ref b/\H a=some (.tup xs)/\H b=some (.tup ys)/\xs.length+ys.length<=sizeLine/\∀p H',ah H H'->H' p=some (.tup (xs++ys))->Q (.ref p) H'
theorem vc:gN X (binaryOp .Add) GR:=by
 intro pins s σ H x y v u Q I i l h
 obtain⟨a,b,xs,ys,rfl,rfl,ha,f,o,q⟩:=h
 by_cases e:xs=[]
 ·subst e
  cases i
  cases l
  obtain⟨d,G,r,_⟩:=I.tuple (cn.of ha)
  obtain⟨c,N,p2,_⟩:=I.tuple (cn.of f)
  cases G
  obtain⟨⟨M,A,K,B⟩,j,k1,w,g⟩:=id r
  obtain⟨⟨J,E,b2,C⟩,m,k2,D,n⟩:=id p2
  simp only at k1 g k2 n
  subst k1 g k2 n
  exact concat_meets ⟨_,j,rfl⟩ ⟨_,m,rfl⟩ noFill_tuple_add seq_tuple_add PySem.F.slot_tuple_add Mb (Mc _ _)
   (tuple_addW0 a b _ _ w D A E B C rfl) ⟨j,m,⟨.ref b,H,I,rfl,q b H (ah.refl H) f⟩⟩
 ·refine B7 pins s σ H _ _ v u Q I i l ⟨a,b,xs,ys,rfl,rfl,cn.of ha,cn.of f,e,o,fun z=>?_,fun _ p np=>q p _ ((ah.refl H).upd np) ae⟩
  refine q a H (ah.refl H) ?_
  rw[z,JK]
  exact ha
end
section
variable {X:Cx}
end
namespace TabB
open SetTable
abbrev IF:=Nat->Option Int
section
variable {m:Nat} {f:IF} {h:Int}
end
section
variable {m:Nat} {f:IF} {h:Int}
noncomputable def gQ (m:Nat) (h:Int):Probe:={j:=bits h%(m+1),more:=runEnd m (bits h%(m+1)) - bits h%(m+1),i:=bits h%(m+1),perturb:=bits h,dummy:=none}
end
section
variable {t:SetTable} {g:Nat->Int} {h:Int}
end
end TabB
namespace TabB
open SetTable
end TabB
namespace TabB
open SetTable
end TabB
namespace TabB
open SetTable
section
variable {α:Type} {L:List α} {x:α} {p i:Nat}
end
end TabB
section
variable {prog:Program} {w:World} {A:Around} {E:Value->Shared->Prop} {s:Shared}
end
section
variable {prog:Program} {w:World} {A:Around} {R:Result->Shared->Prop} {I:Addr} {fp wr:List Addr} {G:Array GenState->Array GenState->Prop} {n:Nat} {P:Nat->Value->Prop} {St:Nat->Shared->Prop}
end
section
variable {X:Cx} {Ex:St->Value->Hp->Prop} {C:Addr} {k:Nat} {f:Addr} {fd:FuncData} {ps:List Str} {sp:Sp} {x m:Str} {p pos apos:Pos} {e o:Expr} {es:List Expr} {ta:TE} {t:TA}
end
section
variable {P:Program} {w:World} {K:Je} {mg:Str->Option Value} {base:Heap}
end
def AC (C c:Addr) (m:Str) (sp b:Sp) (ta:TE):TE:=fun σ H Q=>ta σ H fun x H1=>∃a D dx fs,x=.ref a/\H1 a=some (.ins D dx fs)/\fs.lookup m=none/\
 ((D=C/\sp [x] H1 Q E0)\/(D=c/\b [x] H1 Q E0))
section
variable {X:Cx} {C C':Addr} {k k':Nat} {ps ps':List Str} {sp sp':Sp} {m:Str} {pos apos:Pos} {o:Expr} {ta:TE}
theorem lV {pl:Sem Bool}(z:PE X o ta)(c:jn X.K C)(B:jn X.K C')(G:cS X.prog X.w X.K X.mg X.base C m k ps sp)(y:cS X.prog X.w X.K X.mg X.base C' m k' ps' sp')(n:bT k X.A)(g:bT k' X.A)
  (v:eval (.Call (.Attribute o m apos) [] [] pos) X.env=(do
   let ov<-eval o X.env
   standAt apos.atName
   let (f,first)<-holding [ov] (getMethod ov m pl)
   callWith pos f first (backTo pos (starEach [] X.env)) (backToKw pos (keywordEach [] X.env))):=by rfl):
  PE X (.Call (.Attribute o m apos) [] [] pos) (AC C C' m sp sp' ta):=by
 obtain⟨f,fd,F,i,p⟩:=G.ex
 obtain⟨M,e,F',b,d⟩:=y.ex
 intro pins s σ H Q I h
 refine LW (pl:=pl) (bZ (z pins s σ H _ I h) fun u J E=>?_) v
 obtain⟨x,H1,I1,r,a,D,dx,fs,ex,j,l,q⟩:=E
 subst ex
 obtain rfl:u=Value.ref a:=r
 rcases q with ⟨rfl,q⟩|⟨rfl,q⟩
 ·refine gq I1 j c i l ?_
  exact PySem.W.callWith_K0 (first:=[.ref a]) I1.kIn i.kp (jx (us:=[.ref a]) (vs:=[.ref a]) F n p .nil kZ I1 (.cons rfl .nil) q)
 ·refine gq I1 j B b l ?_
  exact PySem.W.callWith_K0 (first:=[.ref a]) I1.kIn b.kp (jx (us:=[.ref a]) (vs:=[.ref a]) F' g d .nil kZ I1 (.cons rfl .nil) q)
end
theorem uj {K:Type} [DecidableEq K]{xs:List (K×Value)}{k:K}{v:Value}:(stored xs k v).length<=xs.length+1:=by
 unfold stored
 split
 ·rw[Jd];lia
 ·simp
noncomputable def uy {K:Type} [DecidableEq K] (a:Nat->K) (b:Nat->Value):Nat->List (K×Value)
 |0=>[]
 |i+1=>stored (uy a b i) (a i) (b i)
theorem m9 {K:Type} [DecidableEq K]{a:Nat->K}{b:Nat->Value}:∀(i:Nat),(uy a b i).length<=i
 |0=>Jg _
 |i+1=>Jn uj (KC (m9 i))
abbrev Hz (H:Hp) (as:List Addr) (kvs:List (cP×V)):Prop:=Paired (fun a (kv:cP×V)=>H a=some (.tup [kV kv.1,kv.2])) as kvs
abbrev Ha (kvs:List (cP×V)):List (cP×V):=DT kvs
theorem jR(W:X.calm=true):cI X (.type "dict") (fun xs H Q=>∃(l:Addr) (as:List Addr) (kvs:List (cP×V)),xs=[.ref l]/\H l=some (.lst (as.map V.ref))/\Hz H as kvs/\∀p,H p=none->Q (.ref p) (upd H p (.dK (Ha kvs)))):=by
 intro pins s σ H xs us Q I r h
 obtain⟨l,as,kvs,rfl,hl,G,q⟩:=h
 obtain⟨u,rfl,Y⟩:=df r
 cases Y
 obtain⟨J,y,c,rv,x⟩:=I.hok l _ hl
 obtain rfl:=ic rv
 have len:as.length=kvs.length:=Paired.length G
 have ex:∀j,∃(b u:Value),j<as.length->ku s.heap (as.getD j 0) b u/\aQ (kV (kvs.getD j (.inl 0,.non)).1) b/\aQ (kvs.getD j (.inl 0,.non)).2 u:=fun j=>by
  by_cases D:j<as.length
  ·have m:j<kvs.length:=by omega
   obtain⟨a,ha,h1⟩:=fu G j m
   obtain⟨_,ii,rr,o,C,v,n,hd⟩:=I.hok a _ h1
   obtain⟨N,R,rfl,r1,r2⟩:=lC rr
   refine⟨N,R,fun _=>?_⟩
   have M:as.getD j 0=a:=by rw[Kb,ha];rfl
   have F:kvs.getD j (.inl 0,.non)=kvs[j]:=by rw[Kb,JL m];rfl
   rw[M,F]
   exact⟨⟨o,n,C,v,hd⟩,r1,r2⟩
  ·exact⟨.none,.none,fun z=>absurd z D⟩
 obtain⟨A,f⟩:∃A:Nat->Value,∀j,∃u:Value,j<as.length->ku s.heap (as.getD j 0) (A j) u/\aQ (kV (kvs.getD j (.inl 0,.non)).1) (A j)/\aQ (kvs.getD j (.inl 0,.non)).2 u:=⟨fun j=>Classical.choose (ex j),fun j=>Classical.choose_spec (ex j)⟩
 obtain⟨B,d⟩:∃B:Nat->Value,∀j,j<as.length->ku s.heap (as.getD j 0) (A j) (B j)/\aQ (kV (kvs.getD j (.inl 0,.non)).1) (A j)/\aQ (kvs.getD j (.inl 0,.non)).2 (B j):=⟨fun j=>Classical.choose (f j),fun j=>Classical.choose_spec (f j)⟩
 have T:∀i,i<=as.length->KV (Ha (kvs.take i)) (uy (fun j=>(kvs.getD j (.inl 0,.non)).1) B i):=by
  intro i
  induction i with
  |zero=>intro _;exact .nil
  |succ i ih=>
   intro hi
   obtain⟨_,_,Z⟩:=d i hi
   have w:i<kvs.length:=by omega
   have F:kvs[i]?=some (kvs.getD i (.inl 0,.non)):=by rw[Kb,JL w];rfl
   have S:kvs.take (i+1)=kvs.take i++[kvs.getD i (.inl 0,.non)]:=by rw[KY,F];rfl
   unfold Ha;rw[S,lq]
   exact KV.put (ih (by omega)) _ Z
 refine gK (I.ok.hd W) x A B (DX:=fun i h=>h.DictOf (aY X.prog X.w) s.heap.objs.size (uy (fun j=>(kvs.getD j (.inl 0,.non)).1) B i)) (KO:=fun _ _=>True) (fun j D=>⟨(d j D).1,trivial⟩) (fun _ _ _ _ _ z=>z) (fun i hi g g' hg ⟨o,es,ep,C,r⟩=>⟨o,es,ep,hg _ _ (Jg _) C,r⟩) (fun i hi s' Q E _ d1 q=>wpAny_dictSet_pairs (nE (d i hi).2.1) d1 (fun h' hd sb=>q h' _ (KZ _ _) hd sb) (Jn (m9 i) (Jn (Ky hi) (by simpa using J)))) (fun h' e=>⟨_,#[],0,e,⟨rfl,rfl,rfl⟩,rfl,(fun e O=>nomatch O),.nil,Lk⟩) fun h' tk hd P=>?_
 ·have K:=T as.length (Jg _)
  rw[len,JI] at K
  rw[len] at hd
  have U:H s.heap.objs.size=none:=I.hok.fresh (Jg _)
  exact⟨.ref s.heap.objs.size,_,I.laid (a:=s.heap.objs.size) (o:=.dK (Ha kvs)) (t':=tk) P (Jg _) ⟨Jn vE (by rw[<-len];simpa using J),beq_eq_false_iff_ne.mpr (JH (Jw I.big)),_,K,hd⟩,rfl,q _ U⟩
def Hq (v d:Addr):HO:=.ext fun h=>h.IsValuesView v d
theorem BO {a:Type}{kvs:List (a×V)}{vs:List (a×Value)}(h:KV kvs vs):aS (kvs.map (·.2)) (vs.map (·.2)):=by
 induction h with
 |nil=>exact .nil
 |cons r h ih=>exact .cons r.2 ih
section
variable {X:Cx}
theorem xE:DN X "dict.values" (fun x vs H Q=>∃(a:Addr) (kvs:List (cP×V)),x=.ref a/\vs=[]/\H a=some (.dK kvs)/\∀v,H v=none->Q (.ref v) (upd H v (Hq v a))):=by
 intro pins s σ H x xs v us Q I c f h
 obtain⟨a,kvs,rfl,rfl,ha,q⟩:=h
 cases c
 cases f
 obtain⟨i,g,vs,j,o,es,ep,b,d,hd,r⟩:=I.hok a _ ha
 refine vK g b d ?_
 exact⟨.ref s.heap.objs.size,_,I.laid (a:=s.heap.objs.size) (o:=Hq s.heap.objs.size a) (t':=s.toks) (fun _ _ q=>Jj _ q) (Jg _) ⟨⟨_,Jx _ rfl,rfl,rfl⟩,⟨_,Jx _ rfl⟩,fun h1 h2 ⟨o,e,x⟩ k=>⟨o,k o e,x⟩⟩,rfl,q _ (I.hok.fresh (Jg _))⟩
theorem tq (m:X.calm=true):cI X (.type "list") (fun xs H Q=>∃(v a:Addr) (kvs:List (cP×V)),xs=[.ref v]/\H v=some (Hq v a)/\H a=some (.dK kvs)/\kvs.length<=1000/\∀l,H l=none->Q (.ref l) (upd H l (.lst (kvs.map (·.2))))):=by
 intro pins s σ H xs us Q I r h
 obtain⟨v,a,kvs,rfl,x,ha,D,q⟩:=h
 obtain⟨E,rfl,z⟩:=df r
 cases z
 have d:sizeLine=2^24:=rfl
 obtain⟨b,_⟩:=I.hok v _ x
 obtain⟨_,F,vs,n,o,es,ep,p,A,hd,j,C,B⟩:=I.hok a _ ha
 have len:kvs.length=vs.length:=Paired.length n
 refine PySem.W.kdl_call (PySem.W.kdl_values (knd:=aY X.prog X.w) (kvs:=vs) (ep:=ep)) (I.ok.hd m) ⟨b,o,es,p,A,hd,j,C,B⟩ (by omega) fun h' tk g c j y f=>?_
 have e:g.toList=vs.map (·.2):=by
  refine LC fun i=>?_
  rw[JG]
  cases ei:g.toList[i]? with
  |some u=>
   obtain⟨k,j⟩:=f.2 i u (by rw[<-J7];exact ei)
   rw[j];rfl
  |none=>
   have h1:=List.getElem?_eq_none_iff.mp ei
   rw[JD,f.1] at h1
   rw[List.getElem?_eq_none_iff.mpr h1];rfl
 exact⟨.ref s.heap.objs.size,_,I.laid (o:=.lst (kvs.map (·.2))) j (Jg _) ⟨by rw[Jd];omega,g.toList,c,by rw[e];exact BO n,y⟩,rfl,q _ (I.hok.fresh (Jg _))⟩
end
def EY (K:Je) (tl:TA):TI:=fun σ H R=>tl σ H fun vs H1=>∃a,vs=[.ref a]/\(∃xs,aH K H1 a xs)/\R (Fp 0 K a) H1
section
variable {X:Cx}
theorem zL(r:Gl X "enumerate")(y:X.mg "enumerate" =none)(j:bootBuiltins "enumerate" =some (.type "enumerate"))(o:PA X [l] ta)
  (w:starEach [l] X.env=[(false,eval l X.env)]:=by rfl):
  PI X (.Tuple elts x1 pt) (.Call (.Name "enumerate" p) [l] [] pos) (EY X.K ta):=by
 intro pins s σ H R I h
 refine K7 (gF I r y j ?_ (by decide) (by decide))
 have d:=o pos pins s σ H _ I h
 rw[w] at d|-
 refine iw rfl rfl (evalArgs_kwB (rest:=[]) rfl (bZ d fun us f ⟨vs,H1,I1,A,m⟩=>?_))
 obtain⟨a,rfl,⟨xs,v⟩,q⟩:=m
 obtain⟨u,rfl,n⟩:=df A
 cases n
 refine kws_nil ?_
 obtain⟨e,C,z,B⟩:=I1.list v
 refine call_enumerate_list z.isList fun h' i g _ x=>?_
 refine wpAny_pyIter_enum (s:={f with heap:=h'}) i ?_
 refine⟨f.heap.objs.size+1,[f.heap.objs.size+1,f.heap.objs.size],_,_,H1,rfl,I1.kept (t':=f.toks) x,mE 0 a _ _ (Nat.succ_ne_self _),⟨⟨_,i⟩,g⟩,fun b hb=>?_,q⟩
 have c:f.heap.objs.size<=b:=by
  rcases Jo.mp hb with rfl|hb
  ·exact Nat.le_succ _
  ·rw[Jv.mp hb];exact Jg _
 exact I1.fpOk c (I1.hok.fresh c)
theorem wO {K:Je}{a:Addr}{xs:List V}{g:TG}{h:TS}{D:fJ}{b:St}{H:Hp}(c:Nat->St->Hp->Prop)(h0:c 0 b H)(s:∀i b H,i<=xs.length->c i b H->aH K H a xs)
  (o:∀i y p b H,xs[i]?=some y->H p=none->c i b H->g (.ref p) b (upd H p (.tup [.int ((i:Nat):Int),y])) fun d H2=>h {D with nx:=c (i+1),ct:=c (i+1),bk:=D.nx} d H2) (hd:∀b H,c xs.length b H->D.nx b H):
  ∃W:Nat->Nat->St->Hp->Prop,(∃m,W 0 m b H)/\∀i m b H,W i m b H->
   ((Fp 0 K a).stop i H/\D.nx b H)\/((Fp 0 K a).go i H/\∃N:St->Hp->Prop,(∀f H',N f H'->∃j,j<m/\W (i+1) j f H')/\∀x H',(Fp 0 K a).yld i H x H'->g x b H' fun d H2=>h {D with nx:=N,ct:=N,bk:=D.nx} d H2):=by
 refine⟨fun i m b H=>m=xs.length - i/\i<=xs.length/\c i b H,⟨xs.length,by simp,JA _,h0⟩,?_⟩
 rintro i m b H ⟨rfl,hi,p⟩
 have q:=s i b H hi p
 by_cases hlt:i<xs.length
 ·refine .inr ⟨⟨xs,xs[i],q,by simp[hlt]⟩,c (i+1),fun f H' l=>⟨xs.length - (i+1),by lia,rfl,hlt,l⟩,fun x H' y=>?_⟩
  obtain⟨P,z,r,rfl,rfl,n⟩:=y
  exact o i z P b _ (n xs q) r p
 ·have e:i=xs.length:=by lia
  subst e
  exact .inl ⟨⟨xs,q,Jg _⟩,hd b H p⟩
end
section
variable {prog:Program} {w:World} {A:Around} {E:Value->Shared->Prop} {s:Shared} {d it:Addr} {o:Obj} {es:Array (Int×Value)} {ep i:Nat} {t:SetTable}
end
section
variable {prog:Program} {w:World} {A:Around} {R:Result->Shared->Prop} {I:Addr} {fp wr:List Addr} {G:Array GenState->Array GenState->Prop} {n:Nat} {P:Nat->Value->Prop} {led:Bool} {St:Nat->Shared->Prop}
end
section
variable {X:Cx}
end
theorem mj {X:Cx}{K:Je}(e:X.K=K):cI X (.type "list") (fun xs H Q=>∃p ys,xs=[.ref p]/\(aH K H p ys\/cn K H p ys)/\∀l,H l=none->Q (.ref l) (upd H l (.lst ys))):=e▸cM
section
variable {M:Model} {A:Around} {E:Value->Shared->Prop} {s:Shared} {base:Heap} {env:Env} {outer:List Env} {L e:Addr} {oe:Obj} {vs:Array Value} {Q:Unit->Shared->Prop}
end
section
variable {X:Cx} {pins:List (Addr×Obj)} {σ:St} {H:Hp} {s:Shared}
end
section
variable {P:Program} {w:World} {K:Je} {mg:Str->Option Value} {base:Heap} {N:List Str} {qual:Str} {scope:Scope} {f:Addr} {cd:Value} {A:Around} {outer:List Env} {s₀:Shared} {H₀:Hp} {E:XK}
end
section
variable {prog:Program} {w:World} {A:Around} {E:Value->Shared->Prop} {h:Heap} {g:Array GenState} {d:Drawn} {t:Nat} {os:OsState}
variable {nm q:Str} {C N:Addr} {bs bm bmB:List Value} {hdct:Bool} {sn:List Str} {sub:List Value} {ab:Bool} {col:Option Bool} {dd:Option Addr} {k0 k1 k2 k3 k5:Option Value} {B newId initId:String}
end
section
variable {X:Cx}
end
section
variable {P:Program} {w:World} {K:Je} {mg:Str->Option Value} {base:Heap}
end
section
variable {X:Cx}
end
section
variable {X:Cx}
end
section
variable {X:Cx}
end
section
variable {X:Cx}
end
section
variable {X:Cx}
def C1 (K:Je) (c:Bool):R2:=fun x y H Q=>∃a b xs,x=.ref a/\y=.ref b/\aH K H a xs/\aH K H b []/\Q (.bl (if c then !xs.isEmpty else xs.isEmpty)) H
theorem sW(g:bT k X.A):gN X (compareOp .Eq) (C1 X.K false):=by
 intro pins s σ H x y v u Q I i d h
 obtain⟨a,b,xs,rfl,rfl,f,l,q⟩:=h
 cases(show v=Value.ref a from i)
 cases(show u=Value.ref b from d)
 have o:=g.units
 obtain⟨p,n,c,_⟩:=I.list f
 obtain⟨w,m,p2,_⟩:=I.list l
 cases m
 cases n with
 |nil=>exact SeqAt.eq_listAt (e:=fun _=>true) c.isList p2.isList rfl (by lia) (fun j h1 h2=>absurd h1 (by simp)) ⟨.bl true,H,I,by rw[qA];rfl,q⟩
 |cons r t=>exact SeqAt.eq_list_lengthsAt c.isList p2.isList (by simp) (by lia) ⟨.bl false,H,I,rfl,q⟩
theorem Fj(g:bT k X.A):gN X (compareOp .NotEq) (C1 X.K true):=by
 intro pins s σ H x y v u Q I i d h
 obtain⟨a,b,xs,rfl,rfl,f,l,q⟩:=h
 cases(show v=Value.ref a from i)
 cases(show u=Value.ref b from d)
 have o:=g.units
 obtain⟨p,n,c,_⟩:=I.list f
 obtain⟨z,m,p2,_⟩:=I.list l
 cases m
 cases n with
 |nil=>exact SeqAt.RcNeAt.lists (e:=fun _=>true) c.isList p2.isList rfl (by omega) (fun j h1 h2=>absurd h1 (by simp)) X.prog X.w X.xe _ ⟨.bl false,H,I,by rw[qA];rfl,q⟩
 |cons r t=>exact SeqAt.RcNeAt.lists_lengths c.isList p2.isList (by simp) (by omega) X.prog X.w X.xe _ ⟨.bl true,H,I,rfl,q⟩
theorem mX:∀{xs:List V} {us:List Value} {u:Value},aS xs us->u∈us->∃x∈xs,aQ x u
 |_,_,_,.nil,h=>by cases h
 |_::_,_::_,u,.cons r t,h=>by
  rcases Jo.mp h with rfl|h
  ·exact⟨_,Jp,r⟩
  ·obtain⟨x,h1,h2⟩:=mX t h
   exact⟨x,Jq _ h1,h2⟩
noncomputable def NT (K:Je) (H:Hp):V->Prop
 | .non=>True
 | .ref a=>∃ys,cn K H a ys
 |_=>False
def Cu:Value->Bool| .none=>true|_=>false
theorem zO {K:Je}{H:Hp}:∀{xs:List V} {us:List Value},aS xs us->(∀x∈xs,NT K H x)->us.any Cu=xs.any (fun x=>decide (x=.non))
 |_,_,.nil,_=>rfl
 |x::xs,u::us,.cons r t,h=>by
  rw[K9,K9,zO t fun y b=>h y (Jq _ b)]
  congr 1
  have z:=h x Jp
  cases x with
  |non=>cases r;rfl
  |ref a=>cases r;rfl
  |_=>exact z.elim
theorem FV(i:bT k X.A):gN X (compareOp .In) (fun x y H Q=>∃p xs,x=.non/\y=.ref p/\aH X.K H p xs/\(∀z∈xs,NT X.K H z)/\Q (.bl (xs.any fun x=>decide (x=.non))) H):=by
 intro pins s σ H x y v u Q I j g h
 obtain⟨p,xs,rfl,rfl,n,d,q⟩:=h
 cases j;cases g
 have o:=i.units
 obtain⟨b,r,l,c⟩:=I.list n
 refine SeqAt.in_listAt Cu l.isList (fun w f=>?_) ⟨.bl _,H,I,rfl,?_⟩
 ·obtain⟨z,c,e⟩:=mX r (by simpa using f)
  have:=d z c
  cases z with
  |non=>cases e;exact SeqAt.EqAt.same _
  |ref a=>
   cases e
   obtain⟨ys,m⟩:=this
   obtain⟨B,_,p2,_⟩:=I.tuple m
   exact SeqAt.EqAt.tuple_none p2 (show X.A.units+1<cLine by lia)
  |_=>exact this.elim
 ·rw[show b.toArray.any Cu=b.any Cu by simp,zO r d]
  exact q
end
section
variable {X:Cx} {o i:Expr} {pos:Pos} {ty:TE} {a:Addr} {kvs:List (cP×V)}
end
section
variable {prog:Program} {w:World} {A:Around} {E:Value->Shared->Prop} {s:Shared}
end
section
variable {X:Cx}
end
end L2
namespace L2
open PySem
end L2
namespace L2
open PySem PySem.Spec PyProof.Rows
section
variable {X:Cx}
def Gd (y:Str):Value->Bool
 | .str x _=>x==y
 |_=>false
theorem oY {xs:List Str}{its:List Value}(r:aS (xs.map V.str) its):∃ts:List Tok,ts.length=xs.length/\its=(xs.zip ts).map fun p=>Value.str p.1 p.2:=by
 induction xs generalizing its with
 |nil=>cases r;exact⟨[],rfl,rfl⟩
 |cons x xs ih=>
  cases r with
  |cons h r=>
   obtain⟨t,rfl⟩:=h
   obtain⟨ts,h1,rfl⟩:=ih r
   exact⟨t::ts,by simp[h1],rfl⟩
theorem Bq {A:Around}{s:Shared}{xs:List Str}{its:List Value}{y:Str}{t:Tok}(r:aS (xs.map V.str) its):∀z,z∈its.toArray->SeqAt.EqAt A s z (.str y t) (Gd y z):=fun z a=>by
 obtain⟨ts,_,rfl⟩:=oY r
 have a:z∈(xs.zip ts).map fun p=>Value.str p.1 p.2:=by simpa using a
 obtain⟨q,_,rfl⟩:=Jk.mp a
 exact SeqAt.EqAt.str_str _ _ _ _
theorem xH:DN X "list.count" (fun x vs H Q=>∃(p:Addr) (xs:List Str) (y:Str),x=.ref p/\vs=[.str y]/\H p=some (.lst (xs.map V.str))/\Q (.int (xs.count y:Nat)) H):=by
 intro pins s σ H x vs v us Q I b c h
 obtain⟨p,xs,y,rfl,rfl,d,q⟩:=h
 cases b
 obtain⟨u,rfl,t,rfl⟩:=df c
 obtain⟨z,a,n,r,f,e⟩:=I.lstM d
 refine call_meets PySem.F.slot_list_count ⟨_,e,rfl⟩ PySem.F.entry_list_count (PySem.F.args_list_count_2 _ _) (SeqAt.list_countAt p a.toArray n none #[] (.str y t) (Gd y))
  ⟨e,Bq r,⟨.int (xs.count y:Nat),H,I.tok _,⟨s.toks,?_⟩,q⟩⟩
 obtain⟨ts,h1,rfl⟩:=oY r
 have:∀(xs:List Str) (ts:List Tok),ts.length=xs.length->(((xs.zip ts).map fun p=>Value.str p.1 p.2).countP (Gd y))=xs.count y:=by
  intro xs
  induction xs with
  |nil=>intro ts _;simp
  |cons x xs ih=>
   intro ts h
   cases ts with
   |nil=>simp at h
   |cons t' ts=>
    rw[List.zip_cons_cons,Jr,List.countP_cons,List.count_cons,ih ts (by simpa using h)]
    rfl
 simp only
 rw[this xs ts h1]
theorem wj:DN X "list.index" (fun x vs H Q=>∃(p:Addr) (a b:List Str) (y:Str),x=.ref p/\vs=[.str y]/\H p=some (.lst ((a++y::b).map V.str))/\y∉a/\a.length<1000/\Q (.int (a.length:Nat)) H):=by
 intro pins s σ H x vs v us Q I j l h
 obtain⟨p,a,b,y,rfl,rfl,w,o,B,q⟩:=h
 cases j
 obtain⟨u,rfl,t,rfl⟩:=df l
 obtain⟨z,f,n,r,d,e⟩:=I.lstM w
 have i:=Bq (A:=X.A.in1) (s:=s) (y:=y) (t:=t) r
 obtain⟨ts,h1,rfl⟩:=oY r
 have c:∀m (g:m<(((a++y::b).zip ts).map fun p=>Value.str p.1 p.2).toArray.size),Gd y (((a++y::b).zip ts).map fun p=>Value.str p.1 p.2).toArray[m]=((a++y::b)[m]'(by simp at g;rw[Js,JC];lia)==y):=fun m g=>by simp[Gd]
 refine call_meets PySem.F.slot_list_index ⟨_,e,rfl⟩ PySem.F.entry_list_index (PySem.F.args_list_index_2 _ _) (SeqAt.list_indexAt p _ n none #[] (.str y t) (Gd y) a.length (by simp[h1]) (by lia) (by rw[c];simp) (fun m g h2=>by
  rw[c,beq_eq_false_iff_ne]
  rw[List.getElem_append_left h2]
  exact fun z=>o (z▸List.getElem_mem h2)))
  ⟨e,i,⟨.int (a.length:Nat),H,I.tok _,⟨s.toks,rfl⟩,q⟩⟩
end
def HY (K:Je) (tl:TE):TI:=fun σ H R=>lL K tl σ H R\/GY K tl σ H R
theorem F4(a:PE X l tl):PI X tg l (HY X.K tl):=fun pins s σ H R I h=>h.elim (aK a pins s σ H R I) (Bz a pins s σ H R I)
def GO (K:Je):R2:=fun x y H Q=>lD K x y H Q\/w8 K x y H Q
theorem As:EM X (GO X.K):=fun a b p s σ H x y v u Q I e c h d=>h.elim (fun h=>aC a b p s σ H x y v u Q I e c h d) fun h=>aF a b p s σ H x y v u Q I e c h d
theorem da {b:Type}:∀{us:List b},us.length=n+1->∃a r,us=a::r/\r.length=n
 |[],h=>nomatch h
 |a::r,h=>⟨a,r,rfl,Nat.succ.inj h⟩
theorem nL {a:Type}{us:List a}(h:us.length=0):us=[]:=LD h
theorem I_ {b:Type}{us:List b}(h:us.length=1):∃a,us=[a]:=by
 obtain⟨a,d,rfl,c⟩:=da h
 cases nL c
 exact⟨a,rfl⟩
theorem IT {c:Type}{us:List c}(h:us.length=2):∃b a,us=[b,a]:=by
 obtain⟨b,e,rfl,d⟩:=da h
 obtain⟨a,f,rfl,h1⟩:=da d
 cases nL h1
 exact⟨b,a,rfl⟩
theorem IY {d:Type}{us:List d}(h:us.length=3):∃b a c,us=[b,a,c]:=by
 obtain⟨b,f,rfl,e⟩:=da h
 obtain⟨a,i,rfl,h1⟩:=da e
 obtain⟨c,g,rfl,h2⟩:=da h1
 cases nL h2
 exact⟨b,a,c,rfl⟩
theorem IV {e:Type}{us:List e}(h:us.length=4):∃c a d b,us=[c,a,d,b]:=by
 obtain⟨c,i,rfl,g⟩:=da h
 obtain⟨a,m,rfl,h1⟩:=da g
 obtain⟨d,l,rfl,h2⟩:=da h1
 obtain⟨b,j,rfl,f⟩:=da h2
 cases nL f
 exact⟨c,a,d,b,rfl⟩
theorem IB {g:Type}{us:List g}(h:us.length=5):∃e a b d c,us=[e,a,b,d,c]:=by
 obtain⟨e,m,rfl,j⟩:=da h
 obtain⟨a,p,rfl,h1⟩:=da j
 obtain⟨b,o,rfl,h2⟩:=da h1
 obtain⟨d,n,rfl,f⟩:=da h2
 obtain⟨c,l,rfl,i⟩:=da f
 cases nL i
 exact⟨e,a,b,d,c,rfl⟩
theorem ID {j:Type}{us:List j}(h:us.length=6):∃f a c e d b,us=[f,a,c,e,d,b]:=by
 obtain⟨f,p,rfl,m⟩:=da h
 obtain⟨a,s,rfl,h1⟩:=da m
 obtain⟨c,r,rfl,h2⟩:=da h1
 obtain⟨e,q,rfl,i⟩:=da h2
 obtain⟨d,n,rfl,l⟩:=da i
 obtain⟨b,o,rfl,g⟩:=da l
 cases nL g
 exact⟨f,a,c,e,d,b,rfl⟩
section
variable {P:Program} {w:World} {K:Je} {mg:Str->Option Value} {base h:Heap} {x q:Str} {f C:Addr} {st:Stmt} {k:Nat} {ps N:List Str} {sp:Sp} {fd:FuncData}
noncomputable def Al (p:List Value->Prop):Nat->Prop
 |0=>p []
 |n+1=>∀a,Al (fun l=>p (a::l)) n
theorem al {p:List Value->Prop}(h:us.length=n)(g:Al p n):p us:=by
 subst h
 induction us generalizing p with
 |nil=>exact g
 |cons a l ih=>exact ih (p:=fun l=>p (a::l)) (g a)
def Bd (x q:Str) (st:Stmt) (ps:List Str):Prop:=∀(kV a d:Value) (c:Option Addr) (b e:Value),Al (fun us=>bindArgs (JQ x q (cH st) (bV st) (aP st) .none kV a d c b e) ⟨us,[]⟩=pure (ps.zip us)) ps.length
def pL (P:Program) (w:World) (K:Je) (a:Str->Option Value) (base:Heap) (k:Nat) (x q:Str) (st:Stmt) (ps:List Str) (sp:Sp):Prop:=Bd x q st ps/\∀{f fd},DU K x q st f fd->eW P w K a base mq k f fd ps sp
abbrev ff (P:Program) (w:World) (K:Je) (mg:Str->Option Value) (base:Heap) (k:Nat) (x:Str) (st:Stmt) (ps:List Str) (sp:Sp):Prop:=pL P w K mg base k x x st ps sp
theorem rd (N:List Str)(b:N.Nodup->∀{f:Addr} {a:Value} {A:Around} {outer:List Env} {s:Shared} (H:Hp) (vs:List V) (Q:VK) (E:XK),bT k (A.deeper (envOfC q (aP st) s.heap.objs.size f a))->sp vs H Q E->
   ∃t,mh (bE mq P w K mg base N q (aP st) f a A outer s H E).nox (bV st) t/\t {nx:=fun _ H'=>Q .non H',rt:=Q} (gQ N vs) H)
  (S:eZ N ps (aP st):=by constructor<;>decide+kernel) (len:∀vs H Q E,sp vs H Q E->vs.length=ps.length:=by intro _ _ _ _ h;cases h;subst_vars;rfl)
  (c:Bd x q st ps:=by(repeat intro _);exact rfl):pL P w K mg base (k+1) x q st ps sp:=⟨c,fun F=>F.ok S len fun _ _ _ _=>b S.nd⟩
def tM (K:Je) (f:Addr) (x q:Str) (st:Stmt):Prop:=∃(c:Value) (h:Option Addr) (kV b e:Value) (d:Option Addr) (cd g:Value) (a:Array (Option Value)),K.lookup f=some ⟨c,h,.func (JQ x q (cH st) (bV st) (aP st) .none kV b e d cd g),a⟩/\Kg K cd q=true/\JW K (.ref f)=true
theorem fnat{kV:Value}{a:Array (Option Value)}(l:K.lookup f=some ⟨oc,od,.func (JQ x q (cH st) (bV st) (aP st) .none kV dc pm an cd ct),a⟩)(c:Kg K cd q=true)(k:JW K (.ref f)=true):tM K f x q st:=⟨_,_,_,_,_,_,_,_,_,l,c,k⟩
def dZ (K:Je) (x:Str) (st:Stmt):Prop:=∃f,PySem.W.nsIn K mainGlobals x=some (some (.ref f))/\tM K f x x st
def qy (K:Je) (C:Addr) (x q:Str) (st:Stmt):Prop:=∃f,JS K (.ref C) x=some (some (.ref f))/\KQ K (.ref f)=true/\tM K f x q st
theorem fng (a:PySem.W.nsIn K mainGlobals x=some (some (.ref f)))(l:tM K f x x st):dZ K x st:=⟨f,a,l⟩
theorem meg (a:JS K (.ref C) x=some (some (.ref f)))(i:KQ K (.ref f)=true)(l:tM K f x q st):qy K C x q st:=⟨f,a,i,l⟩
structure ClG (K:Je) (C:Addr) (x:Str):Prop where
 n:PySem.W.nsIn K mainGlobals x=some (some (.ref C))
 pg:Lx K C Str.empty=true
 hd:LS K C=true
 po:PySem.W.plainOver K C=true
 sa:JS K (.ref C) "__setattr__" =some (some (.builtin "object.__setattr__"))
 mi:PySem.W.makesIn K C=true
 kc:JW K (.ref C)=true
theorem ClG.cl (g:ClG K C x):jn K C:=⟨g.pg,g.hd,g.po,g.sa⟩
theorem tM.go (l:tM K f x q st)(r:pL P w K mg base k x q st ps sp):∃fd,eW P w K mg base mq k f fd ps sp/\JW K (.ref f)=true/\dn K fd ps []:=by
 obtain⟨_,_,_,_,_,_,_,_,_,l,c,kp⟩:=l
 have F:=sQ (st:=st) l c kp
 exact⟨_,r.2 F,kp,F.binds fun a b c d e g us h=>al h (r.1 a b c d e g)⟩
theorem dZ.go (X:K.In h)(G:h.Ns mainGlobals mg)(l:dZ K x st)(r:pL P w K mg base k x x st ps sp):az P w K mg base x k ps sp:=by
 obtain⟨f,a,l⟩:=l
 obtain⟨fd,o,kp,b⟩:=l.go r
 exact⟨f,fd,o,Lq X G a,kp,b⟩
theorem qy.go (l:qy K C x q st)(r:pL P w K mg base k x q st ps sp):cS P w K mg base C x k ps sp:=by
 obtain⟨f,a,i,l⟩:=l
 obtain⟨fd,o,kp,b⟩:=l.go r
 exact⟨f,fd,o,⟨a,i,kp⟩,b⟩
theorem qy.init (X:K.In h)(G:h.Ns mainGlobals mg){n:Str}(c:ClG K C n)(l:qy K C "__init__" q st)(r:pL P w K mg base k "__init__" q st ps sp):e_ P w K mg base C n k ps sp:=by
 obtain⟨f,a,i,l⟩:=l
 obtain⟨fd,o,kp,b⟩:=l.go r
 exact⟨f,fd,o,⟨c.mi,a,i,c.kc⟩,Lq X G c.n,b⟩
theorem dZ.law (X:K.In h)(G:h.Ns mainGlobals mg)(l:dZ K x st)(b:mg x=some (.ref f)):∃fd,DU K x x st f fd/\∃kV d g e cd ct,fd=JQ x x (cH st) (bV st) (aP st) .none kV d g e cd ct:=by
 obtain⟨f,a,_,_,_,_,_,_,_,_,_,l,c,k⟩:=l
 cases b.symm.trans (Lq X G a)
 exact⟨_,sQ l c k,_,_,_,_,_,_,rfl⟩
theorem Bb {sp:Nat->Sp}(X:K.In h)(G:h.Ns mainGlobals mg)(l:dZ K x st)(b:Bd x x st ps)(h0:∀vs H Q E,¬sp 0 vs H Q E)(r:∀{n},az P w K mg base x n ps (sp n)->pL P w K mg base (n+1) x x st ps (sp (n+1))):∀n,az P w K mg base x n ps (sp n)
 |0=>dZ.go X G l ⟨b,fun _=>⟨fun vs H Q E h=>(h0 _ _ _ _ h).elim,fun A o s H a us vs Q E _ _ _ _ h=>(h0 _ _ _ _ h).elim⟩⟩
 |n+1=>dZ.go X G l (r (Bb X G l b h0 r n))
end
section
variable {X:Cx} {x:Str} {pos pos' p:Pos} {e a b tg iter elt:Expr} {es ifs:List Expr} {te ta tb:TE} {t:TA} {r:R2} {k j:Nat} {ps:List Str} {sp:Sp} {id:String} {rl:List V->Hp->VK->Prop} {wi:TI} {g:TG} {ts:TS} {tt:TT} {body:List Stmt} {scope:Scope}
def ns:Expr->Bool
 | .Starred .. =>false
 |_=>true
theorem su(h:ns e=true):starEach (e::es) env=(false,eval e env)::starEach es env:=by
 cases e<;>first|rfl|cases h
theorem Fx(h:es.all ns=true):(backTo pos (starEach es env)).any (·.1)=false:=by
 induction es with
 |nil=>rfl
 |cons e l ih=>
  rw[List.all_cons,Ki] at h
  rw[su h.1]
  exact ih h.2
theorem b2(h:(m&&n)=true):m=true/\n=true:=by simpa using h
noncomputable def cb (X:Cx) (x:Str) (es:List Expr):Bool:=decide (X.env.kindOf x=some .globalImplicit)&&(!(x==("__debug__" :Str))&&es.all ns)
theorem Bk (h:cb X x es=true):Gl X x/\(x==("__debug__" :Str))=false/\es.all ns=true:=by simpa[cb,Gl] using h
noncomputable def vb (X:Cx) (i:Nat) (x:Str):Bool:=decide (X.N[i]?=some x)&&(!(x==("__debug__" :Str))&&(!(x==("__classdict__" :Str))&&(decide (X.env.scope.names.lookup x=some .local)||(decide (X.env.scope.names.lookup x=some .cell)||decide (X.env.scope.names.lookup x=some .free)))))
theorem aj (i:Nat)(h:vb X i x=true:=by exact Eq.refl true):PE X (.Name x pos) (dE i):=by
 simp only[vb,Ki,LB,decide_eq_true_eq,Bool.not_eq_true'] at h
 exact FU h.1 h.2.2.2 h.2.1 h.2.2.1
noncomputable def sb (X:Cx) (i:Nat) (x:Str):Bool:=decide (X.N[i]?=some x)&&((decide (X.env.scope.names.lookup x=some .local)||decide (X.env.scope.names.lookup x=some .cell))&&(X.fn x||decide (X.env.scope.names.lookup x=some .local)))
theorem BH (h:sb X i x=true):X.N[i]?=some x/\Ge X.env.scope x/\(X.fn x=true\/X.env.scope.names.lookup x=some .local):=by
 simp only[sb,Ki,LB,decide_eq_true_eq] at h
 exact h
theorem bh (i:Nat)(a:X.N.Nodup)(h:sb X i x=true:=by exact Eq.refl true):PG X (.Name x pos) (cT i):=let ⟨hi,hx,hf⟩:=BH h;Dh a hi hx hf
theorem c_ (i:Nat)(h:(decide X.N.Nodup&&sb X i x)=true:=by exact Eq.refl true):PG X (.Name x pos) (cT i):=let ⟨n,h⟩:=b2 h;bh i (of_decide_eq_true n) h
theorem bj (i:Nat)(b:X.N.Nodup)(a:PE X e te)(h:sb X i x=true:=by exact Eq.refl true)(c:swapsWith e (some (.Name x pos')) pos.line X.env=pure false:=by rfl):PS X (.Assign [.Name x pos'] e pos) (mf te (cT i)):=let ⟨hi,hx,hf⟩:=BH h;F6 b hi hx a c hf
theorem aG (e:EM X r)(d:PE X a ta)(c:PE X b tb)(f:vL b:=by exact fun _ _=>rfl):PE X (.Subscript a b pos) (fZ r ta tb):=Gn e d c f
theorem aO (C:az X.prog X.w X.K X.mg X.base x k ps sp)(b:bT j X.A)(a:PA X (e::es) t)(c:k<=j:=by first|decide|exact Jg _)(h:cb X x (e::es)=true:=by exact Eq.refl true):PE X (.Call (.Name x p) (e::es) [] pos) (fH sp [] E0 t):=let ⟨g,d,s⟩:=Bk h;let ⟨u,v⟩:=b2 s;FS C (b.mono c) g a d (su u) (Fx v)
theorem a9 (a:cI X (.builtin id) rl)(b:X.mg x=none)(c:PA X (e::es) t)(f:bootBuiltins x=some (.builtin id):=by decide+kernel)(h:(!(x==("__name__" :Str))&&cb X x (e::es))=true:=by exact Eq.refl true):PE X (.Call (.Name x p) (e::es) [] pos) (oC rl t):=let ⟨n,h⟩:=b2 h;let ⟨g,d,s⟩:=Bk h;let ⟨u,v⟩:=b2 s;Ag a g b f c (by simpa using n) d (su u) (Fx v)
theorem dR(a:cI X (.type T) rl)(b:X.mg x=none)(c:PA X (e::es) t)(f:bootBuiltins x=some (.type T):=by decide+kernel)(h:(!(x==("__name__" :Str))&&cb X x (e::es))=true:=by exact Eq.refl true):PE X (.Call (.Name x p) (e::es) [] pos) (oC rl t):=let ⟨n,h⟩:=b2 h;let ⟨g,d,s⟩:=Bk h;let ⟨u,v⟩:=b2 s;wd a g b f c (by simpa using n) d (su u) (Fx v)
theorem bN(c:gN X (compareOp op) r)(f:PE X a ta)(d:PE X b tb)(e:behindInMarks op b=false:=by exact zB _):PT X (.Compare a [op] [b] pos) (jk (fZ r ta tb)):=i4 c f d e
theorem w6(c:gN X (compareOp op) r)(f:PE X a ta)(d:PE X b tb)(e:behindInMarks op b=false:=by exact zB _):PE X (.Compare a [op] [b] pos) (fZ r ta tb):=kh c f d e
theorem oJ (d:X.mg "range" =none)(e:PA X [a] t)(b:Gl X "range" :=by rfl)(c:starEach [a] X.env=[(false,eval a X.env)]:=by rfl):PI X tg (.Call (.Name "range" p) [a] [] pos) (rO t):=wM b d e c
theorem cj{st:Stmt}(a:PT X c tt)(h:PS X st ts):PS X (.If c [st] [] pos) (lJ tt ts lX):=ji a (aD h) jg
theorem aR(h:PS X s ts)(h':PS X u ts'):mh X [s,u] (fG ts ts'):=ai h (aD h')
theorem aB (b:PE X a ta)(h:ns a=true:=by exact Eq.refl true):PA X [a] (b_ ta eG):=aA b dv (su h)
theorem ay (d:PE X a ta)(c:PE X b tb)(h:(ns a&&ns b)=true:=by exact Eq.refl true):PA X [a,b] (b_ ta (b_ tb eG)):=let ⟨h,i⟩:=b2 h;aA d (aA c dv (su i)) (su h)
theorem dB (b:PI X tg iter wi)(d:PG X tg g)(a:mh X body ts)(f:PassesOwn (model X.prog X.w) X.A X.env X.xe:=by exact PassesOwn.never)(c:X.calm=true:=by rfl)(e:∀x,foldedSetIterable iter X.env x=pure x:=by intro _;rfl):PS X (.For tg iter body [] pos) (fT wi g ts):=ED f c b d a e
noncomputable def kb (X:Cx) (scope:Scope) (ys:List Str) (a:List Nat):Bool:=X.calm&&(decide (scope.kind=.function)&&((scope.names.all fun y=>y.2 !=.cell)&&((scope.names.all fun y=>y.2 !=.local||scope.names.lookup y.1==some .local)&&((scope.names.all fun y=>y.2 !=.free||X.env.kindOf y.1==some .cell)&&((ys.all fun y=>scope.names.lookup y==some .free)&&decide (a.map (fun j=>X.N[j]?)=ys.map some))))))
theorem DW (ls:List Str){ys:List Str}{ix:List Nat}(h:kb X scope ys ix=true):X.calm=true/\eI X scope ls ys ix:=
 let ⟨a,h⟩:=b2 h;let ⟨b,h⟩:=b2 h;let ⟨c,h⟩:=b2 h;let ⟨d,h⟩:=b2 h;let ⟨e,h⟩:=b2 h;let ⟨f,h⟩:=b2 h
 ⟨a,of_decide_eq_true b,c,d,e,f,of_decide_eq_true h⟩
theorem fW (ls ys:List Str)(a:List Nat)(b:PI X tg iter wi)(f:∀{cl C s H fp},PG (cw X (ls++ys) scope cl C s H fp) tg g)(d:∀{cl C s H fp},PF (cw X (ls++ys) scope cl C s H fp) ifs tt)(e:∀{cl C s H fp},PE (cw X (ls++ys) scope cl C s H fp) elt te)(k:kb X scope ys a=true:=by exact Eq.refl true)(h:∀x,foldedSetIterable iter X.env x=pure x:=by intro _;rfl):PE X (.ListComp elt [⟨tg,iter,ifs,0⟩] scope pos) (HF wi ls.length a g tt te):=let ⟨c,o⟩:=DW ls k;Gk c o b (fun _ _ _ _ _=>f) (fun _ _ _ _ _=>d) (fun _ _ _ _ _=>e) h
theorem md (i:Nat)(ls ys:List Str)(e:List Nat)(n:X.N.Nodup)(j:PI X tg iter wi)(q:∀{cl C s H fp},PG (cw X (ls++ys) scope cl C s H fp) tg g)(l:∀{cl C s H fp},PF (cw X (ls++ys) scope cl C s H fp) ifs tt)(m:∀{cl C s H fp},PE (cw X (ls++ys) scope cl C s H fp) elt te)(k:kb X scope ys e=true:=by exact Eq.refl true)(h:sb X i x=true:=by exact Eq.refl true)(r:∀x,foldedSetIterable iter X.env x=pure x:=by intro _;rfl)(f:swapsWith (.ListComp elt [⟨tg,iter,ifs,0⟩] scope pos) (some (.Name x p)) pos'.line X.env=pure true:=by rfl):PS X (.Assign [.Name x p] (.ListComp elt [⟨tg,iter,ifs,0⟩] scope pos) pos') (sS wi ls.length e g tt te i):=let ⟨a,b,c⟩:=BH h;let ⟨d,o⟩:=DW ls k;yR d n a b o j (fun _ _ _ _ _=>q) (fun _ _ _ _ _=>l) (fun _ _ _ _ _=>m) r f c
end
end L2
namespace TS
open PySem PyProof.Rows
structure SOrd (r:Keyed->Keyed->Bool):Prop where
 asym:∀{x y},r x y=true->r y x=false
 ntr:∀{x y z},r y x=false->r z y=false->r z x=false
noncomputable def Ask (M:Model) (A:Around) (E:Value->Shared->Prop) (s:Shared) (a:SortKind) (S:Keyed->Prop) (r:Keyed->Keyed->Bool):Prop:=
 ∀{st:SortSt} {x y:Keyed} {Q:Option Bool->SortSt->Prop},kindOf st=a->S x->S y->Q (some (r x y)) st->wpS M A E s (lt' x y) Q st
section
variable {M:Model} {A:Around} {E:Value->Shared->Prop} {s:Shared} {κ:SortKind} {S:Keyed->Prop} {r:Keyed->Keyed->Bool}
theorem a8{st:SortSt}{Q:Keyed->SortSt->Prop}(h:arr[i]?=some x)(q:Q x st):wpS M A E s (elem' arr i) Q st:=by
 rw[elem'_eq,h]
 exact Ji q
noncomputable def cQ:Bool->Keyed->Array Keyed->Nat->Nat->Nat->StateT SortSt Sem (Option Nat):=sortPriv%PySem.Builtin.gallop
noncomputable def fR (left:Bool) (a:Keyed) (b:Array Keyed) (base i:Nat):StateT SortSt Sem (Option Bool):=do
 let x<-elem' b (base+i)
 if left then lt' x a else return (<-lt' a x).map (!·)
theorem t8 (left:Bool)(d:Keyed)(c:Array Keyed)(base n a:Nat):cQ left d c base n a=(do
 let mut lastofs:=0
 let mut ofs:=1
 let mut lo:=0
 let mut hi:=0
 let some right<-fR left d c base a|return none
 if right then
  let b:=n - a
  for _ in [0:n] do
   if ofs>=b then break
   let some more<-fR left d c base (a+ofs)|return none
   if !more then break
   lastofs:=ofs
   ofs:=2*ofs+1
  lo:=a+lastofs+1
  hi:=a+min ofs b
 else
  let b:=a+1
  for _ in [0:n] do
   if ofs>=b then break
   let some found<-fR left d c base (a - ofs)|return none
   if found then break
   lastofs:=ofs
   ofs:=2*ofs+1
  lo:=a+1 - min ofs b
  hi:=a - lastofs
 for _ in [0:n] do
  if lo>=hi then break
  let m:=lo+(hi - lo)/2
  let some more<-fR left d c base m|return none
  if more then lo:=m+1 else hi:=m
 return some hi):=rfl
theorem tN (K:Ask M A E s κ S r){left:Bool}{a x:Keyed}{b:Array Keyed}{base i:Nat}{st:SortSt}{Q:Option Bool->SortSt->Prop}(c:kindOf st=κ)(e:S a)(hx:b[base+i]?=some x)(d:S x)(q:Q (some (if left then r x a else !(r a x))) st):
  wpS M A E s (fR left a b base i) Q st:=by
 unfold fR
 refine Jh (a8 hx ?_)
 cases left with
 |true=>exact K c d e q
 |false=>exact Jh (K c e d (Ji q))
noncomputable def uF (left:Bool) (a:Keyed) (c:Array Keyed) (base n d b:Nat):StateT SortSt Sem (Option Nat):=do
 let mut lo:=d
 let mut hi:=b
 for _ in [0:n] do
  if lo>=hi then break
  let m:=lo+(hi - lo)/2
  let some more<-fR left a c base m|return none
  if more then lo:=m+1 else hi:=m
 return some hi
theorem gv (K:Ask M A E s κ S r){left:Bool}{m:Keyed}{y:Array Keyed}{base n f:Nat}{st:SortSt}{Q:Option Nat->SortSt->Prop}(J:kindOf st=κ)(N:S m)(F:f<n)(p:Nat->Bool)
  (O:∀i,i<n->∃x,y[base+i]?=some x/\S x/\(if left then r x m else !(r m x))=p i) (mono:∀i j,i<=j->j<n->p j=true->p i=true)
  (q:∀k,k<=n->(∀i,i<k->p i=true)->(∀i,k<=i->i<n->p i=false)->Q (some k) st):wpS M A E s (cQ left m y base n f) Q st:=by
 rw[t8]
 have d:∀{i:Nat} {Q:Option Bool->SortSt->Prop},i<n->Q (some (p i)) st->wpS M A E s (fR left m y base i) Q st:=fun{i Q} hi h=>by
  obtain⟨x,h1,h2,B⟩:=O i hi
  refine tN K J N h1 h2 ?_
  rw[B];exact h
 have b:∀i j,i<=j->j<n->p i=false->p j=false:=fun i j C H h=>by
  cases e:p j with
  |false=>rfl
  |true=>rw[mono i j C H e] at h;cases h
 have HU:∀lo hi,lo<=hi->hi<=n->(∀i,i<lo->p i=true)->(∀i,hi<=i->i<n->p i=false)->wpS M A E s (uF left m y base n lo hi) Q st:=fun lo hi h1 h2 B G=>by
  unfold uF
  refine Jh (JR (JT (I:=fun x c a=>a=st/\∃l h,c=(none,l,h)/\l<=h/\h<=n/\h - l<=n - x/\(∀i,i<l->p i=true)/\∀i,h<=i->i<n->p i=false)
   (Q:=fun c a=>a=st/\∃l,c=(none,l,l)/\l<=n/\(∀i,i<l->p i=true)/\∀i,l<=i->i<n->p i=false) ?_ ?_ ⟨rfl,lo,hi,rfl,h1,h2,by omega,B,G⟩) ?_)
  ·rintro x c a _ D ⟨rfl,l,h,rfl,v,w,u,g,a5⟩
   dsimp only
   by_cases e:l>=h
   ·rw[if_pos e]
    have:l=h:=by omega
    subst this
    exact Ji ⟨rfl,l,rfl,w,g,a5⟩
   ·rw[if_neg e]
    refine Jh (d (by omega) ?_)
    dsimp only
    cases em:p (l+(h - l)/2) with
    |true=>
     rw[if_pos rfl]
     exact Ji ⟨rfl,_,_,rfl,by omega,w,by omega,fun i hi=>mono i _ (by omega) (by omega) em,a5⟩
    |false=>
     rw[if_neg (by simp)]
     exact Ji ⟨rfl,_,_,rfl,by omega,by omega,by omega,g,fun i hi z=>b _ i hi z em⟩
  ·rintro c a ⟨rfl,l,h,rfl,v,w,u,g,a5⟩
   have:l=h:=by omega
   subst this
   exact⟨rfl,l,rfl,w,g,a5⟩
  ·rintro c a ⟨rfl,l,rfl,w,g,a5⟩
   exact Ji (q l w g a5)
 refine Jh (d F ?_)
 dsimp only
 cases hr:p f with
 |true=>
  rw[if_pos rfl]
  refine Jh (JR (JT (I:=fun x c a=>a=st/\∃l o,c=(none,l,o)/\l<o/\x+1<=o/\l<n - f/\p (f+l)=true)
   (Q:=fun c a=>a=st/\∃l o,c=(none,l,o)/\l<o/\l<n - f/\p (f+l)=true/\(o>=n - f\/p (f+o)=false)) ?_ ?_ ⟨rfl,0,1,rfl,by omega,by omega,by omega,hr⟩) ?_)
  ·rintro x c a _ D ⟨rfl,l,o,rfl,v,w,u,g⟩
   dsimp only
   by_cases e:o>=n - f
   ·rw[if_pos e]
    exact Ji ⟨rfl,l,o,rfl,v,u,g,.inl e⟩
   ·rw[if_neg e]
    refine Jh (d (by omega) ?_)
    dsimp only
    cases em:p (f+o) with
    |true=>
     rw[if_neg (by simp)]
     exact Ji ⟨rfl,_,_,rfl,by omega,by omega,by omega,em⟩
    |false=>
     rw[if_pos (by simp)]
     exact Ji ⟨rfl,l,o,rfl,v,u,g,.inr em⟩
  ·rintro c a ⟨rfl,l,o,rfl,v,w,u,g⟩
   exact⟨rfl,l,o,rfl,v,u,g,.inl (by omega)⟩
  ·rintro c a ⟨rfl,l,o,rfl,v,u,g,a5⟩
   refine HU (f+l+1) (f+min o (n - f)) (by omega) (by omega) (fun i hi=>mono i _ (by omega) (by omega) g) fun i hi z=>?_
   rcases a5 with a5|a5
   ·omega
   ·exact b _ i (by omega) z a5
 |false=>
  rw[if_neg (by simp)]
  refine Jh (JR (JT (I:=fun x c a=>a=st/\∃l o,c=(none,l,o)/\l<o/\x+1<=o/\l<f+1/\p (f - l)=false)
   (Q:=fun c a=>a=st/\∃l o,c=(none,l,o)/\l<o/\l<f+1/\p (f - l)=false/\(o>=f+1\/p (f - o)=true)) ?_ ?_ ⟨rfl,0,1,rfl,by omega,by omega,by omega,hr⟩) ?_)
  ·rintro x c a _ D ⟨rfl,l,o,rfl,v,w,u,g⟩
   dsimp only
   by_cases e:o>=f+1
   ·rw[if_pos e]
    exact Ji ⟨rfl,l,o,rfl,v,u,g,.inl e⟩
   ·rw[if_neg e]
    refine Jh (d (by omega) ?_)
    dsimp only
    cases em:p (f - o) with
    |true=>
     rw[if_pos rfl]
     exact Ji ⟨rfl,l,o,rfl,v,u,g,.inr em⟩
    |false=>
     rw[if_neg (by simp)]
     exact Ji ⟨rfl,_,_,rfl,by omega,by omega,by omega,em⟩
  ·rintro c a ⟨rfl,l,o,rfl,v,w,u,g⟩
   exact⟨rfl,l,o,rfl,v,u,g,.inl (by omega)⟩
  ·rintro c a ⟨rfl,l,o,rfl,v,u,g,a5⟩
   refine HU (f+1 - min o (f+1)) (f - l) (by omega) (by omega) (fun i hi=>?_) fun i hi z=>b _ i hi z g
   rcases a5 with a5|a5
   ·omega
   ·exact mono i _ (by omega) (by omega) a5
noncomputable def cO:Nat->StateT SortSt Sem Unit:=sortPriv%PySem.Builtin.setMinGallop
noncomputable def lS:Array Keyed->Array Keyed->StateT SortSt Sem (Array Keyed):=sortPriv%PySem.Builtin.mergeLo
theorem rX (a b:Array Keyed):lS a b=(do
 rule "list.sort.merge-lo"
 let d:=a.size+b.size
 let done (out:Array Keyed) (ia ib:Nat):=out++a.extract ia a.size++b.extract ib b.size
 let c (out:Array Keyed) (ia ib:Nat):=out++b.extract ib b.size++a.extract ia a.size
 let mut out:Array Keyed:= #[<-elem' b 0]
 let mut ia:=0
 let mut ib:=1
 if ib==b.size then return done out ia ib
 if ia+1==a.size then return c out ia ib
 let mut minGallop:=gallopOf (<-get)
 for _ in [0:d] do
  let mut acount:=0
  let mut bcount:=0
  for _ in [0:d] do
   let some bWins<-lt' (<-elem' b ib) (<-elem' a ia)|return done out ia ib
   if bWins then
    out:=out.push (<-elem' b ib);ib:=ib+1;bcount:=bcount+1;acount:=0
    if ib==b.size then return done out ia ib
    if bcount>=minGallop then break
   else
    out:=out.push (<-elem' a ia);ia:=ia+1;acount:=acount+1;bcount:=0
    if ia+1==a.size then return c out ia ib
    if acount>=minGallop then break
  rule "list.sort.gallop"
  minGallop:=minGallop+1
  for _ in [0:d] do
   if minGallop>1 then minGallop:=minGallop - 1
   cO minGallop
   let some k<-cQ false (<-elem' b ib) a ia (a.size - ia) 0|return done out ia ib
   acount:=k
   if k>0 then
    out:=out++a.extract ia (ia+k);ia:=ia+k
    if ia+1==a.size then return c out ia ib
    if ia==a.size then return done out ia ib
   out:=out.push (<-elem' b ib);ib:=ib+1
   if ib==b.size then return done out ia ib
   let some k<-cQ true (<-elem' a ia) b ib (b.size - ib) 0|return done out ia ib
   bcount:=k
   if k>0 then
    out:=out++b.extract ib (ib+k);ib:=ib+k
    if ib==b.size then return done out ia ib
   out:=out.push (<-elem' a ia);ia:=ia+1
   if ia+1==a.size then return c out ia ib
   if acount<7&&bcount<7 then break
  minGallop:=minGallop+1
  cO minGallop
 unsupported "internal:list.sort.merge-bound"):=rfl
abbrev ma (r:Keyed->Keyed->Bool) (l:List Keyed):Prop:=l.Pairwise fun x y=>r y x=false
structure SG (st st':SortSt):Prop where
 kind:kindOf st'=kindOf st
 arr:arrOf st'=arrOf st
 pend:pendingOf st'=pendingOf st
 fail:failedOf st'=failedOf st
theorem SG.refl (st:SortSt):SG st st:=⟨rfl,rfl,rfl,rfl⟩
theorem SG.trans(h:SG a b)(g:SG b c):SG a c:=⟨g.kind.trans h.kind,g.arr.trans h.arr,g.pend.trans h.pend,g.fail.trans h.fail⟩
structure MI (r:Keyed->Keyed->Bool) (A B X:List Keyed) (i j:Nat):Prop where
 ha:ma r (X++A.drop i)
 hb:ma r (X++B.drop j)
 pm:(X++(A.drop i++B.drop j)).Perm (A++B)
theorem ph(h1:ma r (X++Z))(a:ma r (X++Y))(h:∀z∈Z,∀y∈Y,r y z=false):ma r (X++Z++Y):=by
 rw[ma,L6] at a|-
 refine⟨h1,a.2.1,fun x hx y b=>?_⟩
 rcases Jz.mp hx with hx|hx
 ·exact a.2.2 x hx y b
 ·exact h x hx y b
theorem MI.takeA {A B X:List Keyed}{i j:Nat}(h:MI r A B X i j)(k:Nat)(le:∀x∈(A.drop i).take k,∀y∈B.drop j,r y x=false):MI r A B (X++(A.drop i).take k) (i+k) j:=by
 have e:A.drop i=(A.drop i).take k++A.drop (i+k):=by rw[<-List.drop_drop];exact(Kw k _).symm
 have ha:=h.ha
 rw[e,<-JJ] at ha
 refine⟨ha,ph (List.Pairwise.sublist (List.sublist_append_left _ _) ha) h.hb le,?_⟩
 have a:=h.pm
 rw[e] at a
 refine List.Perm.trans ?_ a
 rw[JJ,JJ]
theorem MI.takeB {A B X:List Keyed}{i j:Nat}(h:MI r A B X i j)(k:Nat)(le:∀x∈(B.drop j).take k,∀y∈A.drop i,r y x=false):MI r A B (X++(B.drop j).take k) i (j+k):=by
 have e:B.drop j=(B.drop j).take k++B.drop (j+k):=by rw[<-List.drop_drop];exact(Kw k _).symm
 have a:=h.hb
 rw[e,<-JJ] at a
 refine⟨ph (List.Pairwise.sublist (List.sublist_append_left _ _) a) h.ha le,a,?_⟩
 have b:=h.pm
 rw[e] at b
 refine List.Perm.trans ?_ b
 rw[JJ]
 refine List.Perm.append_left _ ?_
 rw[<-JJ,<-JJ]
 exact List.Perm.append_right _ LI
noncomputable def e7 (r:Keyed->Keyed->Bool) (A B l:List Keyed):Prop:=ma r l/\l.Perm (A++B)
theorem ke (a:Array Keyed)(i:Nat):(a.extract i).toList=a.toList.drop i:=by
 simp
 exact Ld (by simp)
theorem Bi (a:Array Keyed)(i k:Nat):(a.extract i (i+k)).toList=(a.toList.drop i).take k:=by
 rw[LJ,L7]
 congr 1
 lia
theorem MI.done {a b out:Array Keyed}{i j:Nat}(h:MI r a.toList b.toList out.toList i j)(e:i=a.size\/j=b.size):e7 r a.toList b.toList (out++a.extract i++b.extract j).toList:=by
 rw[Kk,Kk,ke,ke]
 refine⟨?_,by rw[JJ];exact h.pm⟩
 rcases e with e|e
 ·rw[show a.toList.drop i=[] by rw[e];simp,JK];exact h.hb
 ·rw[show b.toList.drop j=[] by rw[e];simp,JK];exact h.ha
theorem MI.last {a b out:Array Keyed}{i j:Nat}(h:MI r a.toList b.toList out.toList i j)(d:∀x∈a.toList.drop i,∀y∈b.toList,r x y=false):e7 r a.toList b.toList (out++b.extract j++a.extract i).toList:=by
 rw[Kk,Kk,ke,ke]
 refine⟨ph h.hb h.ha fun z c y e=>d y e z (List.mem_of_mem_drop c),?_⟩
 refine List.Perm.trans ?_ h.pm
 rw[JJ]
 exact List.Perm.append_left _ LI
theorem MI.len {A B X:List Keyed}{i j:Nat}(h:MI r A B X i j)(a:i<=A.length)(b:j<=B.length):X.length=i+j:=by
 have:=h.pm.length_eq
 simp only[Js,Ka] at this
 omega
theorem gP {l:List Keyed}{i:Nat}{x:Keyed}(h:l[i]?=some x):(l.drop i).take 1=[x]:=by
 have hi:=(JE.mp h).1
 rw[LK hi]
 simp[(JE.mp h).2]
theorem fo(a:ma r l)(O:SOrd r){i:Nat}{x:Keyed}(h:l[i]?=some x):∀y∈l.drop i,r y x=false:=by
 have hi:=(JE.mp h).1
 have e:l.drop i=x::l.drop (i+1):=by rw[LK hi,(JE.mp h).2]
 have hd:ma r (l.drop i):=List.Pairwise.sublist (List.drop_sublist _ _) a
 intro y hy
 rw[e] at hd hy
 rcases Jo.mp hy with rfl|hy
 ·cases q:r y y with
  |false=>rfl
  |true=>exact(O.asym q).symm▸q▸rfl
 ·exact(L8.mp hd).1 y hy
theorem dO {a:Array Keyed}{i:Nat}(h:i<a.size):∃x,a[i]?=some x/\a.toList[i]?=some x:=⟨a[i],getElem?_pos a i h,by simp⟩
abbrev S7:=Option (Array Keyed)×Array Keyed×Nat×Nat×Nat×Nat×Nat
noncomputable def CV (a b:Array Keyed) (i e c d:Nat) (out:Array Keyed) (j:Nat):StateT SortSt Sem (ForInStep S7):=do
 let x<-elem' a i
 if (i+1+1==a.size)=true then pure (.done (some (out.push x++b.extract j++a.extract (i+1)),out.push x,i+1,j,e,c,d))
 else if (decide (c<7)&&decide (d<7))=true then pure (.done (none,out.push x,i+1,j,e,c,d)) else pure (.yield (none,out.push x,i+1,j,e,c,d))
noncomputable def BQ (a b:Array Keyed) (j d c e:Nat) (out:Array Keyed) (i:Nat):StateT SortSt Sem (ForInStep S7):=do
 let y<-elem' b j
 if (j+1==b.size)=true then pure (.done (some (out.push y++a.extract i++b.extract (j+1)),out.push y,i,j+1,d,c,e))
 else do
  let x<-elem' a i
  let g<-cQ true x b (j+1) (b.size - (j+1)) 0
  match g with
  |some k=>
   if k>0 then
    if (j+1+k==b.size)=true then pure (.done (some (out.push y++b.extract (j+1) (j+1+k)++a.extract i++b.extract (j+1+k)),out.push y++b.extract (j+1) (j+1+k),i,j+1+k,d,c,k))
    else CV a b i d c k (out.push y++b.extract (j+1) (j+1+k)) (j+1+k)
   else CV a b i d c k (out.push y) (j+1)
  |_=>pure (.done (some (out.push y++a.extract i++b.extract (j+1)),out.push y,i,j+1,d,c,e))
structure G4 (S:Keyed->Prop) (r:Keyed->Keyed->Bool) (a b:Array Keyed):Prop where
 Sa:∀x∈a.toList,S x
 Sb:∀x∈b.toList,S x
 sa:ma r a.toList
 sb:ma r b.toList
theorem gj{st:SortSt}{Q:Unit->SortSt->Prop}(q:∀a,SG st a->Q () a):wpS M A E s (cO g) Q st:=by
 show wpS M A E s (modify fun st=>SortSt.mk' (kindOf st) (arrOf st) (pendingOf st) g (failedOf st)) Q st
 exact Kx (q _ ⟨rfl,rfl,rfl,rfl⟩)
theorem nN (K:Ask M A E s κ S r)(O:SOrd r){a:Array Keyed}{d:Keyed}{st:SortSt}{i n h:Nat}{Q:Option Nat->SortSt->Prop}(D:kindOf st=κ)(G:S d)(w:∀x∈a.toList,S x)(H:ma r a.toList)(I:i+n<=a.size)(v:h<n)
  (q:∀k,k<=n->(∀x∈(a.toList.drop i).take k,r d x=false)->(∀m,i+k<=m->m<i+n->∀x,a.toList[m]?=some x->r d x=true)->Q (some k) st):wpS M A E s (cQ false d a i n h) Q st:=by
 have b:∀m,m<n->∃x,a[i+m]?=some x/\a.toList[i+m]?=some x:=fun m f=>dO (by lia)
 refine gv K D G v (fun m=>match a.toList[i+m]? with|some x=>!(r d x)|none=>false) (fun m f=>?_) (fun m j h1 h2 g=>?_) (fun k h1 h2 g=>q k h1 (fun x l=>?_) fun m C F x l=>?_)
 ·obtain⟨x,y,u⟩:=b m f
  refine⟨x,y,w x (Jy u),?_⟩
  rw[u]
  rfl
 ·obtain⟨x,_,e⟩:=b m (by lia)
  obtain⟨o,_,p⟩:=b j h2
  rw[p] at g
  rw[e]
  dsimp only at g|-
  have z:r d o=false:=by simpa using g
  have B:r o x=false:=by
   refine fo H O e o ?_
   exact JZ.mpr ⟨j - m,by rw[J2,show i+m+(j - m)=i+j by lia];exact p⟩
  rw[O.ntr B z]
  rfl
 ·obtain⟨m,f⟩:=JZ.mp l
  have c:m<k:=by have:=(JE.mp f).1;rw[JB] at this;lia
  rw[Kr c,J2] at f
  have:=h2 m c
  rw[f] at this
  simpa using this
 ·have:=g (m - i) (by lia) (by lia)
  rw[show i+(m - i)=m by lia,l] at this
  simpa using this
theorem nO (K:Ask M A E s κ S r)(O:SOrd r){a:Array Keyed}{d:Keyed}{st:SortSt}{i n h:Nat}{Q:Option Nat->SortSt->Prop}(w:kindOf st=κ)(F:S d)(z:∀x∈a.toList,S x)(G:ma r a.toList)(H:i+n<=a.size)(y:h<n)
  (q:∀k,k<=n->(∀x∈(a.toList.drop i).take k,r x d=true)->(∀m,i+k<=m->m<i+n->∀x,a.toList[m]?=some x->r x d=false)->Q (some k) st):wpS M A E s (cQ true d a i n h) Q st:=by
 have b:∀m,m<n->∃x,a[i+m]?=some x/\a.toList[i+m]?=some x:=fun m g=>dO (by omega)
 refine gv K w F y (fun m=>match a.toList[i+m]? with|some x=>r x d|none=>false) (fun m g=>?_) (fun m j h1 h2 f=>?_) (fun k h1 h2 f=>q k h1 (fun x l=>?_) fun m v C x l=>?_)
 ·obtain⟨x,B,p⟩:=b m g
  refine⟨x,B,z x (Jy p),?_⟩
  rw[p]
  rfl
 ·obtain⟨x,_,e⟩:=b m (by omega)
  obtain⟨u,_,o⟩:=b j h2
  rw[o] at f
  rw[e]
  dsimp only at f|-
  have D:r u x=false:=by
   refine fo G O e u ?_
   exact JZ.mpr ⟨j - m,by rw[J2,show i+m+(j - m)=i+j by omega];exact o⟩
  cases qq:r x d with
  |true=>rfl
  |false=>rw[O.ntr qq D] at f;cases f
 ·obtain⟨m,g⟩:=JZ.mp l
  have c:m<k:=by have:=(JE.mp g).1;rw[JB] at this;omega
  rw[Kr c,J2] at g
  have:=h2 m c
  rw[g] at this
  exact this
 ·have:=f (m - i) (by omega) (by omega)
  rw[show i+(m - i)=m by omega,l] at this
  exact this
noncomputable def Lo (r:Keyed->Keyed->Bool) (a b:Array Keyed) (d:Nat) (c:S7):Prop:=∃out i j mg e f,c=(none,out,i,j,mg,e,f)/\MI r a.toList b.toList out.toList i j/\i+1<a.size/\j<b.size/\d<=out.size
noncomputable def Fn (r:Keyed->Keyed->Bool) (a b:Array Keyed) (c:S7):Prop:=∃res rest,c=(some res,rest)/\e7 r a.toList b.toList res.toList
noncomputable def HW (r:Keyed->Keyed->Bool) (a b:Array Keyed) (d:Nat):ForInStep S7->Prop
 | .done c=>Fn r a b c\/Lo r a b d c
 | .yield c=>Lo r a b d c
theorem MI.pushA {a b out:Array Keyed}{i j:Nat}{x:Keyed}(h:MI r a.toList b.toList out.toList i j)(hx:a.toList[i]?=some x)(le:∀y∈b.toList.drop j,r y x=false):MI r a.toList b.toList (out.push x).toList (i+1) j:=by
 have:=h.takeA 1 (by rw[gP hx];intro z c;rw[Jv.mp c];exact le)
 rw[gP hx] at this
 rw[KH];exact this
theorem MI.pushB {a b out:Array Keyed}{i j:Nat}{x:Keyed}(h:MI r a.toList b.toList out.toList i j)(hx:b.toList[j]?=some x)(le:∀y∈a.toList.drop i,r y x=false):MI r a.toList b.toList (out.push x).toList i (j+1):=by
 have:=h.takeB 1 (by rw[gP hx];intro z c;rw[Jv.mp c];exact le)
 rw[gP hx] at this
 rw[KH];exact this
theorem qi{st:SortSt}{Q:ForInStep S7->SortSt->Prop}(h:∀x∈a.toList.drop (a.size - 1),∀y∈b.toList,r x y=false)(l:MI r a.toList b.toList out.toList i j)(m:i+1<a.size)(g:j<b.size)
  (hx:a[i]?=some x/\a.toList[i]?=some x) (le:∀y∈b.toList.drop j,r y x=false) (n:o0<=out.size) (q:∀res,HW r a b o0 res->Q res st):wpS M A E s (CV a b i mg d f out j) Q st:=by
 unfold CV
 refine Jh (a8 hx.1 ?_)
 have c:=l.pushA hx.2 le
 by_cases e:i+1+1=a.size
 ·rw[if_pos (by simpa using e)]
  exact Ji (q _ (.inl ⟨_,_,rfl,c.last (by rw[show i+1=a.size - 1 by lia];exact h)⟩))
 ·rw[if_neg (by simpa using e)]
  have lo:∀mg d f,Lo r a b o0 (none,out.push x,i+1,j,mg,d,f):=fun mg d f=>⟨_,_,_,_,_,_,rfl,c,by lia,g,by rw[J3];lia⟩
  split
  ·exact Ji (q _ (.inr (lo _ _ _)))
  ·exact Ji (q _ (lo _ _ _))
theorem rA (K:Ask M A E s κ S r)(O:SOrd r){a b out:Array Keyed}{i j C G v o:Nat}{st:SortSt}{y:Keyed}{Q:ForInStep S7->SortSt->Prop}(T:G4 S r a b)(B:kindOf st=κ)(u:∀x∈a.toList.drop (a.size - 1),∀y∈b.toList,r x y=false)(F:MI r a.toList b.toList out.toList i j)(n:i+1<a.size)(N:j<b.size)
  (p:b[j]?=some y/\b.toList[j]?=some y) (le:∀z∈a.toList.drop i,r z y=false) (J:o<=out.size) (q:∀res,HW r a b o res->Q res st):wpS M A E s (BQ a b j C G v out i) Q st:=by
 unfold BQ
 refine Jh (a8 p.1 ?_)
 have c:=F.pushB p.2 le
 by_cases e:j+1=b.size
 ·rw[if_pos (by simpa using e)]
  exact Ji (q _ (.inl ⟨_,_,rfl,c.done (.inr e)⟩))
 rw[if_neg (by simpa using e)]
 obtain⟨x,g⟩:=dO (a:=a) (i:=i) (by lia)
 refine Jh (a8 g.1 ?_)
 refine Jh (nO K O B (T.Sa x (Jy g.2)) T.Sb T.sb (by lia) (by lia) fun k H h1 h2=>?_)
 dsimp only
 have f:=fo T.sa O g.2
 have rest:∀y∈b.toList.drop (j+1+k),r y x=false:=fun z h=>by
  obtain⟨m,l⟩:=JZ.mp h
  rw[J2] at l
  have:=(JE.mp l).1
  rw[JD] at this
  exact h2 _ (by lia) (by lia) z l
 by_cases k0:k>0
 ·rw[if_pos k0]
  have d:=c.takeB k fun z h w D=>O.ntr (O.asym (h1 z h)) (f w D)
  have I:(out.push y++b.extract (j+1) (j+1+k)).toList=(out.push y).toList++(b.toList.drop (j+1)).take k:=by rw[Kk,Bi]
  rw[<-I] at d
  by_cases e3:j+1+k=b.size
  ·rw[if_pos (by simpa using e3)]
   exact Ji (q _ (.inl ⟨_,_,rfl,d.done (.inr e3)⟩))
  ·rw[if_neg (by simpa using e3)]
   exact qi u d n (by lia) g rest (by rw[L9,J3];lia) q
 ·rw[if_neg k0]
  have:k=0:=by lia
  subst this
  exact qi u c n (by lia) g rest (by rw[J3];lia) q
theorem pV (K:Ask M A E s κ S r)(O:SOrd r){a b:Array Keyed}{st:SortSt}{Q:Array Keyed->SortSt->Prop}(T:G4 S r a b)(hk:kindOf st=κ)(na:0<a.size)(nb:0<b.size)(hf:∀y,b.toList[0]?=some y->∀x∈a.toList,r x y=false)
  (hl:∀x∈a.toList.drop (a.size - 1),∀y∈b.toList,r x y=false) (q:∀l H,SG st H->e7 r a.toList b.toList l.toList->Q l H):wpS M A E s (lS a b) Q st:=by
 rw[rX]
 refine Jh (wpS_lift (Kj ⟨rfl,?_⟩))
 obtain⟨y0,h0⟩:=dO (a:=b) nb
 refine Jh (a8 h0.1 ?_)
 dsimp only
 have M0:MI r a.toList b.toList (#[]:Array Keyed).toList 0 0:=⟨by simpa using T.sa,by simpa using T.sb,by simp⟩
 have M1:MI r a.toList b.toList #[y0].toList 0 1:=M0.pushB h0.2 (by simpa using hf y0 h0.2)
 by_cases e1:1=b.size
 ·rw[if_pos (by simpa using e1)]
  exact Ji (q _ _ (SG.refl _) (M1.done (.inr e1)))
 rw[if_neg (by simpa using e1)]
 by_cases e2:0+1=a.size
 ·rw[if_pos (by simpa using e2)]
  exact Ji (q _ _ (SG.refl _) (M1.last (by rw[show 0=a.size - 1 by lia];exact hl)))
 rw[if_neg (by simpa using e2)]
 refine Jh (Kc ?_)
 refine Jh (JR (JT
  (I:=fun x c H=>SG st H/\∃out i j mg,c=(none,out,i,j,mg)/\MI r a.toList b.toList out.toList i j/\i+1<a.size/\j<b.size/\x+1<=out.size)
  (Q:=fun c H=>SG st H/\∃res rest,c=(some res,rest)/\e7 r a.toList b.toList res.toList) ?step ?fin ⟨SG.refl _,_,_,_,_,rfl,M1,by lia,by lia,by simp⟩) ?post)
 case fin=>
  rintro c H ⟨_,out,i,j,mg,rfl,N,hi,J,X⟩
  exfalso
  have:=N.len (by rw[JD];lia) (by rw[JD];lia)
  rw[JD] at this
  lia
 case post=>
  rintro c H ⟨sg,res,rest,rfl,g⟩
  exact Ji (q _ _ sg g)
 case step=>
  rintro x c C _ hx ⟨sg,out,i,j,mg,rfl,N,hi,J,X⟩
  dsimp only
  have D:kindOf C=κ:=sg.kind.trans hk
  refine Jh (JR (JT
   (I:=fun x' c H=>H=C/\∃o i j U P,c=(none,o,i,j,U,P)/\MI r a.toList b.toList o.toList i j/\i+1<a.size/\j<b.size/\out.size+x'<=o.size)
   (Q:=fun c H=>H=C/\((∃res rest,c=(some res,rest)/\e7 r a.toList b.toList res.toList)\/∃o i j U P,c=(none,o,i,j,U,P)/\MI r a.toList b.toList o.toList i j/\i+1<a.size/\j<b.size/\out.size+1<=o.size)) ?s1 ?f1 ⟨rfl,out,i,j,0,0,rfl,N,hi,J,by lia⟩) ?p1)
  case f1=>
   rintro c H ⟨rfl,o,i,j,U,P,rfl,N,hi,J,X⟩
   exact⟨rfl,.inr ⟨o,i,j,U,P,rfl,N,hi,J,by lia⟩⟩
  case s1=>
   rintro x' c H _ G ⟨rfl,o,i,j,U,P,rfl,N,hi,J,X⟩
   dsimp only
   obtain⟨y,R⟩:=dO J
   obtain⟨z,W⟩:=dO (a:=a) (i:=i) (by lia)
   refine Jh (a8 R.1 (Jh (a8 W.1 (Jh (K D (T.Sb y (Jy R.2)) (T.Sa z (Jy W.2)) ?_)))))
   have F:=fo T.sa O W.2
   have v:=fo T.sb O R.2
   dsimp only
   cases hw:r y z with
   |true=>
    rw[if_pos rfl]
    refine Jh (a8 R.1 ?_)
    have d:=N.pushB R.2 fun w Y=>O.ntr (O.asym hw) (F w Y)
    by_cases e:j+1=b.size
    ·rw[if_pos (by simpa using e)]
     exact Ji ⟨rfl,.inl ⟨_,_,rfl,d.done (.inr e)⟩⟩
    ·rw[if_neg (by simpa using e)]
     split
     ·exact Ji ⟨rfl,.inr ⟨_,_,_,_,_,rfl,d,hi,by lia,by rw[J3];lia⟩⟩
     ·exact Ji ⟨rfl,_,_,_,_,_,rfl,d,hi,by lia,by rw[J3];lia⟩
   |false=>
    rw[if_neg (by simp)]
    refine Jh (a8 W.1 ?_)
    have d:=N.pushA W.2 fun w Y=>O.ntr hw (v w Y)
    by_cases e:i+1+1=a.size
    ·rw[if_pos (by simpa using e)]
     exact Ji ⟨rfl,.inl ⟨_,_,rfl,d.last (by rw[show i+1=a.size - 1 by lia];exact hl)⟩⟩
    ·rw[if_neg (by simpa using e)]
     split
     ·exact Ji ⟨rfl,.inr ⟨_,_,_,_,_,rfl,d,by lia,J,by rw[J3];lia⟩⟩
     ·exact Ji ⟨rfl,_,_,_,_,_,rfl,d,by lia,J,by rw[J3];lia⟩
  case p1=>
   rintro c H ⟨rfl,⟨res,rest,rfl,g⟩|⟨o,i,j,U,P,rfl,N,hi,J,X⟩⟩
   ·exact Ji ⟨sg,_,_,rfl,g⟩
   ·dsimp only
    refine Jh (wpS_lift (Kj ⟨rfl,?_⟩))
    refine Jh (JR (JT
     (I:=fun x' c f=>SG st f/\Lo r a b (out.size+1) c)
     (Q:=fun c f=>SG st f/\(Fn r a b c\/Lo r a b (out.size+1) c)) ?s2 ?f2 ⟨sg,_,_,_,_,_,_,rfl,N,hi,J,by lia⟩) ?p2)
    case f2=>
     rintro c f ⟨h1,h2⟩
     exact⟨h1,.inr h2⟩
    case p2=>
     rintro c f ⟨p,⟨res,rest,rfl,g⟩|⟨o,i,j,mg,U,P,rfl,N,hi,J,X⟩⟩
     ·exact Ji ⟨p,_,_,rfl,g⟩
     ·exact Jh (gj fun Z ab=>Ji ⟨p.trans ab,_,_,_,_,rfl,N,hi,J,by show x+1+1<=o.size;lia⟩)
    case s2=>
     rintro x' c st2 _ G ⟨p,o,i,j,mg,U,P,rfl,N,hi,J,X⟩
     dsimp only
     have B:∀mg:Nat,wpS M A E s (do
       cO mg
       let y<-elem' b j
       let g<-cQ false y a i (a.size - i) 0
       match g with
       |some k=>
        if k>0 then
         if (i+k+1==a.size)=true then pure (ForInStep.done ((some (o++a.extract i (i+k)++b.extract j++a.extract (i+k)),o++a.extract i (i+k),i+k,j,mg,k,P):S7))
         else if (i+k==a.size)=true then pure (ForInStep.done ((some (o++a.extract i (i+k)++a.extract (i+k)++b.extract j),o++a.extract i (i+k),i+k,j,mg,k,P):S7))
         else BQ a b j mg k P (o++a.extract i (i+k)) (i+k)
        else BQ a b j mg k P o i
       |_=>pure (ForInStep.done ((some (o++a.extract i++b.extract j),o,i,j,mg,U,P):S7)))
       (fun res H=>match res with| .done c=>SG st H/\(Fn r a b c\/Lo r a b (out.size+1) c)| .yield c=>SG st H/\Lo r a b (out.size+1) c) st2:=fun mg=>by
      refine Jh (gj fun Z ab=>?_)
      have n:=p.trans ab
      obtain⟨y,R⟩:=dO J
      refine Jh (a8 R.1 ?_)
      have fin:∀res,HW r a b (out.size+1) res->(match res with| .done c=>SG st Z/\(Fn r a b c\/Lo r a b (out.size+1) c)| .yield c=>SG st Z/\Lo r a b (out.size+1) c):=fun res h=>by
       cases res with
       |done c=>exact⟨n,h⟩
       |yield c=>exact⟨n,h⟩
      refine Jh (nN K O (n.kind.trans hk) (T.Sb y (Jy R.2)) T.Sa T.sa (by lia) (by lia) fun k D h1 h2=>?_)
      dsimp only
      have v:=fo T.sb O R.2
      have rest:∀z∈a.toList.drop (i+k),r z y=false:=fun z W=>by
       obtain⟨m,hm⟩:=JZ.mp W
       rw[J2] at hm
       have:=(JE.mp hm).1
       rw[JD] at this
       exact O.asym (h2 _ (by lia) (by lia) z hm)
      by_cases k0:k>0
      ·rw[if_pos k0]
       have u:=N.takeA k fun z W w hw=>O.ntr (h1 z W) (v w hw)
       have e2:(o++a.extract i (i+k)).toList=o.toList++(a.toList.drop i).take k:=by rw[Kk,Bi]
       rw[<-e2] at u
       by_cases e3:i+k+1=a.size
       ·rw[if_pos (by simpa using e3)]
        exact Ji (fin (.done _) (Or.inl ⟨_,_,rfl,u.last (by rw[show i+k=a.size - 1 by lia];exact hl)⟩))
       ·rw[if_neg (by simpa using e3)]
        by_cases e4:i+k=a.size
        ·rw[if_pos (by simpa using e4)]
         exact Ji (fin (.done _) (Or.inl ⟨_,_,rfl,u.done (.inl e4)⟩))
        ·rw[if_neg (by simpa using e4)]
         exact rA K O T (n.kind.trans hk) hl u (by lia) J R rest (by rw[L9];lia) fin
      ·rw[if_neg k0]
       have:k=0:=by lia
       subst this
       exact rA K O T (n.kind.trans hk) hl N hi J R rest X fin
     by_cases hmg:mg>1
     ·rw[if_pos hmg]
      refine JR (B (mg - 1)) fun res H h=>?_
      cases res<;>exact h
     ·rw[if_neg hmg]
      refine JR (B mg) fun res H h=>?_
      cases res<;>exact h
noncomputable def kL:Array Keyed->Array Keyed->StateT SortSt Sem (Array Keyed):=sortPriv%PySem.Builtin.mergeHi
theorem qJ (a b:Array Keyed):kL a b=(do
 rule "list.sort.merge-hi"
 let d:=a.size+b.size
 let done (out:Array Keyed) (na nb:Nat):=a.extract 0 na++b.extract 0 nb++out.reverse
 let c (out:Array Keyed) (na nb:Nat):=b.extract 0 nb++a.extract 0 na++out.reverse
 let mut na:=a.size - 1
 let mut nb:=b.size
 let mut out:Array Keyed:= #[<-elem' a na]
 if na==0 then return done out na nb
 if nb==1 then return c out na nb
 let mut minGallop:=gallopOf (<-get)
 for _ in [0:d] do
  let mut acount:=0
  let mut bcount:=0
  for _ in [0:d] do
   let some aWins<-lt' (<-elem' b (nb - 1)) (<-elem' a (na - 1))|return done out na nb
   if aWins then
    na:=na - 1;out:=out.push (<-elem' a na);acount:=acount+1;bcount:=0
    if na==0 then return done out na nb
    if acount>=minGallop then break
   else
    nb:=nb - 1;out:=out.push (<-elem' b nb);bcount:=bcount+1;acount:=0
    if nb==1 then return c out na nb
    if bcount>=minGallop then break
  rule "list.sort.gallop"
  minGallop:=minGallop+1
  for _ in [0:d] do
   if minGallop>1 then minGallop:=minGallop - 1
   cO minGallop
   let some at_<-cQ false (<-elem' b (nb - 1)) a 0 na (na - 1)|return done out na nb
   let k:=na - at_
   acount:=k
   if k>0 then
    out:=out++(a.extract at_ na).reverse;na:=at_
    if na==0 then return done out na nb
   nb:=nb - 1;out:=out.push (<-elem' b nb)
   if nb==1 then return c out na nb
   let some at_<-cQ true (<-elem' a (na - 1)) b 0 nb (nb - 1)|return done out na nb
   let k:=nb - at_
   bcount:=k
   if k>0 then
    out:=out++(b.extract at_ nb).reverse;nb:=at_
    if nb==1 then return c out na nb
    if nb==0 then return done out na nb
   na:=na - 1;out:=out.push (<-elem' a na)
   if na==0 then return done out na nb
   if acount<7&&bcount<7 then break
  minGallop:=minGallop+1
  cO minGallop
 unsupported "internal:list.sort.merge-bound"):=rfl
structure MH (r:Keyed->Keyed->Bool) (A B R:List Keyed) (i j:Nat):Prop where
 ha:ma r (A.take i++R)
 hb:ma r (B.take j++R)
 pm:((A.take i++B.take j)++R).Perm (A++B)
theorem lF(h1:ma r (Z++Y))(a:ma r (X++Y))(h:∀x∈X,∀z∈Z,r z x=false):ma r (X++(Z++Y)):=by
 rw[ma,L6] at a|-
 refine⟨a.1,h1,fun x b y hy=>?_⟩
 rcases Jz.mp hy with hy|hy
 ·exact h x b y hy
 ·exact a.2.2 x b y hy
theorem fE (A:List Keyed){i k:Nat}(h:k<=i):A.take i=A.take k++(A.take i).drop k:=by
 have:=(Kw k (A.take i)).symm
 rwa [List.take_take,Le h] at this
theorem MH.takeA {A B R:List Keyed}{i j:Nat}(h:MH r A B R i j){k:Nat}(a:k<=i)(le:∀y∈B.take j,∀z∈(A.take i).drop k,r z y=false):MH r A B ((A.take i).drop k++R) k j:=by
 have ha:=h.ha
 rw[fE A a,JJ] at ha
 refine⟨ha,lF (List.Pairwise.sublist (List.sublist_append_right _ _) ha) h.hb le,?_⟩
 refine List.Perm.trans ?_ h.pm
 rw[fE A a]
 simp only[JJ]
 refine List.Perm.append_left _ ?_
 rw[<-JJ,<-JJ]
 refine List.Perm.append_right _ ?_
 rw[show(List.drop k (List.take k A++List.drop k (List.take i A)))=(A.take i).drop k by rw[<-fE A a]]
 exact LI
theorem MH.takeB {A B R:List Keyed}{i j:Nat}(h:MH r A B R i j){k:Nat}(b:k<=j)(le:∀x∈A.take i,∀z∈(B.take j).drop k,r z x=false):MH r A B ((B.take j).drop k++R) i k:=by
 have a:=h.hb
 rw[fE B b,JJ] at a
 refine⟨lF (List.Pairwise.sublist (List.sublist_append_right _ _) a) h.ha le,a,?_⟩
 refine List.Perm.trans ?_ h.pm
 have e:B.take j++R=B.take k++((B.take j).drop k++R):=by rw[<-JJ,<-fE B b]
 simp only[JJ]
 rw[e]
theorem j6 (a:Array Keyed){i:Nat}(h:i<=a.size):(a.extract 0 i).toList=a.toList.take i:=by
 rw[LJ,L7]
 simp
theorem MH.done {a b out:Array Keyed}{i j:Nat}(h:MH r a.toList b.toList out.toList.reverse i j)(c:i<=a.size)(d:j<=b.size)(e:i=0\/j=0):e7 r a.toList b.toList (a.extract 0 i++b.extract 0 j++out.reverse).toList:=by
 rw[Kk,Kk,j6 a c,j6 b d,Array.toList_reverse]
 refine⟨?_,h.pm⟩
 rcases e with e|e
 ·rw[e,LL,List.nil_append];exact h.hb
 ·rw[e,LL,JK];exact h.ha
theorem MH.first {a b out:Array Keyed}{i j:Nat}(h:MH r a.toList b.toList out.toList.reverse i j)(c:i<=a.size)(d:j<=b.size)(f:∀y∈b.toList.take j,∀x∈a.toList,r x y=false):e7 r a.toList b.toList (b.extract 0 j++a.extract 0 i++out.reverse).toList:=by
 rw[Kk,Kk,j6 a c,j6 b d,Array.toList_reverse,JJ]
 refine⟨lF h.ha h.hb fun y g x e=>f y g x (LM e),?_⟩
 refine List.Perm.trans ?_ h.pm
 rw[<-JJ]
 exact List.Perm.append_right _ LI
theorem MH.len {A B R:List Keyed}{i j:Nat}(h:MH r A B R i j)(a:i<=A.length)(b:j<=B.length):R.length+i+j=A.length+B.length:=by
 have:=h.pm.length_eq
 simp only[Js,JB] at this
 lia
theorem jh {l:List Keyed}{i:Nat}{x:Keyed}(a:0<i)(h:l[i - 1]?=some x):(l.take i).drop (i - 1)=[x]:=by
 have b:=(JE.mp h).1
 have e:(l.take i)[i - 1]?=some x:=by rw[Kr (by omega)];exact h
 have:=gP e
 rw[Ld (by rw[Ka,JB];omega)] at this
 exact this
theorem MH.pushA {a b out:Array Keyed}{i j:Nat}{x:Keyed}(h:MH r a.toList b.toList out.toList.reverse i j)(c:0<i)(hx:a.toList[i - 1]?=some x)(le:∀y∈b.toList.take j,r x y=false):MH r a.toList b.toList (out.push x).toList.reverse (i - 1) j:=by
 have:=h.takeA (k:=i - 1) (by omega) (by rw[jh c hx];intro y e z d;rw[Jv.mp d];exact le y e)
 rw[jh c hx] at this
 rw[KH,L4];exact this
theorem MH.pushB {a b out:Array Keyed}{i j:Nat}{x:Keyed}(h:MH r a.toList b.toList out.toList.reverse i j)(c:0<j)(hx:b.toList[j - 1]?=some x)(le:∀y∈a.toList.take i,r x y=false):MH r a.toList b.toList (out.push x).toList.reverse i (j - 1):=by
 have:=h.takeB (k:=j - 1) (by lia) (by rw[jh c hx];intro y e z d;rw[Jv.mp d];exact le y e)
 rw[jh c hx] at this
 rw[KH,L4];exact this
theorem y3 (out a:Array Keyed)(k i:Nat)(h:i<=a.size):(out++(a.extract k i).reverse).toList.reverse=(a.toList.take i).drop k++out.toList.reverse:=by
 rw[Kk,L4,Array.toList_reverse,List.reverse_reverse,LJ,L7,List.drop_take]
theorem jf(d:ma r l)(O:SOrd r){i:Nat}{x:Keyed}(e:0<i)(h:l[i - 1]?=some x):∀y∈l.take i,r x y=false:=fun y c=>by
 obtain⟨m,b⟩:=JZ.mp c
 have a:m<i:=by have:=(JE.mp b).1;rw[JB] at this;lia
 rw[Kr a] at b
 refine fo d O b x ?_
 exact JZ.mpr ⟨i - 1 - m,by rw[J2,show m+(i - 1 - m)=i - 1 by lia];exact h⟩
abbrev H7:=Option (Array Keyed)×Nat×Nat×Array Keyed×Nat×Nat×Nat
noncomputable def B5 (a b:Array Keyed) (i e c d:Nat) (out:Array Keyed) (j:Nat):StateT SortSt Sem (ForInStep H7):=do
 let x<-elem' a (i - 1)
 if (i - 1==0)=true then pure (.done (some (a.extract 0 (i - 1)++b.extract 0 j++(out.push x).reverse),i - 1,j,out.push x,e,c,d))
 else if (decide (c<7)&&decide (d<7))=true then pure (.done (none,i - 1,j,out.push x,e,c,d)) else pure (.yield (none,i - 1,j,out.push x,e,c,d))
noncomputable def CF (a b:Array Keyed) (j d c e:Nat) (out:Array Keyed) (i:Nat):StateT SortSt Sem (ForInStep H7):=do
 let y<-elem' b (j - 1)
 if (j - 1==1)=true then pure (.done (some (b.extract 0 (j - 1)++a.extract 0 i++(out.push y).reverse),i,j - 1,out.push y,d,c,e))
 else do
  let x<-elem' a (i - 1)
  let g<-cQ true x b 0 (j - 1) (j - 1 - 1)
  match g with
  |some k=>
   if j - 1 - k>0 then
    if (k==1)=true then pure (.done (some (b.extract 0 k++a.extract 0 i++(out.push y++(b.extract k (j - 1)).reverse).reverse),i,k,out.push y++(b.extract k (j - 1)).reverse,d,c,j - 1 - k))
    else if (k==0)=true then pure (.done (some (a.extract 0 i++b.extract 0 k++(out.push y++(b.extract k (j - 1)).reverse).reverse),i,k,out.push y++(b.extract k (j - 1)).reverse,d,c,j - 1 - k))
    else B5 a b i d c (j - 1 - k) (out.push y++(b.extract k (j - 1)).reverse) k
   else B5 a b i d c (j - 1 - k) (out.push y) (j - 1)
  |_=>pure (.done (some (a.extract 0 i++b.extract 0 (j - 1)++(out.push y).reverse),i,j - 1,out.push y,d,c,e))
noncomputable def Lh (r:Keyed->Keyed->Bool) (a b:Array Keyed) (d:Nat) (c:H7):Prop:=∃out i j mg e f,c=(none,i,j,out,mg,e,f)/\MH r a.toList b.toList out.toList.reverse i j/\0<i/\i<=a.size/\1<j/\j<=b.size/\d<=out.size
noncomputable def Fh (r:Keyed->Keyed->Bool) (a b:Array Keyed) (c:H7):Prop:=∃res rest,c=(some res,rest)/\e7 r a.toList b.toList res.toList
noncomputable def Ie (r:Keyed->Keyed->Bool) (a b:Array Keyed) (d:Nat):ForInStep H7->Prop
 | .done c=>Fh r a b c\/Lh r a b d c
 | .yield c=>Lh r a b d c
theorem qT{st:SortSt}{Q:ForInStep H7->SortSt->Prop}(m:MH r a.toList b.toList out.toList.reverse i j)(h:0<i)(n:i<=a.size)(l:1<j)(d:j<=b.size)
  (hx:a[i - 1]?=some x/\a.toList[i - 1]?=some x) (le:∀y∈b.toList.take j,r x y=false) (o:o0<=out.size) (q:∀res,Ie r a b o0 res->Q res st):wpS M A E s (B5 a b i mg f g out j) Q st:=by
 unfold B5
 refine Jh (a8 hx.1 ?_)
 have c:=m.pushA h hx.2 le
 by_cases e:i - 1=0
 ·rw[if_pos (by simpa using e)]
  exact Ji (q _ (.inl ⟨_,_,rfl,c.done (by lia) d (.inl e)⟩))
 ·rw[if_neg (by simpa using e)]
  have lo:∀mg f g,Lh r a b o0 (none,i - 1,j,out.push x,mg,f,g):=fun mg f g=>⟨_,_,_,_,_,_,rfl,c,by lia,by lia,l,d,by rw[J3];lia⟩
  split
  ·exact Ji (q _ (.inr (lo _ _ _)))
  ·exact Ji (q _ (lo _ _ _))
theorem qd (K:Ask M A E s κ S r)(O:SOrd r){a b out:Array Keyed}{i j P J G B:Nat}{st:SortSt}{y:Keyed}{Q:ForInStep H7->SortSt->Prop}(T:G4 S r a b)(I:kindOf st=κ)(v:∀y∈b.toList.take 1,∀x∈a.toList,r x y=false)(H:MH r a.toList b.toList out.toList.reverse i j)(u:0<i)(l:i<=a.size)(U:1<j)(F:j<=b.size)
  (C:b[j - 1]?=some y/\b.toList[j - 1]?=some y) (le:∀z∈a.toList.take i,r y z=false) (R:B<=out.size) (q:∀res,Ie r a b B res->Q res st):wpS M A E s (CF a b j P J G out i) Q st:=by
 unfold CF
 refine Jh (a8 C.1 ?_)
 have d:=H.pushB (by lia) C.2 le
 by_cases e:j - 1=1
 ·rw[if_pos (by simpa using e)]
  exact Ji (q _ (.inl ⟨_,_,rfl,d.first l (by lia) (by rw[e];exact v)⟩))
 rw[if_neg (by simpa using e)]
 obtain⟨x,n⟩:=dO (a:=a) (i:=i - 1) (by lia)
 refine Jh (a8 n.1 ?_)
 refine Jh (nO K O I (T.Sa x (Jy n.2)) T.Sb T.sb (by lia) (by lia) fun k N h1 h2=>?_)
 dsimp only
 have g:=jf T.sa O u n.2
 have f:∀z∈b.toList.take k,r x z=false:=fun z p=>O.asym (h1 z (by simpa using p))
 by_cases k0:j - 1 - k>0
 ·rw[if_pos k0]
  have c:=d.takeB (k:=k) (by lia) fun w D z p=>by
   obtain⟨m,o⟩:=JZ.mp p
   rw[J2] at o
   have h:=(JE.mp o).1
   rw[JB] at h
   rw[Kr (by lia)] at o
   exact O.ntr (g w D) (h2 _ (by lia) (by lia) z o)
  rw[<-y3 _ _ _ _ (by lia)] at c
  by_cases e3:k=1
  ·rw[if_pos (by simpa using e3)]
   exact Ji (q _ (.inl ⟨_,_,rfl,c.first l (by lia) (by rw[e3];exact v)⟩))
  ·rw[if_neg (by simpa using e3)]
   by_cases e4:k=0
   ·rw[if_pos (by simpa using e4)]
    exact Ji (q _ (.inl ⟨_,_,rfl,c.done l (by lia) (.inr e4)⟩))
   ·rw[if_neg (by simpa using e4)]
    exact qT c u l (by lia) (by lia) n f (by rw[L9,J3];lia) q
 ·rw[if_neg k0]
  have:k=j - 1:=by lia
  rw[this] at f
  exact qT d u l (by lia) (by lia) n f (by rw[J3];lia) q
theorem rD (K:Ask M A E s κ S r)(O:SOrd r){a b:Array Keyed}{st:SortSt}{Q:Array Keyed->SortSt->Prop}(T:G4 S r a b)(hk:kindOf st=κ)(na:0<a.size)(nb:0<b.size)(hf:∀y∈b.toList.take 1,∀x∈a.toList,r x y=false)
  (hl:∀x∈a.toList.drop (a.size - 1),∀y∈b.toList,r x y=false) (q:∀l U,SG st U->e7 r a.toList b.toList l.toList->Q l U):wpS M A E s (kL a b) Q st:=by
 rw[qJ]
 refine Jh (wpS_lift (Kj ⟨rfl,?_⟩))
 obtain⟨x0,h0⟩:=dO (a:=a) (i:=a.size - 1) (by lia)
 refine Jh (a8 h0.1 ?_)
 dsimp only
 have M0:MH r a.toList b.toList (#[]:Array Keyed).toList.reverse a.size b.size:=by
  have ea:a.toList.take a.size=a.toList:=Ld (by simp)
  have eb:b.toList.take b.size=b.toList:=Ld (by simp)
  exact⟨by rw[ea];simpa using T.sa,by rw[eb];simpa using T.sb,by rw[ea,eb];simp⟩
 have N:x0∈a.toList.drop (a.size - 1):=JZ.mpr ⟨0,by rw[J2];exact h0.2⟩
 have M1:MH r a.toList b.toList #[x0].toList.reverse (a.size - 1) b.size:=M0.pushA na h0.2 fun y Z=>hl x0 N y (LM Z)
 by_cases e1:a.size - 1=0
 ·rw[if_pos (by simpa using e1)]
  exact Ji (q _ _ (SG.refl _) (M1.done (by lia) (by lia) (.inl e1)))
 rw[if_neg (by simpa using e1)]
 by_cases e2:b.size=1
 ·rw[if_pos (by simpa using e2)]
  exact Ji (q _ _ (SG.refl _) (M1.first (by lia) (by lia) (by rw[e2];exact hf)))
 rw[if_neg (by simpa using e2)]
 refine Jh (Kc ?_)
 refine Jh (JR (JT
  (I:=fun x c U=>SG st U/\∃out i j mg,c=(none,i,j,out,mg)/\MH r a.toList b.toList out.toList.reverse i j/\0<i/\i<=a.size/\1<j/\j<=b.size/\x+1<=out.size)
  (Q:=fun c U=>SG st U/\∃res rest,c=(some res,rest)/\e7 r a.toList b.toList res.toList) ?step ?fin ⟨SG.refl _,_,_,_,_,rfl,M1,by lia,by lia,by lia,by lia,by simp⟩) ?post)
 case fin=>
  rintro c U ⟨_,out,i,j,mg,rfl,W,hi,f,X,d,ho⟩
  exfalso
  have:=W.len (by rw[JD];lia) (by rw[JD];lia)
  rw[List.length_reverse,JD,JD,JD] at this
  lia
 case post=>
  rintro c U ⟨sg,res,rest,rfl,g⟩
  exact Ji (q _ _ sg g)
 case step=>
  rintro x c D _ hx ⟨sg,out,i,j,mg,rfl,W,hi,f,X,d,ho⟩
  dsimp only
  have H:kindOf D=κ:=sg.kind.trans hk
  refine Jh (JR (JT
   (I:=fun x' c U=>U=D/\∃o i j ac Y,c=(none,i,j,o,ac,Y)/\MH r a.toList b.toList o.toList.reverse i j/\0<i/\i<=a.size/\1<j/\j<=b.size/\out.size+x'<=o.size)
   (Q:=fun c U=>U=D/\((∃res rest,c=(some res,rest)/\e7 r a.toList b.toList res.toList)\/∃o i j ac Y,c=(none,i,j,o,ac,Y)/\MH r a.toList b.toList o.toList.reverse i j/\0<i/\i<=a.size/\1<j/\j<=b.size/\out.size+1<=o.size)) ?s1 ?f1 ⟨rfl,out,i,j,0,0,rfl,W,hi,f,X,d,by lia⟩) ?p1)
  case f1=>
   rintro c U ⟨rfl,o,i,j,ac,Y,rfl,W,hi,f,X,d,ho⟩
   exact⟨rfl,.inr ⟨o,i,j,ac,Y,rfl,W,hi,f,X,d,by lia⟩⟩
  case s1=>
   rintro x' c U _ P ⟨rfl,o,i,j,ac,Y,rfl,W,hi,f,X,d,ho⟩
   dsimp only
   obtain⟨y,Z⟩:=dO (a:=b) (i:=j - 1) (by lia)
   obtain⟨z,hz⟩:=dO (a:=a) (i:=i - 1) (by lia)
   refine Jh (a8 Z.1 (Jh (a8 hz.1 (Jh (K H (T.Sb y (Jy Z.2)) (T.Sa z (Jy hz.2)) ?_)))))
   have R:=jf T.sa O hi hz.2
   have F:=jf T.sb O (by lia) Z.2
   dsimp only
   cases hw:r y z with
   |true=>
    rw[if_pos rfl]
    refine Jh (a8 hz.1 ?_)
    have n:=W.pushA hi hz.2 fun w an=>O.ntr (F w an) (O.asym hw)
    by_cases e:i - 1=0
    ·rw[if_pos (by simpa using e)]
     exact Ji ⟨rfl,.inl ⟨_,_,rfl,n.done (by lia) d (.inl e)⟩⟩
    ·rw[if_neg (by simpa using e)]
     split
     ·exact Ji ⟨rfl,.inr ⟨_,_,_,_,_,rfl,n,by lia,by lia,X,d,by rw[J3];lia⟩⟩
     ·exact Ji ⟨rfl,_,_,_,_,_,rfl,n,by lia,by lia,X,d,by rw[J3];lia⟩
   |false=>
    rw[if_neg (by simp)]
    refine Jh (a8 Z.1 ?_)
    have n:=W.pushB (by lia) Z.2 fun w an=>O.ntr (R w an) hw
    by_cases e:j - 1=1
    ·rw[if_pos (by simpa using e)]
     exact Ji ⟨rfl,.inl ⟨_,_,rfl,n.first f (by lia) (by rw[e];exact hf)⟩⟩
    ·rw[if_neg (by simpa using e)]
     split
     ·exact Ji ⟨rfl,.inr ⟨_,_,_,_,_,rfl,n,hi,f,by lia,by lia,by rw[J3];lia⟩⟩
     ·exact Ji ⟨rfl,_,_,_,_,_,rfl,n,hi,f,by lia,by lia,by rw[J3];lia⟩
  case p1=>
   rintro c U ⟨rfl,⟨res,rest,rfl,g⟩|⟨o,i,j,ac,Y,rfl,W,hi,f,X,d,ho⟩⟩
   ·exact Ji ⟨sg,_,_,rfl,g⟩
   ·dsimp only
    refine Jh (wpS_lift (Kj ⟨rfl,?_⟩))
    refine Jh (JR (JT
     (I:=fun x' c p=>SG st p/\Lh r a b (out.size+1) c)
     (Q:=fun c p=>SG st p/\(Fh r a b c\/Lh r a b (out.size+1) c)) ?s2 ?f2 ⟨sg,_,_,_,_,_,_,rfl,W,hi,f,X,d,by lia⟩) ?p2)
    case f2=>
     rintro c p ⟨h1,h2⟩
     exact⟨h1,.inr h2⟩
    case p2=>
     rintro c p ⟨v,⟨res,rest,rfl,g⟩|⟨o,i,j,mg,ac,Y,rfl,W,hi,f,X,d,ho⟩⟩
     ·exact Ji ⟨v,_,_,rfl,g⟩
     ·exact Jh (gj fun ap av=>Ji ⟨v.trans av,_,_,_,_,rfl,W,hi,f,X,d,by show x+1+1<=o.size;lia⟩)
    case s2=>
     rintro x' c st2 _ P ⟨v,o,i,j,mg,ac,Y,rfl,W,hi,f,X,d,ho⟩
     dsimp only
     have C:∀mg:Nat,wpS M A E s (do
       cO mg
       let y<-elem' b (j - 1)
       let g<-cQ false y a 0 i (i - 1)
       match g with
       |some k=>
        if i - k>0 then
         if (k==0)=true then pure (ForInStep.done ((some (a.extract 0 k++b.extract 0 j++(o++(a.extract k i).reverse).reverse),k,j,o++(a.extract k i).reverse,mg,i - k,Y):H7))
         else CF a b j mg (i - k) Y (o++(a.extract k i).reverse) k
        else CF a b j mg (i - k) Y o i
       |_=>pure (ForInStep.done ((some (a.extract 0 i++b.extract 0 j++o.reverse),i,j,o,mg,ac,Y):H7)))
       (fun res U=>match res with| .done c=>SG st U/\(Fh r a b c\/Lh r a b (out.size+1) c)| .yield c=>SG st U/\Lh r a b (out.size+1) c) st2:=fun mg=>by
      refine Jh (gj fun ap av=>?_)
      have u:=v.trans av
      obtain⟨y,Z⟩:=dO (a:=b) (i:=j - 1) (by lia)
      refine Jh (a8 Z.1 ?_)
      have fin:∀res,Ie r a b (out.size+1) res->(match res with| .done c=>SG st ap/\(Fh r a b c\/Lh r a b (out.size+1) c)| .yield c=>SG st ap/\Lh r a b (out.size+1) c):=fun res h=>by
       cases res with
       |done c=>exact⟨u,h⟩
       |yield c=>exact⟨u,h⟩
      refine Jh (nN K O (u.kind.trans hk) (T.Sb y (Jy Z.2)) T.Sa T.sa (by lia) (by lia) fun k H h1 h2=>?_)
      dsimp only
      have F:=jf T.sb O (by lia) Z.2
      have B:∀z∈a.toList.take k,r y z=false:=fun z hz=>h1 z (by simpa using hz)
      by_cases k0:i - k>0
      ·rw[if_pos k0]
       have G:=W.takeA (k:=k) (by lia) fun w hw z hz=>by
        obtain⟨m,hm⟩:=JZ.mp hz
        rw[J2] at hm
        have J:=(JE.mp hm).1
        rw[JB] at J
        rw[Kr (by lia)] at hm
        exact O.ntr (F w hw) (O.asym (h2 _ (by lia) (by lia) z hm))
       rw[<-y3 _ _ _ _ (by lia)] at G
       by_cases e3:k=0
       ·rw[if_pos (by simpa using e3)]
        exact Ji (fin (.done _) (Or.inl ⟨_,_,rfl,G.done (by lia) d (.inl e3)⟩))
       ·rw[if_neg (by simpa using e3)]
        exact qd K O T (u.kind.trans hk) hf G (by lia) (by lia) X d Z B (by rw[L9];lia) fin
      ·rw[if_neg k0]
       have:k=i:=by lia
       rw[this] at B
       exact qd K O T (u.kind.trans hk) hf W hi f X d Z B ho fin
     by_cases hmg:mg>1
     ·rw[if_pos hmg]
      refine JR (C (mg - 1)) fun res U h=>?_
      cases res<;>exact h
     ·rw[if_neg hmg]
      refine JR (C mg) fun res U h=>?_
      cases res<;>exact h
end
noncomputable def Sl (r:Keyed->Keyed->Bool) (a:Array Keyed) (c n:Nat):Prop:=∀m b x d,c<=m->m<=b->b<c+n->a[m]?=some x->a[b]?=some d->r d x=false
noncomputable def Dn (r:Keyed->Keyed->Bool) (a:Array Keyed) (c n:Nat):Prop:=∀m b x d,c<=m->m<=b->b<c+n->a[m]?=some x->a[b]?=some d->r x d=false
structure Kp (lo hi:Nat) (a a':Array Keyed):Prop where
 pm:a'.Perm a
 out:∀k,k<lo\/hi<=k->a'[k]?=a[k]?
theorem Kp.refl {c b:Nat}(a:Array Keyed):Kp c b a a:=⟨Array.Perm.refl _,fun _ _=>rfl⟩
theorem Kp.trans {e d:Nat}{a b c:Array Keyed}(h:Kp e d a b)(g:Kp e d b c):Kp e d a c:=⟨g.pm.trans h.pm,fun k f=>(g.out k f).trans (h.out k f)⟩
theorem Kp.size {d c:Nat}{a b:Array Keyed}(h:Kp d c a b):b.size=a.size:=h.pm.size_eq
theorem Kp.wide {f e c d:Nat}{a b:Array Keyed}(h:Kp f e a b)(h1:c<=f)(g:e<=d):Kp c d a b:=⟨h.pm,fun k i=>h.out k (by lia)⟩
structure SA (lo hi:Nat) (st st':SortSt):Prop where
 kind:kindOf st'=kindOf st
 pend:pendingOf st'=pendingOf st
 fail:failedOf st'=failedOf st
 arr:Kp lo hi (arrOf st) (arrOf st')
theorem SA.refl {b a:Nat}(st:SortSt):SA b a st st:=⟨rfl,rfl,rfl,Kp.refl _⟩
theorem SA.trans {e d:Nat}{a b c:SortSt}(h:SA e d a b)(g:SA e d b c):SA e d a c:=⟨g.kind.trans h.kind,g.pend.trans h.pend,g.fail.trans h.fail,h.arr.trans g.arr⟩
section
variable {M:Model} {A:Around} {E:Value->Shared->Prop} {s:Shared} {κ:SortKind} {S:Keyed->Prop} {r:Keyed->Keyed->Bool}
theorem rr (O:SOrd r)(x:Keyed):r x x=false:=by
 cases q:r x x with
 |false=>rfl
 |true=>rw[O.asym q] at q;cases q
noncomputable def In (S:Keyed->Prop) (a:Array Keyed):Prop:=∀(k:Nat) (x:Keyed),a[k]?=some x->S x
theorem In.kp {a b:Array Keyed}{g c:Nat}(h:In S a)(k:Kp g c a b):In S b:=fun i x d=>by
 have c:=(L3.mp d).1
 have f:x∈b:=Array.mem_of_getElem? d
 have:=(k.pm.mem_iff).mp f
 obtain⟨j,e⟩:=Array.getElem?_of_mem this
 exact h j x e
theorem iN (K:Ask M A E s κ S r){st:SortSt}{i j:Nat}{x y:Keyed}{Q:Option Bool->SortSt->Prop}(c:kindOf st=κ)(a:In S (arrOf st))(hx:(arrOf st)[i]?=some x)(b:(arrOf st)[j]?=some y)(q:Q (some (r x y)) st):wpS M A E s (ltAt' i j) Q st:=by
 rw[ltAt'_eq]
 refine Jh (Kc (Jh (a8 hx (Jh (a8 b ?_)))))
 exact K c (a i x hx) (a j y b) q
theorem eh {a:Array Keyed}{i:Nat}(h:i<a.size):∃x,a[i]?=some x:=⟨a[i],getElem?_pos a i h⟩
theorem j9{st:SortSt}{Q:Unit->SortSt->Prop}(b:j<=(arrOf st).size)(q:∀a,SA i j st a->(∀k,(arrOf a)[k]?=if i<=k/\k<j then (arrOf st)[i+j - 1 - k]? else (arrOf st)[k]?)->Q () a):wpS M A E s (reverseSlice' i j) Q st:=by
 rw[reverseSlice'_eq]
 refine Kx (q _ ⟨rfl,rfl,rfl,mirror_perm _ _ _ _,fun k c=>?_⟩ fun k=>getElem?_mirror_all b k)
 show(mirror (arrOf st) i j ((j - i)/2))[k]?=_
 rw[getElem?_mirror_all b,if_neg (by lia)]
noncomputable def BP (c a b:Nat):StateT SortSt Sem AscSt:=
 forIn [a:b] ((none,a):AscSt) fun _ __s=>do
  let __x<-ltAt' (c+__s.snd) (c+__s.snd - 1)
  match __x with
  |some smaller=>if smaller=true then pure (ForInStep.done (none,__s.snd)) else pure (ForInStep.yield (none,__s.snd+1))
  |_=>pure (ForInStep.done (some none,__s.snd))
theorem rB (K:Ask M A E s κ S r)(O:SOrd r){st:SortSt}{g a f:Nat}{Q:AscSt->SortSt->Prop}(C:kindOf st=κ)(F:In S (arrOf st))(J:g+f<=(arrOf st).size)(G:1<=a)(u:a<=f)(D:Sl r (arrOf st) g a)
  (q:∀n,a<=n->n<=f->Sl r (arrOf st) g n->(n<f->∀x y,(arrOf st)[g+n]?=some x->(arrOf st)[g+n - 1]?=some y->r x y=true)->Q (none,n) st):wpS M A E s (BP g a f) Q st:=by
 unfold BP
 refine JT (I:=fun x c d=>d=st/\c=(none,x)/\Sl r (arrOf st) g x) ?_ ?_ ⟨rfl,rfl,D⟩
 ·rintro n c d h1 h2 ⟨rfl,rfl,b⟩
  dsimp only
  obtain⟨x,o⟩:=eh (a:=arrOf d) (i:=g+n) (by lia)
  obtain⟨y,v⟩:=eh (a:=arrOf d) (i:=g+n - 1) (by lia)
  refine Jh (iN K C F o v ?_)
  dsimp only
  cases hw:r x y with
  |true=>
   rw[if_pos rfl]
   exact Ji (q n h1 (by lia) b fun _ N H j l=>by rw[o] at j;rw[v] at l;cases j;cases l;exact hw)
  |false=>
   rw[if_neg (by simp)]
   refine Ji ⟨rfl,rfl,fun m p z B w b2 P j l=>?_⟩
   by_cases hm:p<g+n
   ·exact b m p z B w b2 hm j l
   ·have e:p=g+n:=by lia
    subst e
    rw[o] at l;cases l
    by_cases hmm:m=g+n
    ·subst hmm;rw[o] at j;cases j;exact rr O _
    ·exact O.ntr (b m (g+n - 1) z y w (by lia) (by lia) j v) hw
 ·rintro c d ⟨rfl,rfl,b⟩
  rw[show max a f=f by lia] at b|-
  exact q f u (Jg _) b fun h=>(Km _ h).elim
theorem uh (K:Ask M A E s κ S r)(O:SOrd r){st:SortSt}{b n a:Nat}{Q:Option Nat->SortSt->Prop}{k:AscSt->StateT SortSt Sem (Option Nat)}(g:∀n,k (none,n)=pure (some n))(j:kindOf st=κ)(u:In S (arrOf st))(C:b+a<=(arrOf st).size)(h1:1<=n)(y:n<=a)(p:Dn r (arrOf st) b n)
  (q:∀m d,SA b (b+a) st d->1<=m->m<=a->Sl r (arrOf d) b m->Q (some m) d):wpS M A E s (reverseSlice' b (b+n)>>=fun _=>BP b n a>>=fun c=>k c) Q st:=by
 refine Jh (j9 (by omega) fun f e l=>?_)
 have sz:=e.arr.size
 refine Jh (rB K O (e.kind.trans j) (u.kp e.arr) (by omega) h1 y (fun m z x w B b2 D h i=>?_) fun m F v o _=>?_)
 ·rw[l,if_pos (by omega)] at h i
  exact p _ _ w x (by omega) (by omega) (by omega) i h
 ·rw[g]
  exact Ji (q m f ⟨e.kind,e.pend,e.fail,e.arr.wide (Jg _) (by omega)⟩ (by omega) v o)
noncomputable def Ao (a n b:Nat):StateT SortSt Sem DescSt:=
 forIn [n:b] ((none,n,0):DescSt) fun _ __s=>do
  let __x<-ltAt' (a+__s.snd.fst) (a+__s.snd.fst - 1)
  match __x with
  |some smaller=>
   if smaller=true then
    if __s.snd.snd>0 then do
     reverseSlice' (a+__s.snd.fst - (__s.snd.snd+1)) (a+__s.snd.fst)
     pure (ForInStep.yield (none,__s.snd.fst+1,0))
    else pure (ForInStep.yield (none,__s.snd.fst+1,0))
   else do
    let __x<-ltAt' (a+__s.snd.fst - 1) (a+__s.snd.fst)
    match __x with
    |some larger=>
     if larger=true then pure (ForInStep.done (none,__s.snd.fst,__s.snd.snd))
     else pure (ForInStep.yield (none,__s.snd.fst+1,__s.snd.snd+1))
    |_=>pure (ForInStep.done (some none,__s.snd.fst,__s.snd.snd))
  |_=>pure (ForInStep.done (some none,__s.snd.fst,__s.snd.snd))
theorem Aw {a h:Array Keyed}{b n i:Nat}(j:Dn r a b n)(s:b<=i)(p:i<b+n)(g:∀m d x f,i<=m->m<b+n->i<=d->d<b+n->a[m]?=some x->a[d]?=some f->r x f=false)
  (o:∀k,h[k]?=if i<=k/\k<b+n then a[i+(b+n) - 1 - k]? else a[k]?):Dn r h b n:=fun m d x f l b2 q e c=>by
 rw[o] at e c
 by_cases c1:i<=m/\m<b+n
 ·rw[if_pos c1] at e
  rw[if_pos (by omega)] at c
  exact g _ _ x f (by omega) (by omega) (by omega) (by omega) e c
 ·rw[if_neg c1] at e
  by_cases c2:i<=d/\d<b+n
  ·rw[if_pos c2] at c
   exact j m _ x f l (by omega) (by omega) e c
  ·rw[if_neg c2] at c
   exact j m d x f l b2 q e c
noncomputable def Fy (r:Keyed->Keyed->Bool) (a:Array Keyed) (i e:Nat):Prop:=∀m b x c,i<=m->m<e->i<=b->b<e->a[m]?=some x->a[b]?=some c->r x c=false
theorem xB (K:Ask M A E s κ S r)(O:SOrd r){st:SortSt}{v n C:Nat}{Q:DescSt->SortSt->Prop}(hk:kindOf st=κ)(hS:In S (arrOf st))(hn:v+C<=(arrOf st).size)(h1:1<=n)(h2:n<=C)(hs:Dn r (arrOf st) v n)
  (q:∀m B F,SA v (v+C) st F->n<=m->m<=C->B+1<=m->Dn r (arrOf F) v m->Fy r (arrOf F) (v+m - (B+1)) (v+m)->Q (none,m,B) F):wpS M A E s (Ao v n C) Q st:=by
 unfold Ao
 refine JT (I:=fun x c F=>∃B,c=(none,x,B)/\SA v (v+C) st F/\B+1<=x/\Dn r (arrOf F) v x/\Fy r (arrOf F) (v+x - (B+1)) (v+x)) ?_ ?_
  ⟨0,rfl,SA.refl _,by lia,hs,fun m m' x x' c1 Z Y X G D=>?_⟩
 ·rintro x c f a1 a2 ⟨B,rfl,P,a3,hd,d⟩
  dsimp only
  have j:=P.kind.trans hk
  have l:=hS.kp P.arr
  have sz:=P.arr.size
  obtain⟨y,R⟩:=eh (a:=arrOf f) (i:=v+x) (by lia)
  obtain⟨z,J⟩:=eh (a:=arrOf f) (i:=v+x - 1) (by lia)
  refine Jh (iN K j l R J ?_)
  dsimp only
  have more:∀{b:Array Keyed},Dn r b v x->(∀w,b[v+x - 1]?=some w->r w y=false)->b[v+x]?=some y->(∃w,b[v+x - 1]?=some w)->Dn r b v (x+1):=fun hd hl W ⟨w,U⟩ m m' u T b1 b2 b3 G D=>by
   by_cases hm:m'<v+x
   ·exact hd m m' u T b1 b2 hm G D
   ·have o:m'=v+x:=by lia
    subst o
    rw[W] at D;cases D
    by_cases hmm:m=v+x
    ·subst hmm;rw[W] at G;cases G;exact rr O _
    ·exact O.ntr (hl w U) (hd m (v+x - 1) u w b1 (by lia) (by lia) G U)
  cases U:r y z with
  |true=>
   rw[if_pos rfl]
   have g:∀b:Array Keyed,Fy r b (v+(x+1) - (0+1)) (v+(x+1)):=fun b m m' u T c1 Z Y X G D=>by
    have:m=m':=by lia
    subst this
    rw[G] at D;cases D;exact rr O _
   by_cases hq:B>0
   ·rw[if_pos hq]
    refine Jh (j9 (by lia) fun ac H ge=>?_)
    have p:Dn r (arrOf ac) v x:=Aw (i:=v+x - (B+1)) hd (by lia) (by lia) (fun m m' u T c1 Z Y X G D=>d m m' u T c1 Z Y X G D) ge
    refine Ji ⟨0,rfl,P.trans ⟨H.kind,H.pend,H.fail,H.arr.wide (by lia) (by lia)⟩,by lia,more p (fun w N=>?_) ?_ (eh (by have:=H.arr.size;lia)),g _⟩
    ·rw[ge,if_pos (by lia)] at N
     have l1:=d (v+x - 1) _ z w (by lia) (by lia) (by lia) (by lia) J N
     have l2:=d _ (v+x - 1) w z (by lia) (by lia) (by lia) (by lia) N J
     exact O.ntr (O.asym U) l2
    ·rw[ge,if_neg (by lia)];exact R
   ·rw[if_neg hq]
    exact Ji ⟨0,rfl,P,by lia,more hd (fun w N=>by rw[J] at N;cases N;exact O.asym U) R ⟨z,J⟩,g _⟩
  |false=>
   rw[if_neg (by simp)]
   refine Jh (iN K j l J R ?_)
   dsimp only
   cases hv:r z y with
   |true=>
    rw[if_pos rfl]
    exact Ji (q x B f P a1 (by lia) a3 hd d)
   |false=>
    rw[if_neg (by simp)]
    refine Ji ⟨B+1,rfl,P,by lia,more hd (fun w N=>by rw[J] at N;cases N;exact hv) R ⟨z,J⟩,fun m m' u T c1 Z Y X G D=>?_⟩
    have h:∀k w,v+x - (B+1)<=k->k<v+x->(arrOf f)[k]?=some w->r w z=false/\r z w=false:=fun k w d1 d2 e=>⟨d k (v+x - 1) w z d1 d2 (by lia) (by lia) e J,d (v+x - 1) k z w (by lia) (by lia) d1 d2 J e⟩
    by_cases g1:m=v+x
    ·subst g1
     rw[R] at G;cases G
     by_cases g2:m'=v+x
     ·subst g2;rw[R] at D;cases D;exact rr O _
     ·exact O.ntr (h m' T (by lia) (by lia) D).2 U
    ·by_cases g2:m'=v+x
     ·subst g2
      rw[R] at D;cases D
      exact O.ntr hv (h m u (by lia) (by lia) G).1
     ·exact d m m' u T (by lia) (by lia) (by lia) (by lia) G D
 ·rintro c f ⟨B,rfl,P,a3,hd,d⟩
  rw[show max n C=C by lia] at*
  exact q C B f P h2 (Jg _) a3 hd d
 ·have:m=m':=by lia
  subst this
  rw[G] at D;cases D;exact rr O _
theorem kC (K:Ask M A E s κ S r)(O:SOrd r){st:SortSt}{e n a:Nat}{Q:Option Nat->SortSt->Prop}{k2:DescSt->StateT SortSt Sem (Option Nat)}{T:Nat->StateT SortSt Sem (Option Nat)}(h:∀m b,k2 (none,m,b)=if b>0 then (reverseSlice' (e+m - (b+1)) (e+m)>>=fun _=>T m) else T m)
  (C:kindOf st=κ) (J:In S (arrOf st)) (I:e+a<=(arrOf st).size) (h1:1<=n) (N:n<a) (F:Dn r (arrOf st) e (n+1))
  (p:∀m f,SA e (e+a) st f->n+1<=m->m<=a->Dn r (arrOf f) e m->wpS M A E s (T m) Q f):wpS M A E s ((liftM (rule "list.sort.descending-run"):StateT SortSt Sem Unit)>>=fun _=>Ao e (n+1) a>>=fun c=>k2 c) Q st:=by
 refine Jh (wpS_lift (Kj ⟨rfl,?_⟩))
 refine Jh (xB K O C J I (by lia) N F fun m b i j o q P hd g=>?_)
 rw[h]
 have sz:=j.arr.size
 by_cases hq:b>0
 ·rw[if_pos hq]
  refine Jh (j9 (by lia) fun l d D=>?_)
  exact p m l (j.trans ⟨d.kind,d.pend,d.fail,d.arr.wide (by lia) (by lia)⟩) o q (Aw hd (by lia) (by lia) (fun m H u B z y w v x G=>g m H u B z y w v x G) D)
 ·rw[if_neg hq]
  exact p m i j o q hd
theorem oM (K:Ask M A E s κ S r)(O:SOrd r){st:SortSt}{p nrem:Nat}{Q:Option Nat->SortSt->Prop}(J:kindOf st=κ)(N:In S (arrOf st))(hn:p+nrem<=(arrOf st).size)(h1:1<=nrem)
  (q:∀m F,SA p (p+nrem) st F->1<=m->m<=nrem->Sl r (arrOf F) p m->Q (some m) F):wpS M A E s (countRun' p nrem) Q st:=by
 rw[countRun'_eq]
 have one:Sl r (arrOf st) p 1:=fun m m' x x' U b2 W v w=>by
  have:m=m':=by omega
  subst this
  rw[v] at w;cases w;exact rr O _
 refine Jh (rB (a:=1) K O J N hn (Jg _) h1 one fun n P a2 R I=>?_)
 dsimp only
 by_cases e:n=nrem
 ·rw[if_pos (by simpa using e)]
  exact Ji (q n st (SA.refl _) P a2 R)
 rw[if_neg (by simpa using e)]
 have f:n<nrem:=by omega
 obtain⟨y,X⟩:=eh (a:=arrOf st) (i:=p+n) (by omega)
 obtain⟨z,G⟩:=eh (a:=arrOf st) (i:=p+n - 1) (by omega)
 have j:=I f y z X G
 have h:∀st1 (k:AscSt->StateT SortSt Sem (Option Nat)),(∀n,k (none,n)=pure (some n))->SA p (p+nrem) st st1->∀m st2,SA p (p+nrem) st1 st2->n+1<=m->m<=nrem->Dn r (arrOf st2) p m->wpS M A E s (reverseSlice' p (p+m)>>=fun _=>BP p m nrem>>=fun c=>k c) Q st2:=fun st1 k ac H m st2 Z C B hd=>by
  have b:=H.trans Z
  have sz:=b.arr.size
  exact uh K O ac (b.kind.trans J) (N.kp b.arr) (by omega) (by omega) B hd fun k am ad U b2 W=>q k am (b.trans ad) U b2 W
 by_cases hn1:n>1
 ·rw[if_pos hn1]
  obtain⟨x,hx⟩:=eh (a:=arrOf st) (i:=p) (by omega)
  refine Jh (iN K J N hx G ?_)
  dsimp only
  cases hw:r x z with
  |true=>
   rw[if_pos rfl]
   exact Ji (q n st (SA.refl _) P a2 R)
  |false=>
   rw[if_neg (by simp)]
   refine Jh (j9 (by omega) fun st1 H ge=>?_)
   have d:∀m m' u D,p<=m->m<p+n->p<=m'->m'<p+n->(arrOf st)[m]?=some u->(arrOf st)[m']?=some D->r u D=false:=fun m m' u D C B c3 c4 v w=>by
    have g1:=R m' (p+n - 1) D z c3 (by omega) (by omega) w G
    have g2:=R p m x u (Jg _) C (by omega) hx v
    exact O.ntr (O.ntr g1 hw) g2
   have b:SA p (p+nrem) st st1:=⟨H.kind,H.pend,H.fail,H.arr.wide (Jg _) (by omega)⟩
   have o:=b.arr.size
   refine kC (k2:=_) (T:=fun m=>_) K O (fun m Y=>rfl) (b.kind.trans J) (N.kp b.arr) (by omega) P f (fun m m' u D U b2 W v w=>?_) (h st1 _ (fun _=>rfl) b)
   rw[ge] at v w
   by_cases B:p<=m'/\m'<p+n
   ·rw[if_pos B] at w
    rw[if_pos (by omega)] at v
    exact d _ _ u D (by omega) (by omega) (by omega) (by omega) v w
   ·have l:m'=p+n:=by omega
    subst l
    rw[if_neg B,X] at w
    cases w
    by_cases C:p<=m/\m<p+n
    ·rw[if_pos C] at v
     have g:=d (p+n - 1) _ z u (by omega) (by omega) (by omega) (by omega) G v
     have g':=d _ (p+n - 1) u z (by omega) (by omega) (by omega) (by omega) v G
     exact O.ntr (O.asym j) g'
    ·have:m=p+n:=by omega
     subst this
     rw[if_neg C,X] at v
     cases v
     exact rr O _
 ·rw[if_neg hn1]
  have n1:n=1:=by omega
  refine kC (k2:=_) (T:=fun m=>_) K O (fun m Y=>rfl) J N (by omega) P f (fun m m' u D U b2 W v w=>?_) (h st _ (fun _=>rfl) (SA.refl _))
  by_cases C:m=m'
  ·subst C;rw[v] at w;cases w;exact rr O _
  ·have B:m=p+n - 1:=by omega
   have c3:m'=p+n:=by omega
   rw[B,G] at v
   rw[c3,X] at w
   cases v;cases w
   exact O.asym j
theorem q9 (K:Ask M A E s κ S r)(O:SOrd r){st:SortSt}{B n ok:Nat}{Q:Bool->SortSt->Prop}(Y:kindOf st=κ)(hS:In S (arrOf st))(hn:B+n<=(arrOf st).size)(h1:1<=ok)(h2:ok<=n)(Z:Sl r (arrOf st) B ok)
  (q:∀w,SA B (B+n) st w->Sl r (arrOf w) B n->Q true w):wpS M A E s (binarySort' B n ok) Q st:=by
 rw[binarySort'_eq]
 rw[show max ok 1=ok by lia]
 refine Jh (JR (JT (I:=fun x c w=>c=(none,())/\SA B (B+n) st w/\Sl r (arrOf w) B x) (Q:=fun c w=>c=(none,())/\SA B (B+n) st w/\Sl r (arrOf w) B n) ?step ?fin ⟨rfl,SA.refl _,Z⟩) ?post)
 case fin=>
  rintro c w ⟨rfl,G,o⟩
  rw[show max ok n=n by lia] at o
  exact⟨rfl,G,o⟩
 case post=>
  rintro c w ⟨rfl,G,o⟩
  exact Ji (q w G o)
 case step=>
  rintro k c b a1 a2 ⟨rfl,G,d⟩
  dsimp only
  have sz:=G.arr.size
  have u:=G.kind.trans Y
  have v:=hS.kp G.arr
  obtain⟨p,P⟩:=eh (a:=arrOf b) (i:=B+k) (by lia)
  refine Jh (JR (JT (I:=fun x c w=>w=b/\∃l h,c=(none,l,h)/\l<=h/\h<=k/\h - l<=k - x/\(∀i x,i<l->(arrOf b)[B+i]?=some x->r p x=false)/\∀i x,h<=i->i<k->(arrOf b)[B+i]?=some x->r p x=true)
   (Q:=fun c w=>w=b/\∃l,c=(none,l,l)/\l<=k/\(∀i x,i<l->(arrOf b)[B+i]?=some x->r p x=false)/\∀i x,l<=i->i<k->(arrOf b)[B+i]?=some x->r p x=true) ?s ?f ⟨rfl,0,k,rfl,by lia,by lia,by lia,(fun i x h=>by lia),fun i x h1 h2=>by lia⟩) ?pp)
  case s=>
   rintro x c w _ hx ⟨rfl,l,h,rfl,b1,b2,b3,H,J⟩
   dsimp only
   by_cases e:l>=h
   ·rw[if_pos e]
    have:l=h:=by lia
    subst this
    exact Ji ⟨rfl,l,rfl,b2,H,J⟩
   ·rw[if_neg e]
    obtain⟨y,T⟩:=eh (a:=arrOf w) (i:=B+(l+h)/2) (by lia)
    refine Jh (iN K u v P T ?_)
    dsimp only
    cases hw:r p y with
    |true=>
     rw[if_pos rfl]
     refine Ji ⟨rfl,_,_,rfl,by lia,by lia,by lia,H,fun i z N W R=>?_⟩
     have g:=d (B+(l+h)/2) (B+i) y z (by lia) (by lia) (by lia) T R
     cases hz:r p z with
     |true=>rfl
     |false=>exact absurd (O.ntr g hz) (by rw[hw];simp)
    |false=>
     rw[if_neg (by simp)]
     refine Ji ⟨rfl,_,_,rfl,by lia,by lia,by lia,fun i z N R=>?_,J⟩
     exact O.ntr (d (B+i) (B+(l+h)/2) z y (by lia) (by lia) (by lia) R T) hw
  case f=>
   rintro c w ⟨rfl,l,h,rfl,b1,b2,b3,H,J⟩
   have:l=h:=by lia
   subst this
   exact⟨rfl,l,rfl,b2,H,J⟩
  case pp=>
   rintro c w ⟨rfl,l,rfl,b2,H,J⟩
   dsimp only
   rw[moveDown'_eq]
   have X:=getElem?_bubble (xs:=arrOf w) (src:=B+k) (by lia) (k - l) (by lia)
   have U:B+k - (B+l)=k - l:=by lia
   refine Jh (Kx (Ji ⟨rfl,G.trans ⟨rfl,rfl,rfl,?_,fun j hj=>?_⟩,fun m F x x' N W c3 D C=>?_⟩))
   ·exact bubble_perm _ _ _
   ·show(bubble (arrOf w) (B+k) (B+k - (B+l)))[j]?=_
    rw[U,X,if_neg (by lia),if_neg (by lia)]
   ·have D:(bubble (arrOf w) (B+k) (B+k - (B+l)))[m]?=some x:=D
    have C:(bubble (arrOf w) (B+k) (B+k - (B+l)))[F]?=some x':=C
    rw[U,X,show B+k - (k - l)=B+l by lia] at D C
    by_cases g1:m=B+l
    ·rw[if_pos g1,P] at D
     cases D
     by_cases g2:F=B+l
     ·rw[if_pos g2,P] at C;cases C;exact rr O _
     ·rw[if_neg g2,if_pos (by lia)] at C
      rw[show F - 1=B+(F - 1 - B) by lia] at C
      exact O.asym (J _ x' (by lia) (by lia) C)
    ·rw[if_neg g1] at D
     by_cases g2:F=B+l
     ·rw[if_pos g2,P] at C
      cases C
      rw[if_neg (by lia),show m=B+(m - B) by lia] at D
      exact H _ x (by lia) D
     ·rw[if_neg g2] at C
      by_cases g3:B+l<m/\m<=B+k
      ·rw[if_pos g3] at D
       rw[if_pos (by lia)] at C
       exact d (m - 1) (F - 1) x x' (by lia) (by lia) (by lia) D C
      ·rw[if_neg g3] at D
       by_cases g4:B+l<F/\F<=B+k
       ·rw[if_pos g4] at C
        exact d m (F - 1) x x' N (by lia) (by lia) D C
       ·rw[if_neg g4] at C
        exact d m F x x' N W (by lia) D C
end
section
variable {M:Model} {A:Around} {E:Value->Shared->Prop} {s:Shared} {κ:SortKind} {S:Keyed->Prop} {r:Keyed->Keyed->Bool}
theorem CJ (K:Ask M A E s κ S r)(O:SOrd r){a:Array Keyed}{c:Keyed}{st:SortSt}{i n h:Nat}{Q:Option Nat->SortSt->Prop}(v:kindOf st=κ)(B:S c)(y:In S a)(C:Sl r a i n)(D:i+n<=a.size)(w:h<n)
  (q:∀k,k<=n->(∀(m:Nat) x,i<=m->m<i+k->a[m]?=some x->r c x=false)->(∀(m:Nat) x,i+k<=m->m<i+n->a[m]?=some x->r c x=true)->Q (some k) st):wpS M A E s (cQ false c a i n h) Q st:=by
 have b:∀m,m<n->∃x,a[i+m]?=some x:=fun m p=>eh (by lia)
 refine gv K v B w (fun m=>match a[i+m]? with|some x=>!(r c x)|none=>false) (fun m p=>?_) (fun m o h1 h2 d=>?_) (fun k h1 h2 d=>q k h1 (fun m x f j g=>?_) fun m x f j g=>?_)
 ·obtain⟨x,e⟩:=b m p
  refine⟨x,e,y _ x e,?_⟩
  rw[e]
  rfl
 ·obtain⟨x,e⟩:=b m (by lia)
  obtain⟨u,l⟩:=b o h2
  rw[l] at d
  rw[e]
  dsimp only at d|-
  have z:r c u=false:=by simpa using d
  rw[O.ntr (C (i+m) (i+o) x u (by lia) (by lia) (by lia) e l) z]
  rfl
 ·have:=h2 (m - i) (by lia)
  rw[show i+(m - i)=m by lia,g] at this
  simpa using this
 ·have:=d (m - i) (by lia) (by lia)
  rw[show i+(m - i)=m by lia,g] at this
  simpa using this
theorem CD (K:Ask M A E s κ S r)(O:SOrd r){a:Array Keyed}{c:Keyed}{st:SortSt}{i n h:Nat}{Q:Option Nat->SortSt->Prop}(u:kindOf st=κ)(y:S c)(w:In S a)(B:Sl r a i n)(C:i+n<=a.size)(v:h<n)
  (q:∀k,k<=n->(∀(m:Nat) x,i<=m->m<i+k->a[m]?=some x->r x c=true)->(∀(m:Nat) x,i+k<=m->m<i+n->a[m]?=some x->r x c=false)->Q (some k) st):wpS M A E s (cQ true c a i n h) Q st:=by
 have b:∀m,m<n->∃x,a[i+m]?=some x:=fun m p=>eh (by lia)
 refine gv K u y v (fun m=>match a[i+m]? with|some x=>r x c|none=>false) (fun m p=>?_) (fun m o h1 h2 d=>?_) (fun k h1 h2 d=>q k h1 (fun m x f j g=>?_) fun m x f j g=>?_)
 ·obtain⟨x,e⟩:=b m p
  refine⟨x,e,w _ x e,?_⟩
  rw[e]
  rfl
 ·obtain⟨x,e⟩:=b m (by lia)
  obtain⟨z,l⟩:=b o h2
  rw[l] at d
  rw[e]
  dsimp only at d|-
  cases qq:r x c with
  |true=>rfl
  |false=>rw[O.ntr qq (B (i+m) (i+o) x z (by lia) (by lia) (by lia) e l)] at d;cases d
 ·have:=h2 (m - i) (by lia)
  rw[show i+(m - i)=m by lia,g] at this
  exact this
 ·have:=d (m - i) (by lia) (by lia)
  rw[show i+(m - i)=m by lia,g] at this
  exact this
theorem vJ:∀(c:List Keyed) (k:Nat) (b:Array Keyed) (P X R:List Keyed),b.toList=P++X++R->X.length=c.length->P.length=k0+k->
  ((c.zipIdx k).foldl (fun a (p,j)=>a.setIfInBounds (k0+j) p) b).toList=P++c++R
 |[],k,b,P,X,R,h1,h2,h3=>by
  cases X with
  |nil=>exact h1
  |cons _ _=>cases h2
 |m::c,k,b,P,X,R,h1,h2,h3=>by
  cases X with
  |nil=>cases h2
  |cons x X=>
   rw[List.zipIdx_cons,J8]
   have h2:X.length=c.length:=by simpa using h2
   have:=vJ (k0:=k0) c (k+1) (b.setIfInBounds (k0+k) m) (P++[m]) X R (by
    rw[Me,h1,<-h3]
    simp[List.set_append]) h2 (by rw[Js,h3];rfl)
   rw[this]
   simp
theorem rJ (i:Nat):mergeAt' i=(do
 let s<-get
 let (some (sa,na,power),some (sb,nb,_)):=((pendingOf s)[i]?,(pendingOf s)[i+1]?)|unsupported "internal:list.sort.pending"
 set (setPending s (((pendingOf s).setIfInBounds i (sa,na+nb,power)).eraseIdxIfInBounds (i+1)))
 let some k<-cQ false (<-elem' (arrOf s) sb) (arrOf s) sa na 0|return false
 let (sa,na):=(sa+k,na - k)
 if na==0 then return true
 let some nb<-cQ true (<-elem' (arrOf s) (sa+na - 1)) (arrOf s) sb nb (nb - 1)|return false
 if nb==0 then return true
 let x:=(arrOf s).extract sa sb
 let y:=(arrOf s).extract sb (sb+nb)
 let b<-if na<=nb then lS x y else kL x y
 modify fun s=>setArr s (b.toList.zipIdx.foldl (fun a (p,j)=>a.setIfInBounds (sa+j) p) (arrOf s))
 return (failedOf (<-get)).isNone):=rfl
theorem Dt{st:SortSt}{Q:PUnit->SortSt->Prop}(h:Q ⟨⟩ st'):wpS M A E s (set st':StateT SortSt Sem PUnit) Q st:=by
 unfold wpS;rw[StateT.run_set];exact Jf ⟨rfl,h⟩
theorem jv (a:Array Keyed){i j:Nat}(h:j<=a.size):(a.extract i j).toList=(a.toList.drop i).take (j - i):=by
 rw[LJ,L7]
theorem ja {a:Array Keyed}{i j k:Nat}(c:j<=a.size)(b:k<j - i):((a.toList.drop i).take (j - i))[k]?=a[i+k]?:=by
 rw[Kr b,J2,J7]
theorem il {a:Array Keyed}{i j:Nat}{x:Keyed}(d:j<=a.size)(h:x∈(a.extract i j).toList):∃m:Nat,i<=m/\m<j/\a[m]?=some x:=by
 rw[jv a d] at h
 obtain⟨k,c⟩:=JZ.mp h
 have b:=(JE.mp c).1
 rw[JB,Ka,JD] at b
 rw[ja d (by omega)] at c
 exact⟨i+k,by omega,by omega,c⟩
theorem u7 {a:Array Keyed}{i j d n:Nat}(c:j<=a.size)(l:Sl r a d n)(h1:d<=i)(o:j<=d+n):ma r (a.extract i j).toList:=by
 rw[jv a c]
 refine LN.mpr fun p q m e h=>?_
 have b:=e
 rw[JB,Ka,JD] at b
 have g:=ja (a:=a) (i:=i) (j:=j) (k:=p) c (by lia)
 have f:=ja (a:=a) (i:=i) (j:=j) (k:=q) c (by lia)
 rw[JL m] at g
 rw[JL e] at f
 exact l (i+p) (i+q) _ _ (by lia) (by lia) (by lia) g.symm f.symm
theorem rE (K:Ask M A E s κ S r)(O:SOrd r){st:SortSt}{i H Z p1 sb nb p2:Nat}{Q:Bool->SortSt->Prop}(hk:kindOf st=κ)(hS:In S (arrOf st))(hf:failedOf st=none)(h1:(pendingOf st)[i]?=some (H,Z,p1))(h2:(pendingOf st)[i+1]?=some (sb,nb,p2))
  (ca:sb=H+Z) (a5:0<Z) (cd:0<nb) (hz:sb+nb<=(arrOf st).size) (ha:Sl r (arrOf st) H Z) (hb:Sl r (arrOf st) sb nb)
  (q:∀Y,kindOf Y=kindOf st->failedOf Y=none->pendingOf Y=((pendingOf st).setIfInBounds i (H,Z+nb,p1)).eraseIdxIfInBounds (i+1)->Kp H (sb+nb) (arrOf st) (arrOf Y)->Sl r (arrOf Y) H (Z+nb)->Q true Y):wpS M A E s (mergeAt' i) Q st:=by
 rw[rJ]
 refine Jh (Kc ?_)
 rw[h1,h2]
 dsimp only
 refine Jh (Dt ?_)
 obtain⟨b0,f⟩:=eh (a:=arrOf st) (i:=sb) (by lia)
 obtain⟨al,d⟩:=eh (a:=arrOf st) (i:=sb - 1) (by lia)
 refine Jh (a8 f ?_)
 have c:kindOf (setPending st (((pendingOf st).setIfInBounds i (H,Z+nb,p1)).eraseIdxIfInBounds (i+1)))=κ:=hk
 refine Jh (CJ K O c (hS _ _ f) hS ha (by lia) a5 fun k k1 g1 g2=>?_)
 dsimp only
 have b:∀(m:Nat) x,sb<=m->m<sb+nb->(arrOf st)[m]?=some x->r x b0=false:=fun m x W c2 e=>hb sb m b0 x (Jg _) W c2 f e
 have n:∀(m:Nat) x,H<=m->m<sb->(arrOf st)[m]?=some x->r al x=false:=fun m x W c2 e=>ha m (sb - 1) x al W (by lia) (by lia) e d
 by_cases e0:Z - k=0
 ·rw[if_pos (by simpa using e0)]
  refine Ji (q _ rfl hf rfl (Kp.refl _) fun m N x U W c2 c3 J I=>?_)
  by_cases P:N<sb
  ·exact ha m N x U W c2 (by lia) J I
  ·by_cases X:m<sb
   ·exact O.ntr (g1 m x W (by lia) J) (b N U (by lia) (by lia) I)
   ·exact hb m N x U (by lia) c2 (by lia) J I
 rw[if_neg (by simpa using e0)]
 have F:H+k+(Z - k) - 1=sb - 1:=by lia
 rw[F]
 refine Jh (a8 d ?_)
 refine Jh (CD K O c (hS _ _ d) hS hb hz (by lia) fun nb' k2 g3 g4=>?_)
 dsimp only
 by_cases e5:nb'=0
 ·rw[if_pos (by simpa using e5)]
  refine Ji (q _ rfl hf rfl (Kp.refl _) fun m N x U W c2 c3 J I=>?_)
  by_cases P:N<sb
  ·exact ha m N x U W c2 (by lia) J I
  ·by_cases X:m<sb
   ·exact O.ntr (n m x W X J) (g4 N U (by lia) (by lia) I)
   ·exact hb m N x U (by lia) c2 (by lia) J I
 rw[if_neg (by simpa using e5)]
 have T:G4 S r ((arrOf st).extract (H+k) sb) ((arrOf st).extract sb (sb+nb')):=
  ⟨fun x hx=>by obtain⟨m,_,_,e⟩:=il (by lia) hx;exact hS _ _ e,fun x hx=>by obtain⟨m,_,_,e⟩:=il (by lia) hx;exact hS _ _ e,u7 (by lia) ha (by lia) (by lia),u7 (by lia) hb (by lia) (by lia)⟩
 have zx:((arrOf st).extract (H+k) sb).size=sb - (H+k):=by rw[Array.size_extract];lia
 have zy:((arrOf st).extract sb (sb+nb')).size=nb':=by rw[Array.size_extract];lia
 have o:∀y,((arrOf st).extract sb (sb+nb')).toList[0]?=some y->∀x∈((arrOf st).extract (H+k) sb).toList,r x y=false:=fun y hy x hx=>by
  rw[jv _ (by lia),ja (by lia) (by lia),Nat.add_zero,f] at hy
  cases hy
  obtain⟨m,P,X,e⟩:=il (by lia) hx
  exact O.asym (g2 m x P (by lia) e)
 have p:∀x∈((arrOf st).extract (H+k) sb).toList.drop (((arrOf st).extract (H+k) sb).size - 1),∀y∈((arrOf st).extract sb (sb+nb')).toList,r x y=false:=fun x hx y hy=>by
  obtain⟨j,hj⟩:=JZ.mp hx
  rw[J2,zx] at hj
  have g:=(JE.mp hj).1
  rw[JD,zx] at g
  rw[jv _ (by lia),ja (by lia) (by lia),show H+k+(sb - (H+k) - 1+j)=sb - 1 by lia,d] at hj
  cases hj
  obtain⟨m,P,X,e⟩:=il (by lia) hy
  exact O.asym (g3 m y P (by lia) e)
 have v:∀(l:Array Keyed) (st2:SortSt),SG (setPending st (((pendingOf st).setIfInBounds i (H,Z+nb,p1)).eraseIdxIfInBounds (i+1))) st2->e7 r ((arrOf st).extract (H+k) sb).toList ((arrOf st).extract sb (sb+nb')).toList l.toList->
   wpS M A E s (do
    modify fun s=>setArr s (KU (fun a x=>a.setIfInBounds (H+k+x.snd) x.fst) (arrOf s) l.toList.zipIdx)
    let z<-get
    pure (failedOf z).isNone) Q st2:=fun l st2 sg ⟨sl,pl⟩=>by
  refine Jh (Kx (Jh (Kc ?_)))
  have D:arrOf st2=arrOf st:=sg.arr
  have eX:((arrOf st).extract (H+k) sb).toList++((arrOf st).extract sb (sb+nb')).toList=((arrOf st).toList.drop (H+k)).take (sb+nb' - (H+k)):=by
   rw[jv _ (by lia),jv _ (by lia),show sb+nb' - (H+k)=(sb - (H+k))+(sb+nb' - sb) by lia,List.take_add,List.drop_drop,show H+k+(sb - (H+k))=sb by lia]
  have el:(arrOf st).toList=(arrOf st).toList.take (H+k)++((arrOf st).toList.drop (H+k)).take (sb+nb' - (H+k))++(arrOf st).toList.drop (sb+nb'):=by
   have t1:=(Kw (H+k) (arrOf st).toList).symm
   have t2:=(Kw (sb+nb' - (H+k)) ((arrOf st).toList.drop (H+k))).symm
   rw[List.drop_drop,show H+k+(sb+nb' - (H+k))=sb+nb' by lia] at t2
   rw[JJ,<-t2]
   exact t1
  have lm:(((arrOf st).toList.drop (H+k)).take (sb+nb' - (H+k))).length=l.toList.length:=by rw[<-eX];exact pl.length_eq.symm
  have G:l.toList.length=sb+nb' - (H+k):=by rw[<-lm,JB,Ka,JD];lia
  have wb:=vJ (k0:=H+k) l.toList 0 (arrOf st) ((arrOf st).toList.take (H+k)) (((arrOf st).toList.drop (H+k)).take (sb+nb' - (H+k))) ((arrOf st).toList.drop (sb+nb')) el lm (by rw[JB,JD];lia)
  rw[show(failedOf (setArr st2 (KU (fun a x=>a.setIfInBounds (H+k+x.snd) x.fst) (arrOf st2) l.toList.zipIdx))).isNone=true by
   show(failedOf st2).isNone=true
   rw[sg.fail]
   show(failedOf st).isNone=true
   rw[hf];rfl]
  have eb:arrOf (setArr st2 (KU (fun a x=>a.setIfInBounds (H+k+x.snd) x.fst) (arrOf st2) l.toList.zipIdx))=KU (fun a x=>a.setIfInBounds (H+k+x.snd) x.fst) (arrOf st) l.toList.zipIdx:=by
   show KU (fun a x=>a.setIfInBounds (H+k+x.snd) x.fst) (arrOf st2) l.toList.zipIdx=_
   rw[D]
  have u:(arrOf (setArr st2 (KU (fun a x=>a.setIfInBounds (H+k+x.snd) x.fst) (arrOf st2) l.toList.zipIdx))).toList=(arrOf st).toList.take (H+k)++l.toList++(arrOf st).toList.drop (sb+nb'):=by rw[eb];exact wb
  have ge:∀m:Nat,(arrOf (setArr st2 (KU (fun a x=>a.setIfInBounds (H+k+x.snd) x.fst) (arrOf st2) l.toList.zipIdx)))[m]?=if m<H+k then (arrOf st)[m]? else if m<sb+nb' then l.toList[m - (H+k)]? else (arrOf st)[m]?:=fun m=>by
   rw[<-J7,u]
   have lt:((arrOf st).toList.take (H+k)).length=H+k:=by rw[JB,JD];lia
   by_cases P:m<H+k
   ·rw[if_pos P,JJ,K8 (by lia),Kr P,J7]
   ·rw[if_neg P]
    by_cases X:m<sb+nb'
    ·rw[if_pos X,K8 (by rw[Js];lia),Kq (by lia),lt]
    ·rw[if_neg X,Kq (by rw[Js];lia),Js,lt,G,J2,<-J7]
     congr 1
     lia
  refine Ji (q _ sg.kind ?_ sg.pend ⟨?_,fun j hj=>?_⟩ fun m N x U W c2 c3 J I=>?_)
  ·show failedOf st2=none
   exact sg.fail.trans hf
  ·refine Array.perm_iff_toList_perm.mpr ?_
   rw[u]
   refine List.Perm.trans ?_ (List.Perm.of_eq el.symm)
   refine List.Perm.append_right _ (List.Perm.append_left _ ?_)
   rw[<-eX]
   exact pl
  ·rw[ge]
   by_cases P:j<H+k
   ·rw[if_pos P]
   ·rw[if_neg P,if_neg (by lia)]
  ·rw[ge] at J I
   have w:∀{j:Nat} {y:Keyed},l.toList[j]?=some y->∃R:Nat,H+k<=R/\R<sb+nb'/\(arrOf st)[R]?=some y:=fun{j y} h=>by
    have hm:=pl.mem_iff.mp (Jy h)
    rcases Jz.mp hm with h'|h'
    ·obtain⟨R,P,X,e⟩:=il (by lia) h'
     exact⟨R,P,by lia,e⟩
    ·obtain⟨R,P,X,e⟩:=il (by lia) h'
     exact⟨R,by lia,X,e⟩
   by_cases P:m<H+k
   ·rw[if_pos P] at J
    by_cases X:N<H+k
    ·rw[if_pos X] at I
     exact ha m N x U W c2 (by lia) J I
    ·rw[if_neg X] at I
     by_cases d3:N<sb+nb'
     ·rw[if_pos d3] at I
      obtain⟨R,f1,f2,f3⟩:=w I
      by_cases d4:R<sb
      ·exact ha m R x U W (by lia) (by lia) J f3
      ·exact O.ntr (g1 m x W P J) (b R U (by lia) (by lia) f3)
     ·rw[if_neg d3] at I
      exact O.ntr (g1 m x W P J) (b N U (by lia) (by lia) I)
   ·rw[if_neg P] at J
    rw[if_neg (by lia)] at I
    by_cases d3:m<sb+nb'
    ·rw[if_pos d3] at J
     by_cases d4:N<sb+nb'
     ·rw[if_pos d4] at I
      by_cases d5:m=N
      ·subst d5;rw[J] at I;cases I;exact rr O _
      ·have B:=(JE.mp J)
       have C:=(JE.mp I)
       have:=LN.mp sl (m - (H+k)) (N - (H+k)) B.1 C.1 (by lia)
       rw[B.2,C.2] at this
       exact this
     ·rw[if_neg d4] at I
      obtain⟨R,f1,f2,f3⟩:=w J
      by_cases d5:R<sb
      ·exact O.ntr (n R x (by lia) d5 f3) (g4 N U (by lia) (by lia) I)
      ·exact hb R N x U (by lia) (by lia) (by lia) f3 I
    ·rw[if_neg d3] at J
     rw[if_neg (by lia)] at I
     exact hb m N x U (by lia) c2 (by lia) J I
 by_cases hle:Z - k<=nb'
 ·rw[if_pos hle]
  exact Jh (pV K O T c (by lia) (by lia) o p v)
 ·rw[if_neg hle]
  refine Jh (rD K O T c (by lia) (by lia) (fun y hy x hx=>?_) p v)
  obtain⟨j,hj⟩:=JZ.mp hy
  have g:=(JE.mp hj).1
  rw[JB] at g
  have j0:j=0:=by lia
  subst j0
  rw[Kr (by lia)] at hj
  exact o y hj x hx
end
section
variable {M:Model} {A:Around} {E:Value->Shared->Prop} {s:Shared} {κ:SortKind} {S:Keyed->Prop} {r:Keyed->Keyed->Bool}
abbrev Rn:=Nat×Nat×Nat
noncomputable def lY (r:Keyed->Keyed->Bool) (a:Array Keyed):List Rn->Nat->Nat->Prop
 |[],f,t=>f=t
 |x::ps,f,t=>x.1=f/\0<x.2.1/\Sl r a x.1 x.2.1/\lY r a ps (f+x.2.1) t
theorem lY.le:∀{ps:List Rn} {f t:Nat},lY r a ps f t->f+ps.length<=t
 |[],f,t,h=>Nat.le_of_eq h
 |x::ps,f,t,⟨h1,h2,h3,h4⟩=>by have:=h4.le;rw[JC];lia
theorem lY.app:∀{ps b:List Rn} {f m t:Nat},lY r a ps f m->lY r a b m t->lY r a (ps++b) f t
 |[],_,_,_,_,h,g=>by cases h;exact g
 |_::_,_,_,_,_,⟨h1,h2,h3,h4⟩,g=>⟨h1,h2,h3,h4.app g⟩
theorem lY.split:∀{ps b:List Rn} {f t:Nat},lY r a (ps++b) f t->∃m,lY r a ps f m/\lY r a b m t
 |[],_,f,_,h=>⟨f,rfl,h⟩
 |_::_,_,_,_,⟨h1,h2,h3,h4⟩=>by
  obtain⟨m,c,d⟩:=h4.split
  exact⟨m,⟨h1,h2,h3,c⟩,d⟩
theorem yv {a e:Array Keyed}{d c b n:Nat}(h:Sl r a b n)(k:Kp d c a e)(o:b+n<=d\/c<=b):Sl r e b n:=fun m i x l q j p f g=>by
 rw[k.out m (by lia)] at f
 rw[k.out i (by lia)] at g
 exact h m i x l q j p f g
theorem lY.kp {a c:Array Keyed}{d b:Nat}(k:Kp d b a c):∀{ps:List Rn} {f t:Nat},lY r a ps f t->(t<=d\/b<=f)->lY r c ps f t
 |[],_,_,h,_=>h
 |x::ps,f,t,⟨h1,h2,h3,h4⟩,o=>by
  have:=h4.le
  exact⟨h1,h2,yv h3 k (by lia),h4.kp k (by lia)⟩
structure SI (κ:SortKind) (S:Keyed->Prop) (r:Keyed->Keyed->Bool) (a₀:Array Keyed) (lo:Nat) (st:SortSt):Prop where
 kind:kindOf st=κ
 fail:failedOf st=none
 pm:(arrOf st).Perm a₀
 ins:In S (arrOf st)
 cov:lY r (arrOf st) (pendingOf st).toList 0 lo
theorem SI.size {a:Array Keyed}{b:Nat}{st:SortSt}(h:SI κ S r a b st):(arrOf st).size=a.size:=h.pm.size_eq
theorem zc {ps:List Rn}(h:i+1<ps.length):∃a x y p2,ps=a++x::y::p2/\a.length=i:=by
 refine⟨ps.take i,ps[i],ps[i+1],ps.drop (i+2),?_,by rw[JB];lia⟩
 have b:=LK (l:=ps) (i:=i) (by lia)
 have c:=LK (l:=ps) (i:=i+1) h
 rw[<-c,<-b]
 exact(Kw i ps).symm
theorem iB (K:Ask M A E s κ S r)(O:SOrd r){st:SortSt}{c:Array Keyed}{i d:Nat}{Q:Bool->SortSt->Prop}(h:SI κ S r c d st)(F:d<=c.size)(C:i+1<(pendingOf st).size)
  (q:∀b,SI κ S r c d b->Kp 0 d (arrOf st) (arrOf b)->(pendingOf b).size+1=(pendingOf st).size->Q true b):wpS M A E s (mergeAt' i) Q st:=by
 obtain⟨I,⟨B,g,v⟩,⟨sb,j,G⟩,p2,ep,l⟩:=zc (ps:=(pendingOf st).toList) (i:=i) (by rw[JD];exact C)
 have f:=h.cov
 rw[ep] at f
 obtain⟨m,J,⟨z,w,p,⟨H,o,x,n⟩⟩⟩:=f.split
 dsimp only at z w p H o x n
 have a:=n.le
 have N:(pendingOf st)[i]?=some (B,g,v):=by rw[<-J7,ep,<-l];simp
 have D:(pendingOf st)[i+1]?=some (sb,j,G):=by rw[<-J7,ep,<-l];simp
 have sz:=h.size
 refine rE K O h.kind h.ins h.fail N D (by lia) w o (by lia) p x fun b k1 k2 k3 e k5=>?_
 have u:(pendingOf b).toList=I++(B,g+j,v)::p2:=by
  rw[k3]
  simp only[Array.toList_eraseIdxIfInBounds,Me]
  rw[ep,<-l]
  simp[List.set_append,List.eraseIdx_append]
  intro h;lia
 refine q b ⟨k1.trans h.kind,k2,e.pm.trans h.pm,h.ins.kp e,?_⟩ (e.wide (by lia) (by lia)) ?_
 ·rw[u]
  refine(J.kp e (.inl (by lia))).app ⟨z,by show 0<g+j;lia,k5,?_⟩
  have:=n.kp e (.inr (by lia))
  show lY r (arrOf b) p2 (m+(g+j)) d
  rw[<-Nat.add_assoc];exact this
 ·have l1:=congrArg List.length u
  have y:=congrArg List.length ep
  rw[JD] at l1 y
  simp only[Js,JC] at l1 y
  lia
theorem iJ:∀{ps:List Rn} {f t k:Nat},lY r a ps f t->lY r a (ps.modify k fun x=>(x.1,x.2.1,pw)) f t
 |[],_,_,k,h=>by cases k<;>exact h
 |x::ps,f,t,0,⟨h1,h2,h3,h4⟩=>⟨h1,h2,h3,h4⟩
 |x::ps,f,t,k+1,⟨h1,h2,h3,h4⟩=>by
  rw[List.modify_succ_cons]
  exact⟨h1,h2,h3,iJ h4⟩
theorem wpS_sortRunsT (K:Ask M A E s κ S r)(O:SOrd r){st:SortSt}{Q:Unit->SortSt->Prop}(hk:kindOf st=κ)(hS:In S (arrOf st))(hf:failedOf st=none)(N:pendingOf st= #[])(h1:1<=(arrOf st).size)
  (q:∀z,failedOf z=none->(arrOf z).Perm (arrOf st)->Sl r (arrOf z) 0 (arrOf st).size->Q () z):wpS M A E s sortRuns' Q st:=by
 rw[sortRuns'_eq]
 refine Jh (Kc ?_)
 dsimp only
 obtain⟨a₀,ea⟩:∃a₀,arrOf st=a₀:=⟨_,rfl⟩
 rw[ea] at h1 q|-
 have I0:SI κ S r a₀ 0 st:=⟨hk,hf,by rw[ea],hS,by rw[N];rfl⟩
 refine Jh (JR (JT (I:=fun x c z=>∃lo,c=(none,lo)/\x<=lo/\lo<=a₀.size/\SI κ S r a₀ lo z) (Q:=fun c z=>c=(none,a₀.size)/\SI κ S r a₀ a₀.size z) ?step ?fin ⟨0,rfl,Jg _,JA _,I0⟩) ?post)
 case fin=>
  rintro c z ⟨lo,rfl,X,l,B⟩
  have:lo=a₀.size:=by lia
  subst this
  exact⟨rfl,B⟩
 case step=>
  rintro x c o _ X ⟨lo,rfl,w,l,B⟩
  dsimp only
  by_cases hend:lo>=a₀.size
  ·rw[if_pos hend]
   have:lo=a₀.size:=by lia
   subst this
   exact Ji ⟨rfl,B⟩
  rw[if_neg hend]
  have sz:=B.size
  refine Jh (oM K O B.kind B.ins (by lia) (by lia) fun found st2 C f1 f2 F=>?_)
  dsimp only
  have b:SI κ S r a₀ lo st2:=⟨C.kind.trans B.kind,C.fail.trans B.fail,C.arr.pm.trans B.pm,B.ins.kp C.arr,by rw[C.pend];exact B.cov.kp C.arr (.inl (Jg _))⟩
  have v:=b.size
  by_cases hmin:found<minRun' a₀.size a₀.size 0
  ·rw[if_pos hmin]
   refine Jh (wpS_lift (Kj ⟨rfl,?_⟩))
   refine Jh (q9 K O b.kind b.ins (by lia) f1 (by lia) F fun st3 D i=>?_)
   rw[if_neg (by simp)]
   have d:SI κ S r a₀ lo st3:=⟨D.kind.trans b.kind,D.fail.trans b.fail,D.arr.pm.trans b.pm,b.ins.kp D.arr,by rw[D.pend];exact b.cov.kp D.arr (.inl (Jg _))⟩
   obtain⟨n,P⟩:∃n,min (a₀.size - lo) (minRun' a₀.size a₀.size 0)=n:=⟨_,rfl⟩
   rw[P] at i|-
   have j:0<n:=by lia
   have m:lo+n<=a₀.size:=by lia
   clear P F
   refine Jh (Kc ?_)
   cases hb:(pendingOf st3).back? with
   |none=>
    dsimp only
    refine Jh (Kx (Ji ⟨_,rfl,by lia,by lia,d.kind,d.fail,d.pm,d.ins,?_⟩))
    show lY r (arrOf st3) ((pendingOf st3).push (lo,n,0)).toList 0 (lo+n)
    rw[KH]
    exact d.cov.app ⟨rfl,j,i,rfl⟩
   |some bk=>
    obtain⟨s1,n1,p⟩:=bk
    dsimp only
    refine Jh (JR (JT (I:=fun _ c z=>c=(none,())/\SI κ S r a₀ lo z/\Sl r (arrOf z) lo n) (Q:=fun c z=>c=(none,())/\SI κ S r a₀ lo z/\Sl r (arrOf z) lo n) ?_ (fun _ _ h=>h) ⟨rfl,d,i⟩) ?_)
    ·rintro x' c f _ _ ⟨rfl,a,g⟩
     refine Jh (Kc ?_)
     by_cases N:(pendingOf f).size>1
     ·rw[if_pos N]
      obtain⟨⟨y1,y2,J⟩,W⟩:∃y,(pendingOf f)[(pendingOf f).size - 2]?=some y:=⟨_,getElem?_pos _ _ (by lia)⟩
      rw[W]
      dsimp only
      split
      ·exact Ji ⟨rfl,a,g⟩
      ·refine Jh (iB K O a (by lia) (by lia) fun T H k5 _=>?_)
       rw[if_neg (by simp)]
       exact Ji ⟨rfl,H,yv g k5 (.inr (Jg _))⟩
     ·rw[if_neg N]
      exact Ji ⟨rfl,a,g⟩
    ·rintro c f ⟨rfl,a,g⟩
     dsimp only
     refine Jh (Kx (Jh (Kx (Ji ⟨_,rfl,by lia,by lia,a.kind,a.fail,a.pm,a.ins,?_⟩))))
     show lY r (arrOf f) (((pendingOf f).modify ((pendingOf f).size - 1) fun x=>(x.1,x.2.1,_)).push (lo,n,0)).toList 0 (lo+n)
     rw[KH,Array.toList_modify]
     exact(iJ a.cov).app ⟨rfl,j,g,rfl⟩
  ·rw[if_neg hmin]
   obtain⟨st3,e3⟩:∃st3,st3=st2:=⟨_,rfl⟩
   obtain⟨n,P⟩:∃n,n=found:=⟨_,rfl⟩
   have d:=b
   have i:=F
   rw[<-e3] at d i|-
   rw[<-P] at i|-
   have j:0<n:=by lia
   have m:lo+n<=a₀.size:=by lia
   refine Jh (Kc ?_)
   cases hb:(pendingOf st3).back? with
   |none=>
    dsimp only
    refine Jh (Kx (Ji ⟨_,rfl,by lia,by lia,d.kind,d.fail,d.pm,d.ins,?_⟩))
    show lY r (arrOf st3) ((pendingOf st3).push (lo,n,0)).toList 0 (lo+n)
    rw[KH]
    exact d.cov.app ⟨rfl,j,i,rfl⟩
   |some bk=>
    obtain⟨s1,n1,p⟩:=bk
    dsimp only
    refine Jh (JR (JT (I:=fun _ c z=>c=(none,())/\SI κ S r a₀ lo z/\Sl r (arrOf z) lo n) (Q:=fun c z=>c=(none,())/\SI κ S r a₀ lo z/\Sl r (arrOf z) lo n) ?_ (fun _ _ h=>h) ⟨rfl,d,i⟩) ?_)
    ·rintro x' c f _ _ ⟨rfl,a,g⟩
     refine Jh (Kc ?_)
     by_cases N:(pendingOf f).size>1
     ·rw[if_pos N]
      obtain⟨⟨y1,y2,J⟩,W⟩:∃y,(pendingOf f)[(pendingOf f).size - 2]?=some y:=⟨_,getElem?_pos _ _ (by lia)⟩
      rw[W]
      dsimp only
      split
      ·exact Ji ⟨rfl,a,g⟩
      ·refine Jh (iB K O a (by lia) (by lia) fun T H k5 _=>?_)
       rw[if_neg (by simp)]
       exact Ji ⟨rfl,H,yv g k5 (.inr (Jg _))⟩
     ·rw[if_neg N]
      exact Ji ⟨rfl,a,g⟩
    ·rintro c f ⟨rfl,a,g⟩
     dsimp only
     refine Jh (Kx (Jh (Kx (Ji ⟨_,rfl,by lia,by lia,a.kind,a.fail,a.pm,a.ins,?_⟩))))
     show lY r (arrOf f) (((pendingOf f).modify ((pendingOf f).size - 1) fun x=>(x.1,x.2.1,_)).push (lo,n,0)).toList 0 (lo+n)
     rw[KH,Array.toList_modify]
     exact(iJ a.cov).app ⟨rfl,j,g,rfl⟩
 case post=>
  rintro c o ⟨rfl,B⟩
  dsimp only
  have cl:=B.cov.le
  rw[JD] at cl
  refine Jh (JR (JT (I:=fun x c z=>c=(none,())/\SI κ S r a₀ a₀.size z/\(pendingOf z).size+x<=a₀.size) (Q:=fun c z=>c=(none,())/\SI κ S r a₀ a₀.size z/\(pendingOf z).size<=1) ?_ ?_ ⟨rfl,B,by lia⟩) ?_)
  ·rintro x c st2 _ X ⟨rfl,b,R⟩
   refine Jh (Kc ?_)
   by_cases hp1:(pendingOf st2).size<=1
   ·rw[if_pos hp1]
    exact Ji ⟨rfl,b,hp1⟩
   rw[if_neg hp1]
   refine Jh (iB K O b (Jg _) ?_ fun st3 d _ ac=>?_)
   ·have u:∀(c:Prop) [Decidable c],(if c then (pendingOf st2).size - 2 - 1 else (pendingOf st2).size - 2)+1<(pendingOf st2).size:=fun c _=>by split<;>lia
    exact u _
   ·rw[if_neg (by simp)]
    exact Ji ⟨rfl,d,by lia⟩
  ·rintro c st2 ⟨rfl,b,R⟩
   exact⟨rfl,b,by lia⟩
  ·rintro c st2 ⟨rfl,b,R⟩
   refine Ji (q st2 b.fail b.pm ?_)
   have G:=b.cov
   have U:(pendingOf st2).toList.length<=1:=by rw[JD];exact R
   match e:(pendingOf st2).toList,U with
   |[],_=>
    rw[e] at G
    have:0=a₀.size:=G
    lia
   |[x],_=>
    rw[e] at G
    obtain⟨c1,c2,Z,Y⟩:=G
    have Y:0+x.2.1=a₀.size:=Y
    rw[c1,show x.2.1=a₀.size by lia] at Z
    exact Z
   |_::_::_,U=>simp at U
end
end TS
namespace L2
open PySem PySem.Spec PyProof.Rows
noncomputable def tT (f:Value->List Int) (x y:Keyed):Bool:=HT.lexLt (f x.1) (f y.1)
theorem yC (f:Value->List Int):TS.SOrd (tT f) where
 asym:=fun{x y} h=>by
  cases e:tT f y x with
  |false=>rfl
  |true=>
   have:=jq _ _ _ h e
   rw[kI] at this;cases this
 ntr:=fun{x y z} h1 h2=>by
  cases e:tT f z x with
  |false=>rfl
  |true=>
   rcases BR _ (f y.1) _ e with g|g
   ·exact absurd g (by rw[show HT.lexLt (f z.1) (f y.1)=false from h2];simp)
   ·exact absurd g (by rw[show HT.lexLt (f y.1) (f x.1)=false from h1];simp)
def v_ (h:Heap) (f:Value->List Int) (b:Addr):Prop:=∃o xs k,h.get? b=some o/\o.cls=.type "tuple" /\o.data=.seq xs k/\aS ((f (.ref b)).map V.int) xs.toList/\f (.ref b)≠[]
section
variable {prog:Program} {w:World} {A:Around} {E:Value->Shared->Prop} {s:Shared}
theorem qP{f:Value->List Int}:∀(as:List Addr),(∀b∈as,v_ h f b)->∃fs:List Value,PySem.W.KatTups h (as.map Value.ref) fs/\fs.length=as.length/\∀v∈fs,∃i t,v=Value.int i t
 |[],_=>⟨[],PySem.W.KatTups.nil,rfl,fun _ h=>nomatch h⟩
 |b::as,ht=>by
  obtain⟨fs,h1,h2,n⟩:=qP as fun c p=>ht c (Jq _ p)
  obtain⟨o,xs,k,j,m,g,d,s⟩:=ht b Jp
  cases hf:f (.ref b) with
  |nil=>exact absurd hf s
  |cons i r=>
   rw[hf,Jr] at d
   generalize a:xs.toList=l at d
   cases d with
   |cons q rv=>
    obtain⟨e,rfl⟩:=q
    refine⟨.int i e::fs,PySem.W.KatTups.cons j m g ?_ h1,by simp[h2],fun v hv=>?_⟩
    ·rw[<-J7,a];rfl
    ·rcases Jo.mp hv with rfl|hv
     ·exact⟨i,e,rfl⟩
     ·exact n v hv
theorem De {f:Value->List Int}{b:Bool}{as:List Addr}(i:∀c∈as,v_ s.heap f c):TS.Ask (model prog w) A E s (tuples' b) (fun x=>x.1=x.2/\∃c∈as,x.1=.ref c) (tT f):=by
 rintro st ⟨x,C⟩ ⟨y,z⟩ Q l ⟨_,c,o,ex⟩ ⟨_,d,hd,u⟩ q
 cases ex
 cases u
 obtain⟨B,h,k1,n,_,m,a,_⟩:=i c o
 obtain⟨v,g,k2,p,_,r,e,_⟩:=i d hd
 rw[lt'_eq]
 refine Jh (Kc ?_)
 rw[l]
 refine Jh (wpS_lift (Ku (PySem.W.kat_lt n m p r ?_)))
 have l1:=a.length
 have j:=e.length
 rw[Jd] at l1 j
 exact jO _ _ _ _ 0 a e (by rw[l1,j];simp) ⟨rfl,Ji q⟩
def G9 (x:Keyed):Addr:=match x.1 with
 | .ref b=>b
 |_=>0
def E6 (b:Addr):Keyed:=(.ref b,.ref b)
theorem yg(h:l.Perm (as.map E6)):∃bs:List Addr,bs.Perm as/\l=bs.map E6:=by
 refine⟨l.map G9,?_,?_⟩
 ·have:=h.map G9
  rw[Jt] at this
  have e:as.map (G9∘E6)=as:=by
   have:(G9∘E6)=id:=rfl
   rw[this,List.map_id]
  rwa [e] at this
 ·rw[Jt]
  have:∀x∈l,(E6∘G9) x=x:=fun x a=>by
   obtain⟨b,_,rfl⟩:=Jk.mp (h.mem_iff.mp a)
   rfl
  rw[Lf this]
  simp
theorem CN {P:PySem.Fin->Shared->Prop}{f:Value->List Int}(R:s.heap.get? a=some (seqObj "list" (as.map Value.ref).toArray n))(hz:as.length<=100000)
  (tp:∀b∈as,b≠a/\v_ s.heap f b)
  (h:∀(bs:List Addr) (e:Nat) (h':Heap),bs.Perm as->bs.Pairwise (fun b c=>HT.lexLt (f (.ref c)) (f (.ref b))=false)->(∀b o,b≠a->s.heap.get? b=some o->h'.get? b=some o)->h'.get? a=some (seqObj "list" (bs.map Value.ref).toArray e)->P (.done (.ret .none)) {s with heap:=h'}):
  wpAny (model prog w) A (Builtin.«list.sort» ⟨[.ref a],[]⟩) P E s:=by
 have ha:a<s.heap.objs.size:=Jm R
 have s1:=Heap.SameBut.update s.heap a (Obj.mapSeq fun _=>(#[]:Array Value))
 obtain⟨M,q⟩:∃M,(s.heap.update a (Obj.mapSeq fun _=>(#[]:Array Value))).get? a=some (seqObj "list" #[] M):=⟨_,get?_update_seq R fun _=> #[]⟩
 have N:(as.map Value.ref).length=as.length:=Jd ..
 rw[list_sort_plain]
 refine Jc (listItems_at R rfl ?_)
 refine Jc (listUpdate_at R rfl ?_ (by rw[JF,N,sizeLine_eq];lia) (JA _))
 refine Jc (seqEpoch_at q rfl ?_)
 refine Jc (wpAny_newTuple ?_ (by show(as.map Value.ref).length<=_;rw[N,sizeLine_eq];lia))
 refine Jc (wpAny_newList ?_ (JA _))
 refine JV ?_
 show wpAny (model prog w) A _ P E {s with heap:=((s.heap.update a (Obj.mapSeq fun _=>(#[]:Array Value))).push (seqObj "tuple" (as.map Value.ref).toArray 0)).push (seqObj "list" #[] 0)}
 have keep:∀b o,b≠a->s.heap.get? b=some o->(((s.heap.update a (Obj.mapSeq fun _=>(#[]:Array Value))).push (seqObj "tuple" (as.map Value.ref).toArray 0)).push (seqObj "list" #[] 0)).get? b=some o:=fun b o H e=>Jj _ (Jj _ ((s1.2 b H).trans e))
 have d:(((s.heap.update a (Obj.mapSeq fun _=>(#[]:Array Value))).push (seqObj "tuple" (as.map Value.ref).toArray 0)).push (seqObj "list" #[] 0)).get? a=some (seqObj "list" #[] M):=Jj _ (Jj _ q)
 revert keep d
 generalize ((s.heap.update a (Obj.mapSeq fun _=>(#[]:Array Value))).push (seqObj "tuple" (as.map Value.ref).toArray 0)).push (seqObj "list" #[] 0)=I
 intro keep d
 dsimp only
 have S:((as.map Value.ref).toArray.zip (as.map Value.ref).toArray).toList=as.map E6:=by
  rw[Array.toList_zip]
  show(as.map Value.ref).zip (as.map Value.ref)=_
  rw[List.zip_map',]
  rfl
 by_cases hn1:as.length<2
 ·have p:(as.map Value.ref).toArray.size<2:=by rw[JF,N];exact hn1
  rw[if_pos p,if_pos p]
  refine Jc (Jf ?_)
  rw[StateT.run_pure]
  refine Jc (Jf ?_)
  dsimp only
  have l:((as.map Value.ref).toArray.zip (as.map Value.ref).toArray).map (·.2)=(as.map Value.ref).toArray:=by
   apply Array.toList_inj.mp
   rw[Array.toList_map,S,Jt]
   rfl
  rw[l]
  have U:=Heap.SameBut.update I a (Obj.mapSeq fun _=>(as.map Value.ref).toArray)
  obtain⟨J,m⟩:∃J,(I.update a (Obj.mapSeq fun _=>(as.map Value.ref).toArray)).get? a=some (seqObj "list" (as.map Value.ref).toArray J):=⟨_,get?_update_seq d fun _=>(as.map Value.ref).toArray⟩
  refine Jc (seqEpoch_at d rfl ?_)
  refine Jc (listUpdate_at d rfl ?_ (JA _) (by rw[JF,N,sizeLine_eq];lia))
  simp only[bne_self_eq_false,KW,if_false]
  refine Jf (h as J _ (List.Perm.refl _) ?_ (fun b o H e=>(U.2 b H).trans (keep b o H e)) m)
  exact LN.mpr fun i j hi hj O=>by lia
 have h2:2<=as.length:=by lia
 have y:¬(as.map Value.ref).toArray.size<2:=by rw[JF,N];lia
 rw[if_neg y,if_neg y]
 have u:∀b∈as,v_ I f b:=fun b H=>by
  obtain⟨nb,o,xs,k,M,r⟩:=tp b H
  exact⟨o,xs,k,keep b o nb M,r⟩
 obtain⟨fs,kt,F,D⟩:=qP as u
 refine Jc (PySem.W.kat_kind (s:={s with heap:=I}) (T:=.type "int") kt (by lia) (fun v hv=>?_) rfl ?_)
 ·obtain⟨i,t,rfl⟩:=D v hv
  exact .now
 have K:TS.Ask (model prog w) A E {s with heap:=I} (tuples' (Value.type "int" !=Value.type "tuple")) (fun x=>x.1=x.2/\∃c∈as,x.1=.ref c) (tT f):=De (s:={s with heap:=I}) u
 have zs:((as.map Value.ref).toArray.zip (as.map Value.ref).toArray).size=as.length:=by rw[<-JD,S,Jd]
 have C:TS.In (fun x=>x.1=x.2/\∃c∈as,x.1=.ref c) ((as.map Value.ref).toArray.zip (as.map Value.ref).toArray):=fun k x Z=>by
  rw[<-J7,S] at Z
  obtain⟨b,H,rfl⟩:=Jk.mp (Jy Z)
  exact⟨rfl,b,H,rfl⟩
 have B:=TS.wpS_sortRunsT K (yC f) (st:=SortSt.mk' (tuples' (Value.type "int" !=Value.type "tuple")) ((as.map Value.ref).toArray.zip (as.map Value.ref).toArray) #[] 7 none) (Q:=fun _ G=>failedOf G=none/\(arrOf G).Perm ((as.map Value.ref).toArray.zip (as.map Value.ref).toArray)/\TS.Sl (tT f) (arrOf G) 0 as.length) rfl C rfl rfl (by show 1<=((as.map Value.ref).toArray.zip (as.map Value.ref).toArray).size;rw[zs];lia) (fun G b1 b2 X=>⟨b1,b2,by have X:TS.Sl (tT f) (arrOf G) 0 ((as.map Value.ref).toArray.zip (as.map Value.ref).toArray).size:=X;rwa [zs] at X⟩)
 refine Jc (JU B ?_ fun _ _ e=>e)
 rintro⟨⟨⟩,G⟩ s' ⟨rfl,hf,pm,sl⟩
 dsimp only
 have z:=Array.perm_iff_toList_perm.mp pm
 rw[S] at z
 obtain⟨bs,pb,Y⟩:=yg z
 have l:(arrOf G).map (·.2)=(bs.map Value.ref).toArray:=by
  apply Array.toList_inj.mp
  rw[Array.toList_map,Y,Jt]
  rfl
 have lb:bs.length=as.length:=pb.length_eq
 rw[l]
 have U:=Heap.SameBut.update I a (Obj.mapSeq fun _=>(bs.map Value.ref).toArray)
 obtain⟨J,m⟩:∃J,(I.update a (Obj.mapSeq fun _=>(bs.map Value.ref).toArray)).get? a=some (seqObj "list" (bs.map Value.ref).toArray J):=⟨_,get?_update_seq d fun _=>(bs.map Value.ref).toArray⟩
 refine Jc (seqEpoch_at d rfl ?_)
 refine Jc (listUpdate_at d rfl ?_ (JA _) (by rw[JF,Jd,lb,sizeLine_eq];lia))
 rw[hf]
 simp only[bne_self_eq_false,KW,if_false]
 refine Jf (h bs J _ pb ?_ (fun b o H e=>(U.2 b H).trans (keep b o H e)) m)
 refine LN.mpr fun i j hi hj O=>?_
 have g:∀(k:Nat) (hk:k<bs.length),(arrOf G)[k]?=some (E6 bs[k]):=fun k hk=>by
  rw[<-J7,Y,JG,JL hk];rfl
 exact sl i j _ _ (JA _) (Ky O) (by lia) (g i hi) (g j hj)
end
section
variable {X:Cx}
noncomputable def DI (as:List Addr) (cs:List (List Int)) (v:Value):List Int:=match v with
 | .ref a=>((as.zip cs).lookup a).getD []
 |_=>[]
theorem Ay{cs:List (List Int)}(f:bB H as cs):∀b∈as,H b=some (.tup ((DI as cs (.ref b)).map V.int))/\DI as cs (.ref b)∈cs:=fun b d=>by
 unfold DI
 have key:∀{as:List Addr} {cs:List (List Int)},bB H as cs->b∈as->∃c,(as.zip cs).lookup b=some c/\H b=some (.tup (c.map V.int))/\c∈cs:=by
  intro as cs f
  induction f with
  |nil=>intro h;cases h
  | @cons a c as cs h t ih=>
   intro d
   rw[List.zip_cons_cons,JX]
   by_cases e:b=a
   ·subst e
    exact⟨c,by simp,h,Jp⟩
   ·have:(b==a)=false:=by simpa using e
    rw[this]
    rcases Jo.mp d with z|z
    ·exact absurd z e
    ·obtain⟨i,h1,h2,g⟩:=ih z
     exact⟨i,h1,h2,Jq _ g⟩
 obtain⟨c,h1,h2,g⟩:=key f d
 dsimp only
 rw[h1]
 exact⟨h2,g⟩
theorem CH{cs:List (List Int)}(l:bB H as cs):as.map (fun b=>DI as cs (.ref b))=cs:=by
 have d:=Ay l
 generalize DI as cs=g at d
 induction l with
 |nil=>rfl
 | @cons a c as cs h t ih=>
  have e:=(d a Jp).1
  rw[h] at e
  have:c=g (.ref a):=fN (by injection e with e;injection e)
  rw[Jr,<-this]
  congr 1
  refine ih fun b j=>⟨(d b (Jq _ j)).1,?_⟩
  have f:=(d b (Jq _ j)).1
  obtain⟨i,hi⟩:=JZ.mp j
  obtain⟨n,m,o⟩:=bB.at t hi
  rw[o] at f
  have:n=g (.ref b):=fN (by injection f with f;injection f)
  rw[<-this]
  exact Jy m
theorem yi{g:Value->List Int}:∀{bs:List Addr},(∀b∈bs,H b=some (.tup ((g (.ref b)).map V.int)))->bB H bs (bs.map fun b=>g (.ref b))
 |[],_=> .nil
 |b::bs,h=> .cons (h b Jp) (yi fun c a=>h c (Jq _ a))
theorem eY (ap:X.calm=true):cI X (.builtin "sorted") (fun xs H Q=>∃(p:Addr) (kvs:List (List cP×V)) (cs:List (List Int)),xs=[.ref p]/\H p=some (.dT kvs)/\kvs.map (·.1)=cs.map (fun c=>c.map Sum.inl)/\(∀c∈cs,c≠[])/\cs.length<=1000/\
  ∀l bs ds,H l=none->bB H bs ds->ds.Perm cs->ds.Pairwise (fun c d=>HT.lexLt d c=false)->Q (.ref l) (upd H l (.lst (bs.map V.ref)))):=by
 intro pins s σ H xs us Q I r h
 obtain⟨p,kvs,cs,rfl,e,hk,S,T,q⟩:=h
 obtain⟨u,rfl,rx⟩:=df r
 cases rx
 obtain⟨o,I1,Y⟩:=I.freeze e trivial
 obtain⟨hS,C,hc,es,ep,K,hz,B⟩:=hG I1.hok ae trivial
 have M:kvs.length=cs.length:=by have:=congrArg List.length hk;simpa using this
 have A:es.size=cs.length:=by rw[<-M];exact hz
 obtain⟨m,hm,_⟩:=id I.loc
 refine PySem.W.kdu_sorted (AW hS) (I.ok.hd ap) (Att.fr_all hm) lE ⟨o,C,hc,K⟩ (by rw[A,sizeLine_eq];lia) fun D h' tk vs F' N' hD ab hP=>?_
 obtain⟨as,rfl,ht⟩:∃as:List Addr,vs=as.map Value.ref/\bB H as cs:=by
  refine vx (by rw[ab,A]) fun i v c hv a0=>?_
  obtain⟨hi,rfl⟩:=hP i v hv
  obtain⟨x,y,E,r1,r2⟩:=B i hi
  obtain⟨kk,a,h1,h2,h3⟩:=E
  have h4:(kvs.map (·.1))[i]?=some kk:=by rw[JG,h1];rfl
  rw[hk,JG,a0] at h4
  have h5:=Option.some.inj h4
  subst h2
  refine⟨a,r1,?_⟩
  have P:a≠p:=fun z=>by rw[z,ae] at h3;cases h3
  rw[ak P,<-h5,gB] at h3
  exact h3
 have W:as.length=cs.length:=Paired.length ht
 have k0:∀b u,b≠X.env.locals->s.heap.get? b=some u->h'.get? b=some u:=fun b u Z e=>(N' (b,u) (Jq _ (fL Z (Att.noObjs_get _ _) e))).1
 have nD:=N' (D,_) Jp
 have j:s.heap.get? D=none:=by
  cases e:s.heap.get? D with
  |none=>rfl
  |some u=>exact absurd (hD (D,u) (fL nD.2.1 (Att.noObjs_get _ _) e)) (Km _)
 have fa:=Ay ht
 refine JY PyProof.Rows.slot_list_sort ⟨_,nD.1,rfl⟩ PyProof.Rows.entry_list_sort (CN (s:={s with heap:=h',toks:=tk}) (as:=as) (f:=DI as cs) nD.1 (by lia) (fun b Z=>?_) fun bs e1 h2 pb pw kp a2=>?_) (PyProof.Rows.args_list_sort _)
 ·have g:=(fa b Z).1
  have J:b≠X.env.locals:=fun z=>by rw[z,I.free] at g;cases g
  obtain⟨_,G,rv,ob,w,R,n,F⟩:=(show bM X.prog X.w H s.heap b (.tup ((DI as cs (.ref b)).map V.int)) from I.hok b _ g)
  have N:b≠D:=fun z=>by rw[z,j] at w;cases w
  refine⟨N,ob,G.toArray,n,k0 b ob J w,R,F,by simpa using rv,S _ (fa b Z).2⟩
 ·refine⟨_,rfl,?_⟩
  have I':aI X pins σ (upd H D (.lst (bs.map V.ref))) {s with heap:=h2,toks:=tk}:=by
   refine I.laidN (fun b u Z e=>?_) (fun m' a1=>?_) j ?_
   ·exact kp b u (fun z=>by rw[z,j] at e;cases e) (k0 b u Z e)
   ·have:m'=m:=sM a1 hm
    rw[this]
    obtain⟨oL,O,U,e',r'⟩:=F'.ns
    exact⟨oL,O,U,kp _ _ nD.2.1.symm e',r'⟩
   ·refine⟨?_,_,_,iS _,a2⟩
    rw[Jd,pb.length_eq,W]
    exact Jn T (by decide)
  have tb:∀b∈bs,H b=some (.tup ((DI as cs (.ref b)).map V.int)):=fun b Z=>(fa b (pb.mem_iff.mp Z)).1
  refine⟨.ref D,_,I',rfl,q D bs _ (I.hok.none_of j) (yi tb) ?_ ?_⟩
  ·have:=pb.map fun b=>DI as cs (.ref b)
   rwa [CH ht] at this
  ·exact K2.mpr pw
end
end L2
namespace K18
open PySem L2
abbrev T3:=List Int
def iK (x:T3):List cP:=x.map Sum.inl
theorem oW(h:iK x=iK y):x=y:=by
 have:=congrArg (List.map kV) h
 unfold iK at this
 rw[gB,gB] at this
 exact fN this
theorem A2 {H:Hp}{b:Addr}{x:T3}(h:H b=some (.tup (x.map V.int))):H b=some (.tup ((iK x).map kV)):=by unfold iK;rw[gB];exact h
theorem gu {a:Type} [DecidableEq a]{kvs:List (a×V)}{k:a}:(cA kvs k).isSome=true↔k∈kvs.map (·.1):=by
 rw[<-dN]
 simp[List.any_eq_true]
theorem vq {a:Type} [DecidableEq a]{kvs:List (a×V)}{k:a}{v:V}(h:cA kvs k=some v):(k,v)∈kvs:=by
 unfold cA at h
 obtain⟨p,h1,h2⟩:=K_.mp h
 have b:=List.find?_some h1
 have c:=List.mem_of_find?_eq_some h1
 have:p.1=k:=of_decide_eq_true b
 subst this h2
 exact c
theorem wV {a:Type} [DecidableEq a](kvs:List (a×V))(k:a)(v:V):(dY kvs k v).map (·.1)=if (cA kvs k).isSome=true then kvs.map (·.1) else kvs.map (·.1)++[k]:=by
 unfold dY
 rw[dN]
 by_cases h:(cA kvs k).isSome=true
 ·rw[if_pos h,if_pos h,Jt]
  refine Lf fun p _=>?_
  show(if p.1=k then (p.1,v) else p).1=p.1
  split<;>rfl
 ·rw[if_neg h,if_neg h,Jl];rfl
theorem qD {b:Type}{P:List b->Prop}(h0:P [])(h1:∀xs x,P xs->P (xs++[x]))(l:List b):P l:=by
 have:∀n (xs:List b),xs.length=n->P xs:=by
  intro n
  induction n with
  |zero=>intro xs e;rw[List.length_eq_zero_iff.mp e];exact h0
  |succ n ih=>
   intro xs e
   have a:xs≠[]:=fun z=>by rw[z] at e;simp at e
   rw[(List.dropLast_concat_getLast a).symm]
   exact h1 _ _ (ih _ (by simp[e]))
 exact this _ l rfl
theorem bf(s:ah H0 H')(a:H0 D=none):ah H0 (upd H' D y):=fun b u e=>by
 rw[ak (ar e a)];exact s _ _ e
section
variable {tc:TT} {t u:TS} {te ta tb td ty:TE} {D:fJ} {σ:St} {H:Hp} {a d:Addr} {y v:V} {o:Option V} {K:Je}
theorem wR (c:Ev ty σ H y)(b:Ev td σ H (.ref a))(g:iE H a y o):Ev (vZ ty td) σ H (.bl (!o.isSome)):=fun _ q=>c _ (b _ ⟨a,o,rfl,g,q⟩)
theorem cC(h:iU tc σ H b)(e:b=c):iU tc σ H c:=e▸h
theorem bg(h:Ev te σ H v)(e:v=c):Ev te σ H c:=e▸h
theorem vM(b:Ev tv σ H v)(hd:Ev td σ H (.ref a))(c:Ev ty σ H y)(p:oK H a y v H4)(q:D.nx σ H4):y8 td ty tv D σ H:=b _ (hd _ (c _ ⟨a,H4,rfl,p,q⟩))
theorem iI(h:ko tl σ H vs)(a:vs.length<=sizeLine)(q:∀p,H p=none->Q (.ref p) (upd H p (.tup vs))):sJ tl σ H Q:=h _ ⟨a,q⟩
theorem gH(h:ko tl σ H vs)(a:vs.length<=sizeLine)(q:∀p,H p=none->Q (.ref p) (upd H p (.lst vs))):ot tl σ H Q:=h _ ⟨a,q⟩
theorem ui(h:ko tl σ H vs)(a:vs.length<=sizeLine)(q:∀p,H p=none->D.rt (.ref p) (upd H p (.tup vs))):zD (sJ tl) D σ H:=h _ ⟨a,q⟩
theorem aX(h:ko tl σ H vs)(q:sp vs H Q E0):fH sp [] E0 tl σ H Q:=h _ (by rw[JK];exact q)
end
theorem Ce(c:Ev ty σ H y)(b:Ev td σ H (.ref a))(g:iE H a y o):Ev (E7 ty td) σ H (.bl o.isSome):=fun _ q=>c _ (b _ ⟨a,o,rfl,g,q⟩)
theorem f6(h:bB H as cs)(t:bB H bs ds):bB H (as++bs) (cs++ds):=kY h t
theorem vm(b:Ev ta σ H x)(a:Ev tb σ H .non):Ev (fZ (fun x y H Q=>y=.non/\Q (.bl (!decide (x=.non))) H) ta tb) σ H (.bl (!decide (x=.non))):=fun _ z=>b _ (a _ ⟨rfl,z⟩)
theorem jc(h:ko ta σ H [.int j])(h1: -(2^62)<=j)(a:j<2^62)(q:fT (fun _ H R=>R (wH 0 j.toNat) H) g tb {D with nx:=u D} σ H):fG (fT (rO ta) g tb) u D σ H:=h _ ⟨j,rfl,h1,a,q⟩
theorem oO(h:ko ta σ H [.int j])(h1: -(2^62)<=j)(a:j<2^62)(q:fT (fun _ H R=>R (wH 0 j.toNat) H) g tb D σ H):fT (rO ta) g tb D σ H:=h _ ⟨j,rfl,h1,a,q⟩
theorem BU(h:ko tl σ H vs)(q:sp vs H (fun x H1=>∃a,x=.ref a/\(∃xs,aH K H1 a xs)/\fT (fun _ H R=>R (pM K a) H) g tb {D with nx:=u D} σ H1) E0):fG (fT (lL K (fH sp [] E0 tl)) g tb) u D σ H:=h _ (by rw[JK];exact q)
theorem ki(h:ko tl σ H vs)(q:sp vs H (fun x H1=>∃a,x=.ref a/\(∃xs,aH K H1 a xs)/\fT (fun _ H R=>R (pM K a) H) g tb D σ H1) E0):fT (lL K (fH sp [] E0 tl)) g tb D σ H:=h _ (by rw[JK];exact q)
theorem Fb(h:ko tl σ H vs)(q:∀Q:VK,Q v H->sp vs H Q E0):Ev (fH sp [] E0 tl) σ H v:=fun Q z=>h _ (by rw[JK];exact q Q z)
theorem dM(h:ta σ H fun x H1=>tb σ H1 fun y H2=>r x y H2 Q):fZ r ta tb σ H Q:=h
def Sb (l:Addr) (H a:Hp):Prop:=∀b o,b≠l->H b=some o->a b=some o
theorem Sb.refl (l:Addr)(H:Hp):Sb l H H:=fun _ _ _ h=>h
theorem Sb.trans(a:Sb l H H1)(b:Sb l H1 H2):Sb l H H2:=fun c o n h=>b c o n (a c o n h)
theorem Sb.of(s:ah H H'):Sb l H H':=fun b o _ h=>s b o h
theorem Sb.set(s:Sb l H H'):Sb l H (upd H' l y):=fun b o n h=>by rw[ak n];exact s b o n h
theorem Sb.same(s:Sb l H H')(n:H l=none):ah H H':=fun b o h=>s b o (ar h n) h
theorem Sb.tups(s:Sb l H H')(a:H l=some (.lst zs)){bs:List Addr}{cs:List T3}(h:bB H bs cs):bB H' bs cs:=
 Paired.mapP h fun b c z=>s b _ (jL z a (by intro e;cases e)) z
theorem aT {a:Type}{xs:List a}{x:a}(h:xs[i]?=some x):xs.take (i+1)=xs.take i++[x]:=by rw[KY,h];rfl
theorem BM(q:tc σ H fun b H1=>if b=true then t D σ H1 else u D σ H1):lJ tc t u D σ H:=q
theorem Gq(h:iU t σ H a)(e:a=false)(q:u σ H Q):Fs t u σ H Q:=by
 subst e
 exact h _ q
theorem Hm(h:iU t σ H false)(q:tb σ H Q):IK t ta tb σ H Q:=h _ (gM q)
theorem mU(e:H d=some u):ah H (upd (upd H d (.frz o u)) d u):=fun b v z=>by
 by_cases hb:b=d
 ·subst hb;rw[ae,<-e,z]
 ·rw[ak hb,ak hb];exact z
theorem FQ(h:iU t1 σ H false)(a:iU t2 σ H b):iU (Fs t1 t2) σ H b:=fun Q q=>h _ (gM (a _ q))
theorem eQ(h:iU tc σ H true):iU (wk tc) σ H false:=fun _ q=>h _ q
theorem dh{fs:List (Str×V)}(h:Ev ta σ H (.ref p))(e:H p=some (.ins C dx fs))(c:jn K C)(n:a_ K C f)(l:fs.lookup f=some v):Ev (wD K ta f) σ H v:=fun _ q=>h _ ⟨p,C,dx,fs,v,rfl,e,c,n,l,q⟩
theorem ik(c:H p=none)(a:H dx=none):ah H (upd (upd H dx (.own p)) p (.ins C dx [])):=fun b o e=>by
 rw[ak (ar e c),ak (ar e a)];exact e
theorem dQ {as:List Addr}{i:Nat}{x:V}(h:(as.map V.ref)[i]?=some x):∃a,as[i]?=some a/\x=.ref a:=by
 rw[JG] at h
 obtain⟨a,e,z⟩:=K_.mp h
 exact⟨a,e,z.symm⟩
theorem C_{cs a:List (List cP×V)}(h:B_ H as cs)(g:B_ H bs a):B_ H (as++bs) (cs++a):=by
 induction h with
 |nil=>exact g
 |cons r _ ih=>exact .cons r ih
theorem B_.mono{cs:List (List cP×V)}(h:B_ H as cs)(s:∀b xs,H b=some (.tup xs)->H' b=some (.tup xs)):B_ H' as cs:=Paired.mapP h fun a c ⟨b,d,e⟩=>⟨b,s _ _ d,s _ _ e⟩
theorem F0(c:Ev ty σ H y)(b:Ev td σ H (.ref a))(g:iE H a y o):Ev (E7 ty td) σ H (.bl o.isSome):=fun _ q=>c _ (b _ ⟨a,o,rfl,g,q⟩)
def bQ (H a:Hp) (p:Addr):Prop:=∀b o,b≠p->H b=some o->a b=some o
theorem bQ.same(s:ah H H1)(n:H p=none)(b:bQ H1 H2 p):ah H H2:=fun a o e=>b a o (ar e n) (s a o e)
theorem bQ.st(b:bQ H H1 p)(s:ah H1 H2):bQ H H2 p:=fun a o n e=>s _ _ (b a o n e)
theorem bQ.up(b:bQ H H1 p):bQ H (upd H1 p o) p:=fun a u n e=>by rw[ak n];exact b a u n e
theorem bQ.of(s:ah H H1):bQ H H1 p:=fun a o _ e=>s _ _ e
theorem gz(h:bB H as cs):∀{i:Nat} {a:Addr},as[i]?=some a->∃c,cs[i]?=some c/\H a=some (.tup (c.map V.int)):=by
 induction h with
 |nil=>intro i a e;simp at e
 |cons r _ ih=>
  intro i a e
  cases i with
  |zero=>simp at e;subst e;exact⟨_,by simp,r⟩
  |succ i=>simp at e;obtain⟨p,h1,h2⟩:=ih e;exact⟨p,by simpa using h1,h2⟩
theorem cU(h:te σ H D.rt):zD te D σ H:=h
theorem dJ(s:ah H H')(n:H' t=none):H t=none:=by
 cases e:H t with
 |none=>rfl
 |some o=>rw[s _ _ e] at n;cases n
section
variable {K:Je} {σ σ0:St} {H H1:Hp} {D a:Addr} {g:TG} {tt:TT} {te t0:TE} {ta:TA} {n:Nat} {ix:List Nat} {as:List Addr} {cs:List T3}
theorem gh(c:H' D=some (.lst zs))(a:H' t=none):∀b xs,H' b=some (.tup xs)->upd (upd H' t o) D (.lst y) b=some (.tup xs):=fun b xs e=>by
 rw[ak (jL e c (fun z=>nomatch z)),ak (ar e a)];exact e
theorem fj(a:H' D=some (.lst zs)):∀b xs,H' b=some (.tup xs)->upd H' D (.lst y) b=some (.tup xs):=fun b xs e=>by
 rw[ak (jL e a (fun z=>nomatch z))];exact e
theorem fm(h:bB H as cs)(s:∀b xs,H b=some (.tup xs)->H' b=some (.tup xs)):bB H' as cs:=Paired.mapP h fun a c e=>s _ _ e
def E1 (H:Hp) (q:Addr) (x:T3×Int):Prop:=∃b,H q=some (.tup [.ref b,.int x.2])/\H b=some (.tup (x.1.map V.int))
theorem zo{xs:List (T3×Int)}(h:Paired (E1 H) qs xs)(s:∀b ys,H b=some (.tup ys)->H' b=some (.tup ys)):Paired (E1 H') qs xs:=Paired.mapP h fun _ _ ⟨b,a,c⟩=>⟨b,s _ _ a,s _ _ c⟩
theorem rF(f:T3->Bool)(v:T3->Int)(rest:List (Option V))(u:H1 D=none)(B:∀H',ah H1 H'->aH K H' a (as.map V.ref))(r:bB H1 as cs)(E:as.length<=1000)
  (z:∀b c H',c∈cs->H1 b=some (.tup (c.map V.int))->ah H1 H'->iU tt (some (.ref b)::rest) H' (f c)/\(f c=true->Ev tv (some (.ref b)::rest) H' (.int (v c))))
  (q:∀H' bs,ah H1 H'->H' D=some (.lst (bs.map V.ref))->Paired (E1 H') bs ((cs.filter f).map fun c=>(c,v c))->Q H'):sI (none::rest) (cT 0) tt (sJ (b_ (dE 0) (b_ tv eG))) (pM K a) H1 D Q:=by
 have len:as.length=cs.length:=Paired.length r
 have l:sizeLine=2^24:=rfl
 refine cm (K:=K) (xs:=as.map V.ref) (fun i o H'=>∃(p:Option V) (bs:List Addr),o=p::rest/\ah H1 H'/\H' D=some (.lst (bs.map V.ref))/\Paired (E1 H') bs (((cs.take i).filter f).map fun c=>(c,v c))/\bs.length<=i) ⟨none,[],rfl,(ah.refl H1).upd u,ae,.nil,Jg _⟩ (fun i o H' _ ⟨_,_,_,s,_⟩=>B _ s) ?_ ?_
 ·rintro i x o H' y ⟨p,bs,rfl,s,m,d,C⟩
  obtain⟨b,w,rfl⟩:=dQ y
  obtain⟨c,g,e⟩:=gz r w
  have hi:i<as.length:=(JE.mp w).1
  obtain⟨A,j⟩:=z b c H' (Jy g) e s
  refine gn (A _ ?_)
  cases hf:f c with
  |true=>
   refine zk ?_
   refine iI (vs:=[.ref b,.int (v c)]) (af (aa rfl) (af (j hf) ao)) (by show 2<=sizeLine;decide) fun t n=>?_
   have h:t≠D:=JH (ar m n)
   refine⟨bs.map V.ref,by rw[ak (JH h)];exact m,by rw[Jd];lia,_,bs++[t],rfl,bf (s.upd n) u,by rw[ae,Jl];rfl,?_,by rw[Js];show bs.length+1<=_;lia⟩
   rw[aT g,Kl,LF hf,Jl]
   exact kY (zo d (gh m n)) (.cons ⟨b,by rw[ak h,ae],gh m n _ _ (s _ _ e)⟩ .nil)
  |false=>
   refine gM ⟨_,bs,rfl,s,m,?_,by lia⟩
   rw[aT g,Kl,LG (by rw[hf];decide),List.filter_nil,JK]
   exact d
 ·rintro o H' ⟨p,bs,rfl,s,m,d,C⟩
  rw[Jd,len,JI] at d
  exact q H' bs s m d
end
theorem uz(P:V->Hp->Prop)(h:∀Q:VK,(∀v H1,P v H1->Q v H1)->te σ H Q)(q:∀v H1,P v H1->u D (σ.set n (some v)) H1):fG (mf te (cT n)) u D σ H:=h _ q
theorem v8(h:ta σ H fun xs H1=>xs.length<=sizeLine/\∀p,H1 p=none->D.rt (.ref p) (upd H1 p (.lst xs))):zD (ot ta) D σ H:=h
theorem A4 (i j:Int):(if j<i then j else i)=min i j:=by simp only[Int.min_def];split<;>split<;>lia
theorem Eg (i j:Int):(if j>i then j else i)=max i j:=by simp only[Int.max_def];split<;>split<;>lia
noncomputable def dW (i:Nat):Stmt:=PySem.Challenge.pw_wirefloor_k18_pages_laid_out_loosely.main.body.getD i (.Pass ⟨0,0,0,0⟩)
abbrev vj:Stmt:=dW 12
abbrev zj:Stmt:=dW 13
abbrev uU:Stmt:=dW 14
abbrev uM:Stmt:=dW 28
abbrev uV:Stmt:=dW 29
abbrev pX:Stmt:=dW 30
abbrev p6:Stmt:=dW 31
abbrev gE:Stmt:=dy (dW 32) 0
abbrev y4:Stmt:=dy (dW 32) 1
abbrev GT:Stmt:=dy (dW 32) 2
abbrev Aq:Stmt:=dy (dW 32) 3
abbrev yO:Stmt:=dy (dW 32) 4
abbrev vI:Stmt:=dy (dW 32) 5
abbrev D_:Stmt:=dW 45
abbrev vR:Stmt:=dW 46
abbrev jG:Stmt:=dy (dW 47) 0
abbrev gy:Stmt:=dy (dW 48) 0
abbrev x_:Stmt:=dy (dW 48) 1
abbrev gx:Stmt:=dy (dW 49) 0
abbrev BB:Stmt:=dy (dW 49) 1
abbrev Ef:Stmt:=dW 16
abbrev AE:Stmt:=dW 17
abbrev yh:Stmt:=dW 18
abbrev uE:Stmt:=dW 19
abbrev vP:Stmt:=dW 21
abbrev Ae:Stmt:=dW 22
abbrev qk:Stmt:=dW 23
abbrev vN:Stmt:=dy (dW 24) 0
abbrev mN:Stmt:=dy (dW 24) 1
abbrev GB:Stmt:=dW 34
abbrev Gz:Stmt:=dW 35
abbrev qp:Stmt:=dW 52
abbrev uT:Stmt:=dW 53
abbrev zq:Stmt:=dW 54
abbrev v7:Stmt:=dW 55
abbrev rg:Stmt:=dW 57
abbrev uA:Stmt:=dW 58
abbrev rP:Stmt:=dW 59
abbrev BD:Stmt:=dW 60
abbrev Ee:Stmt:=dW 61
abbrev Ec:Stmt:=dW 62
abbrev Ew:Stmt:=dW 63
abbrev A0:Stmt:=dW 64
abbrev vB:Stmt:=dW 65
abbrev vV:Stmt:=dW 66
abbrev u_:Stmt:=dW 67
abbrev vG:Stmt:=dW 68
abbrev Ek:Stmt:=dW 69
abbrev DQ:Stmt:=dW 71
abbrev u5:Stmt:=dW 72
abbrev Ea:Stmt:=dW 73
abbrev El:Stmt:=dW 74
abbrev DZ:Stmt:=dW 75
abbrev D7:Stmt:=dW 76
abbrev uq:Stmt:=dW 77
abbrev rT:Stmt:=dW 78
abbrev u3:Stmt:=dW 79
abbrev yp:Stmt:=dW 80
abbrev DO:Stmt:=dW 81
abbrev DY:Stmt:=dW 82
abbrev zC:Stmt:=dW 83
abbrev G3:Stmt:=dW 84
structure Txt (K:Je) (mg:Str->Option Value) (cThing cNet cBundle cFloor cBoard cMS:Addr):Prop where
 len_:mg "len" =none
 range_:mg "range" =none
 isinstance_:mg "isinstance" =none
 int_:mg "int" =none
 bool_:mg "bool" =none
 tuple_:mg "tuple" =none
 set_:mg "set" =none
 list_:mg "list" =none
 dict_:mg "dict" =none
 str_:mg "str" =none
 all_:mg "all" =none
 any_:mg "any" =none
 zip_:mg "zip" =none
 min_:mg "min" =none
 max_:mg "max" =none
 abs_:mg "abs" =none
 enumerate_:mg "enumerate" =none
 sorted_:mg "sorted" =none
 ValueError_:mg "ValueError" =none
 cl_Thing:jn K cThing
 mg_Thing:mg "Thing" =some (.ref cThing)
 cl_Net:jn K cNet
 mg_Net:mg "Net" =some (.ref cNet)
 na_Net_name:a_ K cNet "name"
 na_Net_half:a_ K cNet "half"
 na_Net_room:a_ K cNet "room"
 na_Net_pins:a_ K cNet "pins"
 cl_Bundle:jn K cBundle
 mg_Bundle:mg "Bundle" =some (.ref cBundle)
 na_Bundle_name:a_ K cBundle "name"
 na_Bundle_half:a_ K cBundle "half"
 na_Bundle_room:a_ K cBundle "room"
 na_Bundle_starts:a_ K cBundle "starts"
 na_Bundle_goals:a_ K cBundle "goals"
 cl_Floor:jn K cFloor
 mg_Floor:mg "Floor" =some (.ref cFloor)
 na_Floor_sizes:a_ K cFloor "sizes"
 na_Floor_prices:a_ K cFloor "prices"
 na_Floor_vias:a_ K cFloor "vias"
 na_Floor_rocks:a_ K cFloor "rocks"
 na_Floor_tolls:a_ K cFloor "tolls"
 cl_Board:jn K cBoard
 mg_Board:mg "Board" =some (.ref cBoard)
 na_Board_floor:a_ K cBoard "floor"
 na_Board_by_name:a_ K cBoard "by_name"
 g_MOST_PRICE:∃u,mg "MOST_PRICE" =some u/\aQ (.int 1000000000000) u
 g_LETTERS:∃u,mg "LETTERS" =some u/\aQ (.str (Str.ofString "abcdefghijklmnopqrstuvwxyz")) u
 g_FIGURES:∃u,mg "FIGURES" =some u/\aQ (.str (Str.ofString "0123456789")) u
 g_MOST_SIGNS:∃u,mg "MOST_SIGNS" =some u/\aQ (.int 12) u
 g_MOST_HALF:∃u,mg "MOST_HALF" =some u/\aQ (.int 2) u
 g_MOST_ROOM:∃u,mg "MOST_ROOM" =some u/\aQ (.int 3) u
 g_MOST_PINS:∃u,mg "MOST_PINS" =some u/\aQ (.int 6) u
 g_MOST_STARTS:∃u,mg "MOST_STARTS" =some u/\aQ (.int 6) u
 g_MOST_GOALS:∃u,mg "MOST_GOALS" =some u/\aQ (.int 12) u
 g_MOST_FIGURES:∃u,mg "MOST_FIGURES" =some u/\aQ (.int 18) u
 g_MOST_SIZES:∃u,mg "MOST_SIZES" =some u/\aQ (.ref cMS) u
 t_MOST_SIZES:∀H:Hp,cn K H cMS [.int 4,.int 16,.int 16]
 kll:JN K (.type "list") (.type "list")=some true
 ktl:JN K (.type "tuple") (.type "list")=some false
 ksl:JN K (.type "str") (.type "list")=some false
 kil:JN K (.type "int") (.type "list")=some false
 ktt:JN K (.type "tuple") (.type "tuple")=some true
 kst:JN K (.type "str") (.type "tuple")=some false
 kit:JN K (.type "int") (.type "tuple")=some false
 klt:JN K (.type "list") (.type "tuple")=some false
 kss:JN K (.type "str") (.type "str")=some true
 kis:JN K (.type "int") (.type "str")=some false
 kii:JN K (.type "int") (.type "int")=some true
 kib:JN K (.type "int") (.type "bool")=some false
 kNN:JN K (.ref cNet) (.ref cNet)=some true
 kBB:JN K (.ref cBundle) (.ref cBundle)=some true
 qN:JS K (.ref cNet) "__class__" =some (some (.builtin "object.__class__"))
 qB:JS K (.ref cBundle) "__class__" =some (some (.builtin "object.__class__"))
 qg:LU K (.builtin "object.__class__") "__get__" =some (some (.builtin "getset_descriptor.__get__"))
 qt:PySem.W.takesIn K (.builtin "object.__class__")=some true
 oN:PySem.W.mroIn K cNet (.type "object")=some true
 oB:PySem.W.mroIn K cBundle (.type "object")=some true
theorem tX (xs:List V)(k:Nat)(h:k<=xs.length):dU xs none (some (k:Int))=xs.take k:=by
 unfold dU
 rw[HT.sIx_none,HT.sIx_nat,Le h,List.drop_zero,Nat.sub_zero]
theorem oZ (xs:List V)(k:Nat)(h:k<=xs.length):dU xs (some (k:Int)) none=xs.drop k:=by
 unfold dU
 rw[HT.sIx_none,HT.sIx_nat,Le h,Ld (by rw[Ka];lia)]
theorem i5(h:ta σ H fun xs H1=>xs.length<=sizeLine/\∀p,H1 p=none->Q (.ref p) (upd H1 p (.lst xs))):ot ta σ H Q:=h
theorem dG{Q:List V->Hp->Prop}(h:Ev te σ H v)(q:tr σ H fun xs H2=>Q (v::xs) H2):b_ te tr σ H Q:=h _ q
theorem c8(h:∀R:VK,(∀v H1,u D (σ.set n (some v)) H1->R v H1)->te σ H R):fG (mf te (cT n)) u D σ H:=h _ fun _ _ z=>z
theorem kf(h:∀R:St->Hp->Prop,(∀σ H,u D σ H->R σ H)->t {D with nx:=R} σ H):fG t u D σ H:=h _ fun _ _ z=>z
theorem eO {X:St->Hp->Prop}{a σ':St}{H:Hp}(e:a=σ')(h:X σ' H):X a H:=e▸h
theorem b9(h:Ev te σ H v)(q:Q v H):te σ H Q:=h _ q
theorem aN{Q:List V->Hp->Prop}(h:te σ H fun x H1=>tr σ H1 fun xs H2=>Q (x::xs) H2):b_ te tr σ H Q:=h
theorem iH(h:iU tc σ H b)(q:Q b H):tc σ H Q:=h _ q
theorem zQ(h:aH K H a xs)(k:∀o,H a=some o->H' a=some o):aH K H' a xs:=by
 rcases h with (z|⟨o,z⟩)|z
 ·exact .inl (.inl (k _ z))
 ·exact .inl (.inr ⟨o,k _ z⟩)
 ·exact .inr z
theorem yX(h:Ev to σ H x)(a:Gc K T x H)(q:r x [] H Q):Gp K T r to σ H Q:=h _ ⟨a,q⟩
theorem fD(h:Ev to σ H x)(a:Gc K T x H)(q:ta σ H fun xs H2=>r x xs H2 Q):Hn K T r to ta σ H Q:=h _ ⟨a,q⟩
theorem yB(J:St->Hp->Prop)(h:∀R:St->Hp->Prop,(∀σ H,J σ H->R σ H)->t {D with nx:=R} σ H)(k:∀σ H,J σ H->u D σ H):fG t u D σ H:=h _ k
theorem fU(h:ko ta σ H vs)(q:r vs H Q):oC r ta σ H Q:=h _ q
theorem Am(h:te σ H fun x H1=>r [x] H1 Q):oC r (b_ te eG) σ H Q:=h
theorem cL(h:ta σ H fun vs H1=>sp (vs++[]) H1 Q E0):fH sp [] E0 ta σ H Q:=h
theorem vw(h:te σ H fun x H1=>∃a,x=.ref a/\(∃xs,aH K H1 a xs)/\fT (fun _ H R=>R (pM K a) H) g tb {D with nx:=u D} σ H1):fG (fT (lL K te) g tb) u D σ H:=h
theorem v5(b:Ev ta σ H (.str x))(a:x.length<=sizeLine):Ev (oC (fun xs H Q=>∃z:Str,xs=[.str z]/\z.length<=sizeLine/\Q (.int (z.length:Nat)) H) (b_ ta eG)) σ H (.int (x.length:Nat)):=fun _ q=>b _ ⟨x,rfl,a,q⟩
theorem vA(h:te σ H fun x H1=>∃a,x=.ref a/\(∃xs,aH K H1 a xs)/\fT (fun _ H R=>R (pM K a) H) g tb D σ H1):fT (lL K te) g tb D σ H:=h
theorem F5{ta:L2.TA}(h:ta σ H fun vs H1=>sp (vs++[]) H1 (fun v H2=>∃b,v=.bl b/\Q b H2) E0):tB (fH sp [] E0 ta) σ H Q:=h
theorem AM(b:Ev ta σ H (.ref l))(a:Ev tb σ H (.int i))(c:aH K H l xs)(q:∀p,H p=none->Q (.ref p) (upd H p (.lst (dU xs (some i) none)))):CS (oU K) ta (gf tb) gI σ H Q:=b _ (a _ ⟨i,rfl,l,_,rfl,c,q⟩)
theorem Fz(b:Ev ta σ H (.ref l))(a:Ev tb σ H (.int i))(c:aH K H l xs)(q:∀p,H p=none->Q (.ref p) (upd H p (.lst (dU xs none (some i))))):CS (oU K) ta gI (gf tb) σ H Q:=b _ (a _ ⟨i,rfl,l,_,rfl,c,q⟩)
theorem bO {a:Type}{l:List a}{x:a}(h:l[i]?=some x):i<l.length:=(JE.mp h).1
theorem fM(h:te σ H fun _ H1=>D.nx σ H1):uD te D σ H:=h
theorem yf(h:te σ H fun v H1=>∃b,v=.bl b/\Q b H1):jk te σ H Q:=h
theorem Df {ta:L2.TA}(h:ko ta σ H [.int i,.int j])(h1: -(2^62)<=i/\i<2^62/\ -(2^62)<=j/\j<2^62)(q:fT (fun _ H R=>R (wH i (j - i).toNat) H) g tb D σ H):fT (zJ ta) g tb D σ H:=h _ ⟨i,j,rfl,h1,q⟩
theorem G8(h:iU t σ H a)(e:a=false)(q:u σ H Q):Fs t u σ H Q:=Gq h e q
theorem FM(h:te σ H fun x H1=>∃j:Int,[x]=[.int j]/\ -(2^62)<=j/\j<2^62/\∀D,H1 D=none->sI (xC n ix σ) g tt te' (wH 0 j.toNat) H1 D fun H'=>u E (σ.set i (some (.ref D))) H'):fG (sS (rO (b_ te eG)) n ix g tt te' i) u E σ H:=h
theorem gr(h:te σ H fun _ H1=>u D σ H1):fG (uD te) u D σ H:=h
theorem bL {c d:Type}{R:c->d->Prop}{a:c}{b:d}(r:R a b){as:List c}{bs:List d}(h:Paired R as bs):Paired R (as++[a]) (bs++[b]):=kY h (.cons r .nil)
theorem aU {c d:Type}{R:c->d->Prop}{as:List c}{bs:List d}(h:Paired R as bs){i:Nat}{a:c}(e:as[i]?=some a):∃b,bs[i]?=some b/\R a b:=Aj h e
def dg (n:Nat):List Nat:=(Nat.toDigits 10 n).map Char.toNat
theorem fv(h:n<10):dg n=[48+n]:=by
 exact(show∀n<10,dg n=[48+n] by decide+kernel) n h
theorem i_(h:10<=n):dg n=dg (n/10)++[48+n%10]:=by
 have a:n%10<10:=Nat.mod_lt n (by decide)
 have t:Nat.toDigits 10 (n/10)++Nat.toDigits 10 (n%10)=Nat.toDigits 10 (10*(n/10)+n%10):=Nat.toDigits_append_toDigits (by decide) (by lia) a
 rw[Nat.div_add_mod] at t
 have e:=fv a
 unfold dg at e|-
 rw[<-t,Jl,e]
theorem kM (n:Nat):∀c∈dg n,48<=c/\c<=57:=by
 induction n using Nat.strongRecOn with
 |_ n ih=>
  by_cases h:n<10
  ·rw[fv h];intro c hc;rw[Jv.mp hc];omega
  ·rw[i_ (by omega)]
   intro c hc
   rcases Jz.mp hc with hc|hc
   ·exact ih (n/10) (by omega) c hc
   ·rw[Jv.mp hc];omega
theorem yV (n:Nat):dg n≠[]:=by
 by_cases h:n<10
 ·rw[fv h];simp
 ·rw[i_ (by lia)];simp
theorem Di(h:0<n):(dg n)[0]?≠some 48:=by
 induction n using Nat.strongRecOn with
 |_ n ih=>
  by_cases hn:n<10
  ·rw[fv hn];simp;lia
  ·rw[i_ (by lia)]
   have b:=yV (n/10)
   cases e:dg (n/10) with
   |nil=>exact absurd e b
   |cons a r=>
    have z:=ih (n/10) (by lia) (by lia)
    rw[e] at z
    simpa using z
theorem cW:∀{k n:Nat},1<=k->n<10^k->(dg n).length<=k
 |0,_,h,_=>absurd h (by decide)
 |k+1,n,_,h=>by
  by_cases hn:n<10
  ·rw[fv hn];simp
  ·rw[i_ (by lia),Js]
   have a:1<=k:=by
    rcases LO k with z|z
    ·subst z;lia
    ·exact z
   have:=cW (k:=k) (n:=n/10) a (by rw[Nat.pow_succ] at h;lia)
   simp only[JC,List.length_nil];lia
theorem nM:∀{k n:Nat},10^k<=n->k<(dg n).length
 |0,n,_=>by
  have:=yV n
  rcases LO (dg n).length with z|z
  ·exact absurd (LD z) this
  ·exact z
 |k+1,n,h=>by
  have a:10<=n:=by
   have:10^1<=10^(k+1):=Nat.pow_le_pow_right (by decide) (by lia)
   lia
  rw[i_ a,Js]
  have:=nM (k:=k) (n:=n/10) (by rw[Nat.pow_succ] at h;lia)
  simp only[JC,List.length_nil];lia
theorem FZ (n:Nat):NumText.digitsVal (dg n)=n:=PySem.W.KIN.val_back n
theorem EO (n:Nat):cp (toString ((n:Nat):Int))=dg n:=PySem.W.KIN.signs_num n
theorem F2 (x:String):cp (Str.ofString x)=x.toList.map Char.toNat:=PyProof.Rows.signs_ofString x
def E9 (l:List Nat):Prop:=l.length=0\/18<l.length\/(∃c∈l,¬(48<=c/\c<=57))\/(l[0]?=some 48/\1<l.length)
def xY (l:List Nat):Prop:=1<=l.length/\l.length<=18/\(∀c∈l,48<=c/\c<=57)/\(l[0]?=some 48->l.length=1)
theorem DA(h:n<10^18):xY (dg n):=by
 refine⟨?_,cW (by decide) h,kM n,fun e=>?_⟩
 ·have:=nM (k:=0) (n:=n)
  rcases LO n with z|z
  ·subst z;rw[fv (by decide)];simp
  ·have:=this (by lia);lia
 ·rcases LO n with z|z
  ·subst z;rw[fv (by decide)];rfl
  ·exact absurd e (Di z)
structure Pl (z:Str):Prop where
 as:z.cps.all (· <128)=true
 ln:z.length<=1000
theorem Pl.of(h:∀c∈cp z,c<128)(a:(cp z).length<=1000):Pl z:=⟨by rw[Array.all_eq_true];intro i hi;exact decide_eq_true (h _ (by simp[cp])),by rw[<-c9];exact a⟩
theorem Pl.sz(h:Pl z):z.length<=sizeLine:=Jn h.ln (by decide)
def iO:List Nat:=[48,49,50,51,52,53,54,55,56,57]
theorem Bc:cp (Str.ofString "0123456789")=iO:=by decide+kernel
theorem nk:c∈iO↔(48<=c/\c<=57):=by
 rw[show iO=List.range' 48 10 from rfl,List.mem_range'_1];lia
inductive j5 (vs:List V) (H:Hp) (Q:VK) (E:XK):Prop
 |mk (w:Str) (_:vs=[.str w]) (_:Pl w) (_:((xY (cp w)/\∀H',ah H H'->Q (.int (NumText.digitsVal (cp w):Nat)) H')\/(E9 (cp w)/\∀H',ah H H'->Q .non H')))
theorem HK {n:Nat}(h:n<10^20):((n:Int)).natAbs.log2<1920:=lg (by lia) (by lia)
noncomputable def nv (l:List Nat):V:= @ite _ (xY l) (Classical.propDecidable _) (.int (NumText.digitsVal l:Nat)) .non
theorem IE:Str.ofString "." =⟨#[46]⟩:=by decide+kernel
theorem F_ (n:Nat):46∉dg n:=fun h=>by have:=kM n 46 h;lia
theorem Au:∀{P:List (List Nat)},d∈jl c P->d=c\/∃p∈P,d∈p
 |[],h=>nomatch h
 |[p],h=> .inr ⟨p,Jp,h⟩
 |p::q::r,h=>by
  rw[eP (by simp)] at h
  rcases Jz.mp h with h|h
  ·exact .inr ⟨p,Jp,h⟩
  ·rcases Jo.mp h with h|h
   ·exact .inl h
   ·rcases Au h with h|⟨x,a,hd⟩
    ·exact .inl h
    ·exact .inr ⟨x,Jq _ a,hd⟩
noncomputable def jQ (c:Nat):List Nat->List (List Nat)
 |[]=>[[]]
 |a::r=>if a=c then []::jQ c r else (a::(jQ c r).headD [])::(jQ c r).tail
theorem pE (c:Nat)(l:List Nat):jQ c l≠[]:=by
 cases l with
 |nil=>simp[jQ]
 |cons a r=>unfold jQ;split<;>simp
theorem AI (c:Nat):∀l,jl c (jQ c l)=l
 |[]=>rfl
 |a::r=>by
  have f:=AI c r
  have d:=pE c r
  unfold jQ
  split
  ·rename_i h
   rw[eP d,f,h];rfl
  ·cases e:jQ c r with
   |nil=>exact absurd e d
   |cons p q=>
    rw[e] at f
    show jl c ((a::p)::q)=a::r
    rw[<-f]
    cases q with
    |nil=>rfl
    |cons b t=>rfl
theorem rj (c:Nat):∀l,∀p∈jQ c l,c∉p
 |[],p,h=>by rw[Jv.mp h];exact JM
 |a::r,p,h=>by
  have b:=rj c r
  have d:=pE c r
  unfold jQ at h
  split at h
  ·rcases Jo.mp h with rfl|h
   ·exact JM
   ·exact b p h
  ·rename_i hac
   cases e:jQ c r with
   |nil=>exact absurd e d
   |cons q t=>
    rw[e] at h b
    rcases Jo.mp h with rfl|h
    ·intro z
     rcases Jo.mp z with z|z
     ·exact hac z.symm
     ·exact b q Jp z
    ·exact b p (Jq _ h)
theorem oj (c:Nat)(y:List Nat):∀x,jQ c (x++c::y)=jQ c x++jQ c y
 |[]=>by show jQ c (c::y)=_;simp[jQ]
 |a::r=>by
  have d:=oj c y r
  have b:=pE c r
  rw[List.cons_append]
  simp only[jQ]
  by_cases h:a=c
  ·rw[if_pos h,if_pos h,d];rfl
  ·rw[if_neg h,if_neg h,d]
   cases e:jQ c r with
   |nil=>exact absurd e b
   |cons p q=>rfl
theorem iW:∀{x:List Nat},c∉x->jQ c x=[x]
 |[],_=>rfl
 |a::r,h=>by
  have b:=iW (x:=r) fun z=>h (Jq _ z)
  unfold jQ
  rw[if_neg fun z=>h (by rw[z];exact Jp),b];rfl
theorem qU (x:Str)(c:Nat):(Txt.split x ⟨#[c]⟩).map cp=jQ c (cp x):=qK x c (pE c _) (rj c _) (AI c _).symm
def l_ (p:List Nat):Bool:=!p.isEmpty
def wf (x:List Nat):List (List Nat):=(jQ 32 x).filter l_
theorem oH (x y:List Nat):wf (x++32::y)=wf x++wf y:=by unfold wf;rw[oj,Kl]
theorem EC:wf []=[]:=rfl
theorem AO(h:w≠[])(b:32∉w):wf w=[w]:=by
 unfold wf
 rw[iW b]
 cases w with
 |nil=>exact absurd rfl h
 |cons a r=>rfl
theorem lU:∀n,wf (List.replicate n 32)=[]
 |0=>rfl
 |n+1=>by
  rw[KD]
  have:=oH [] (List.replicate n 32)
  rw[EC,lU n] at this
  exact this
theorem Eb (x:List Nat)(n:Nat):wf (x++List.replicate n 32)=wf x:=by
 cases n with
 |zero=>simp
 |succ n=>rw[KD,oH,lU,JK]
theorem v9(h:w≠[])(a:32∉w)(n:Nat):wf (List.replicate n 32++w)=[w]:=by
 cases n with
 |zero=>exact AO h a
 |succ n=>
  have e:List.replicate (n+1) 32++w=List.replicate n 32++32::w:=by rw[List.replicate_succ'];simp
  rw[e,oH,lU,AO h a];rfl
theorem Do(h:w≠[])(a:32∉w)(x:List Nat)(n:Nat):wf (x++List.replicate (n+1) 32++w)=wf x++[w]:=by
 have e:x++List.replicate (n+1) 32++w=x++32::(List.replicate n 32++w):=by rw[KD];simp
 rw[e,oH,v9 h a]
theorem ue:StrLaws.At x ⟨#[c]⟩ x.length i↔(cp x)[i]?=some c:=StrLaws.subAt_one x c i
theorem BX(e:cp x=y++z)(h:c∉y)(hz:z=[]\/z.head?=some c):cp (Txt.partition x ⟨#[c]⟩).1=y:=by
 rcases PyProof.Rows.partition_head x ⟨#[c]⟩ with ⟨h1,h2⟩|⟨i,h1,h2,g⟩
 ·rw[h1,e]
  rcases hz with rfl|hz
  ·simp
  ·refine absurd (ue.mpr ?_) (h2 y.length)
   rw[e,Kq (Jg _),Nat.sub_self,<-List.head?_eq_getElem?,hz]
 ·have a:=ue.mp h2
  have b:∀k,k<i->(cp x)[k]?≠some c:=fun k d z=>g k d (ue.mpr z)
  have f:i=y.length:=by
   rcases Nat.lt_trichotomy i y.length with hl|hl|hl
   ·rw[e,K8 hl] at a
    exact absurd (Jy a) h
   ·exact hl
   ·rcases hz with rfl|hz
    ·rw[e,JK,LH (by lia)] at a;cases a
    ·refine absurd ?_ (b y.length hl)
     rw[e,Kq (Jg _),Nat.sub_self,<-List.head?_eq_getElem?,hz]
  rw[h1]
  show(x.cps.extract 0 i).toList=y
  rw[LJ,f]
  show((cp x).drop 0).take (y.length - 0)=y
  rw[e];simp
theorem nl:Str.ofString "\n" =⟨#[10]⟩:=by decide+kernel
theorem Iv:Str.ofString ";" =⟨#[59]⟩:=by decide+kernel
theorem Hj:Str.ofString " " =⟨#[32]⟩:=by decide+kernel
theorem yb:Str.ofString "" =⟨#[]⟩:=by decide+kernel
theorem kO:∀{a b:List Str},a.map cp=b.map cp->a=b
 |[],[],_=>rfl
 |[],_::_,h=>by cases h
 |_::_,[],h=>by cases h
 |x::r,y::t,h=>by
  obtain⟨h1,h2⟩:=List.cons.inj h
  rw[ur h1,kO h2]
theorem DR {b:Bool}{A B:Prop}(h1:b=true->A)(a:b=false->B):if b=true then A else B:=by
 cases b with
 |true=>rw[if_pos rfl];exact h1 rfl
 |false=>rw[if_neg Ju];exact a rfl
theorem zT:∀{P:List (List Nat)},P≠[]->(∀p∈P,c∉p)->jQ c (jl c P)=P
 |[],h,_=>absurd rfl h
 |[p],_,hf=>iW (hf p Jp)
 |p::q::r,_,hf=>by
  rw[eP (by simp),oj,iW (hf p Jp),zT (by simp) fun z a=>hf z (Jq _ a)]
  rfl
theorem Ih (c:Nat)(a b d:List Nat):jl c [a,b,d]=a++c::(b++c::d):=rfl
theorem pW(h:∀t∈ts,t.length<=1000)(d:z.length<=10)(e:ts.length<=1000):JoinOk z ts=true:=by
 have a:∀(l:List Str) (n:Nat),(∀t∈l,t.length<=1000)->l.foldl (· + ·.length+z.length) n<=n+1010*l.length:=by
  intro l
  induction l with
  |nil=>intro n _;simp
  |cons x r ih=>
   intro n b
   have h1:=b x Jp
   have h2:=ih (n+x.length+z.length) fun t c=>b t (Jq _ c)
   rw[J8,JC]
   lia
 unfold JoinOk
 have h1:=a ts 0 h
 rw[List.foldl_toArray]
 generalize ts.foldl (· + ·.length+z.length) 0=n at h1
 have h2:n<=1010000:=by lia
 unfold Builtin.Str.tooLong
 rw[Bool.not_eq_true',decide_eq_false_iff_not,sizeLine_eq]
 lia
theorem jS(h:ko ta σ H vs)(a:vs.length<=sizeLine)(b:∀H',ah H H'->Ev ti σ H' (.int i))(c:jW vs i=some v)(q:∀H',ah H H'->Q v H'):fZ (lD K) (ot ta) ti σ H Q:=h _ ⟨a,fun p np=>b _ ((ah.refl H).upd np) _ ⟨p,vs,i,v,rfl,rfl,aH.of ae,c,q _ ((ah.refl H).upd np)⟩⟩
theorem gD {a b:Type}{f:a->b}{l:List a}{i:Nat}{y:b}(h:(l.map f)[i]?=some y):∃x,l[i]?=some x/\y=f x:=by
 rw[JG] at h
 cases e:l[i]? with
 |none=>rw[e] at h;cases h
 |some z=>rw[e] at h;exact⟨z,rfl,(Option.some.inj h).symm⟩
theorem dD {H:Hp}{x y:Addr}{o:HO}(hx:H x=some o)(a:H y=none):x≠y:=fun z=>by rw[z,a] at hx;cases hx
theorem iD {H:Hp}{x y:Addr}{o p:HO}(hx:H x=some o)(a:H y=some p)(h:o≠p):x≠y:=fun z=>by rw[z,a] at hx;exact h (Option.some.inj hx).symm
theorem rN {A B:Prop}{b:Bool}(h1:b=true->A)(a:b=false->B):if b=true then A else B:=by cases b with|true=>exact zk (h1 rfl)|false=>exact gM (a rfl)
theorem eV (h:Ev ta σ H (.ref p))(e:H p=some (.lst xs)):Ev (oC (fun xs H Q=>∃x n,xs=[x]/\AF K x H n/\Q (.int n) H) (b_ ta eG)) σ H (.int (xs.length:Nat)):=cZ (af h ao) fun _ a=>⟨_,_,rfl,.inl ⟨_,aH.of e,rfl⟩,a⟩
theorem f_ (h:Ev ta σ H (.ref a))(e:H a=some (.ins C dx fs))(c:jn K C)(n:a_ K C f)(l:fs.lookup f=some v):Ev (wD K ta f) σ H v:=fun _ q=>h _ ⟨a,C,dx,fs,v,rfl,e,c,n,l,q⟩
theorem E_(h:cp x=cp y):x=y:=by
 have:=kO (a:=[x]) (b:=[y]) (by simp[h])
 exact(List.cons.inj this).1
theorem GV {a:Type}{x:a}{r:List a}:jW (x::r) 0=some x:=bI (j:=0) rfl
def L (s:String):List Nat:=s.toList.map Char.toNat
theorem Ff (s:String):cp (Str.ofString s)=L s:=F2 s
def xG (a:TT) (c:St) (H:Hp) (b:Bool):Prop:=∀H1,ah H H1->∀Q:Bool->Hp->Prop,(∀H2,ah H1 H2->Q b H2)->a c H1 Q
theorem Eu(h:∀H1,ah H H1->iU tc σ H1 b):xG tc σ H b:=fun H1 s Q q=>h H1 s Q (q H1 (ah.refl H1))
theorem GD(h1:xG t σ H a)(d:xG u σ H b):xG (Fs t u) σ H (a||b):=fun H1 s Q q=>h1 H1 s _ fun H2 c=>by
 cases a with
 |true=>exact zk (q H2 c)
 |false=>exact gM (d H2 (s.trans c) _ fun H3 e=>q H3 (c.trans e))
theorem tQ(h:∀H1,ah H H1->Ev ta σ H1 (.ref l))(e:H l=some (.lst xs)):xG (jk (fZ (C1 K false) ta (ot eG))) σ H xs.isEmpty:=fun H1 s Q q=>
 h H1 s _ ⟨(by show 0<=sizeLine;decide),fun p np=>⟨l,p,xs,rfl,rfl,aH.of (by rw[ak (dD (s _ _ e) np)];exact s _ _ e),aH.of ae,_,rfl,q _ ((ah.refl H1).upd np)⟩⟩
theorem iL(h:xG tc σ H b)(h1:b=true->∀H1,ah H H1->t D σ H1)(c:b=false->∀H1,ah H H1->u D σ H1):lJ tc t u D σ H:=h H (ah.refl H) _ fun H2 a=>rN (fun e=>h1 e H2 a) fun e=>c e H2 a
theorem EW(h:∀H1,ah H H1->Ev ta σ H1 (.ref l))(e:H l=some (.lst xs)):xG (jk (fZ (C1 K true) ta (ot eG))) σ H (!xs.isEmpty):=fun H1 s Q q=>
 h H1 s _ ⟨(by show 0<=sizeLine;decide),fun p np=>⟨l,p,xs,rfl,rfl,aH.of (by rw[ak (dD (s _ _ e) np)];exact s _ _ e),aH.of ae,_,rfl,q _ ((ah.refl H1).upd np)⟩⟩
theorem kJ(h:xG tc σ H b)(h1:b=true->∀H1,ah H H1->t {D with nx:=u D} σ H1)(a:b=false->∀H1,ah H H1->u D σ H1):fG (lJ tc t lX) u D σ H:=iL (D:={D with nx:=u D}) (u:=lX) h h1 a
theorem nw(h:upd H l o z=none):z≠l/\H z=none:=by
 by_cases e:z=l
 ·rw[e,ae] at h;cases h
 ·rw[ak e] at h;exact⟨e,h⟩
theorem FY(h:ta σ H fun x H1=>tb σ H1 fun y H2=>∃i,y=.int i/\∃a xs,x=.ref a/\aH K H2 a xs/\∀p,H2 p=none->Q (.ref p) (upd H2 p (.lst (dU xs none (some i))))):CS (oU K) ta gI (gf tb) σ H Q:=h
theorem gb(h:aH K H a xs)(s:ah H H'):aH K H' a xs:=zQ h fun _ e=>s _ _ e
theorem g_(s:ah H H')(e:H' z=none):H z=none:=by
 cases h:H z with
 |none=>rfl
 |some o=>rw[s _ _ h] at e;cases e
theorem zp {cs:List Int}{i:Nat}(h:i<cs.length):∃c,cs[i]?=some c/\jW (cs.map V.int) (i:Int)=some (.int c):=⟨cs[i],JL h,bI (by rw[JG,JL h];rfl)⟩
theorem F9(c:Ev ta σ H (.ref l))(a:Ev tb σ H (.int i))(b:Ev tc σ H (.int j))(d:aH K H l xs)(q:∀p,H p=none->Q (.ref p) (upd H p (.lst (dU xs (some i) (some j))))):CS (oU K) ta (gf tb) (gf tc) σ H Q:=c _ (a _ ⟨i,rfl,b _ ⟨j,rfl,l,xs,rfl,d,q⟩⟩)
theorem ye (ns:List Int)(b a:Option Int):∃cs:List Int,dU (ns.map V.int) b a=cs.map V.int/\cs.length<=ns.length:=⟨(ns.drop _).take _,by unfold dU;rw[KI,KJ],by rw[JB,Ka];omega⟩
theorem BS(h:ko ta σ H [.int i,.int j,.int k])(h1: -(2^60)<=i/\i<2^60/\ -(2^60)<=j/\j<2^60/\0<k/\k<1000000)(q:fT (fun _ H R=>R (xv i k (mr i j k)) H) g tb {D with nx:=u D} σ H):fG (fT (DS ta) g tb) u D σ H:=h _ ⟨i,j,k,rfl,h1,q⟩
def i6:List Nat:=cp (Str.ofString "abcdefghijklmnopqrstuvwxyz")
def Ab:List Nat:=cp (Str.ofString "0123456789")
noncomputable def mW:List Nat->Bool
 |[]=>false
 |c::r=>decide (r.length<=11)&&decide (c∈i6)&&r.all fun d=>decide (d∈i6)||decide (d∈Ab)
theorem jt (c:Nat)(r:List Nat):mW (c::r)=(decide (r.length<=11)&&decide (c∈i6)&&r.all fun d=>decide (d∈i6)||decide (d∈Ab)):=rfl
def Gh (x:Str):Prop:=x.cps.all (· <128)=true/\x.length<=1000
def mm (x:Str):Bool:=mW (cp x)
inductive yQ (vs:List V) (H:Hp) (Q:VK) (E:XK):Prop
 |mk (x:Str) (_:vs=[.str x]) (_:Gh x) (_:∀H',ah H H'->Q (.bl (mm x)) H')
def fS (d:Nat):Bool:=decide (d∈i6)||decide (d∈Ab)
theorem xJ(h:¬(1<=x.length/\x.length<=12)):mm x=false:=by
 unfold mm
 have a:=c9 x
 cases e:cp x with
 |nil=>rfl
 |cons c r=>
  rw[e,JC] at a
  rw[jt,decide_eq_false (by lia)]
  rfl
theorem pY(e:cp x=c::r)(h:x.length<=12):mm x=(decide (c∈i6)&&(cp x).all fS):=by
 have a:=c9 x
 rw[e,JC] at a
 unfold mm
 rw[e,jt,decide_eq_true (by lia),List.all_cons]
 show(true&&decide (c∈i6)&&r.all fS)=(decide (c∈i6)&&((decide (c∈i6)||decide (c∈Ab))&&r.all fS))
 cases decide (c∈i6)<;>simp
theorem kl {a:Type} [DecidableEq a]:∀{xs ys:List a},xs.Nodup->(∀x∈xs,x∈ys)->xs.length<=ys.length
 |[],_,_,_=>JA _
 |x::xs,ys,nd,h=>by
  rw[Ko] at nd
  have:=kl (ys:=ys.erase x) nd.2 fun y b=>(List.mem_erase_of_ne (fun z=>nd.1 (by rw[<-z];exact b))).mpr (h y (Jq _ b))
  have e:=List.length_erase_of_mem (h x Jp)
  have p:0<ys.length:=List.length_pos_of_mem (h x Jp)
  rw[JC]
  lia
theorem eK {a:Nat}(h:a<16):hashInt (a:Int)=a:=by
 have:∀a<16,hashInt ((a:Nat):Int)=a:=by decide+kernel
 exact this a h
theorem CO(x:List Int):tupleKeyHash (aY P w) (iK x)=reduceHash (Builtin.Tuple.tupleHashOf (x.map hashInt)):=by
 unfold tupleKeyHash iK
 rw[Jt]
 rfl
theorem yd (l r c:Nat)(f:r<16)(e:c<16):Ey (256*l+16*r+c)=reduceHash (Builtin.Tuple.tupleHashOf [(l:Int),(r:Int),(c:Int)]):=by
 have a:(256*l+16*r+c)/256=l:=by omega
 have d:(256*l+16*r+c)/16%16=r:=by omega
 have b:(256*l+16*r+c)%16=c:=by omega
 unfold Ey
 rw[a,d,b]
theorem He(l r c:Nat)(d:l<16)(b:r<16)(a:c<16):tupleKeyHash (aY P w) (iK [(l:Int),(r:Int),(c:Int)])=Ey (256*l+16*r+c):=by
 rw[CO,yd l r c b a,Jr,Jr,Jr,KR,eK d,eK b,eK a]
abbrev P3:=Nat×Nat×Nat
def t3 (p:P3):T3:=[(p.1:Int),(p.2.1:Int),(p.2.2:Int)]
theorem jz(h:t3 p=t3 q):p=q:=by
 obtain⟨a,b,c⟩:=p
 obtain⟨d,e,f⟩:=q
 unfold t3 at h
 simp only[List.cons.injEq,and_true] at h
 obtain⟨h1,h2,g⟩:=h
 have h1:a=d:=Int.ofNat.inj h1
 have h2:b=e:=Int.ofNat.inj h2
 have g:c=f:=Int.ofNat.inj g
 rw[h1,h2,g]
abbrev A3 (H:Hp) (a:Addr) (p:P3):Prop:=H a=some (.tup ((t3 p).map V.int))
def AL (H:Hp) (l:Addr) (ps:List P3):Prop:=∃as:List Addr,H l=some (.lst (as.map V.ref))/\bB H as (ps.map t3)
theorem AL.same(h:AL H l ps)(s:ah H H'):AL H' l ps:=by
 obtain⟨as,h1,h2⟩:=h
 exact⟨as,s _ _ h1,bB.same h2 s⟩
def In (z p:P3):Prop:=p.1<z.1/\p.2.1<z.2.1/\p.2.2<z.2.2
instance (z p : P3) : Decidable (In z p) := by unfold In; infer_instance
def Sz (z:P3):Prop:=(1<=z.1/\z.1<=3)/\(1<=z.2.1/\z.2.1<=5)/\(1<=z.2.2/\z.2.2<=7)
def ss (l:List Nat):Str:=⟨l.toArray⟩
theorem dF (l:List Nat):cp (ss l)=l:=by unfold ss cp;simp
theorem D9 (x:Str):ss (cp x)=x:=E_ (dF _)
theorem qu(h:cp x=l):x=ss l:=by rw[<-h,D9]
def eN (p:P3):List Nat:=jl 46 [dg p.1,dg p.2.1,dg p.2.2]
def sv (w:List Nat):V:=.str (ss w)
abbrev WL (H:Hp) (l:Addr) (ws:List (List Nat)):Prop:=H l=some (.lst (ws.map sv))
inductive Rw
 |floor (z:P3)
 |layer (a b:Nat)
 |via (a:Nat)
 |rock (cs:List P3)
 |toll (p:Nat) (cs:List P3)
 |net (x:List Nat) (cs:List P3)
 |bun (x:List Nat) (cs ds:List P3)
noncomputable def kd:Rw->Nat
 | .floor _=>0
 | .layer _ _=>1
 | .via _=>2
 | .rock _=>3
 | .toll _ _=>4
 | .net _ _=>5
 | .bun _ _ _=>6
noncomputable def kS (k:Nat):Str:=if k=0 then Str.ofString "floor" else if k=1 then Str.ofString "layer" else if k=2 then Str.ofString "via" else if k=3 then Str.ofString "rock" else if k=4 then Str.ofString "toll" else if k=5 then Str.ofString "net" else Str.ofString "bundle"
theorem zm:∀k,k<=6->∀j,j<=6->decide (kS k=kS j)=decide (k=j):=by decide+kernel
theorem qc (r:Rw):kd r<=6:=by cases r<;>simp[kd]
noncomputable def mz:Rw->List (List Nat)
 | .floor z=>[dg z.1,dg z.2.1,dg z.2.2]
 | .layer a b=>[dg a,dg b]
 | .via a=>[dg a]
 | .rock cs=>cs.map eN
 | .toll p cs=>dg p::cs.map eN
 | .net x cs=>x::[48]::[48]::cs.map eN
 | .bun x cs ds=>x::[48]::(cs.map eN++L "to" ::ds.map eN)
def iM (r:Rw):List (List Nat):=cp (kS (kd r))::mz r
def Sm (ps:List P3):Prop:=∀p∈ps,p.1<8/\p.2.1<8/\p.2.2<8
noncomputable def iG:Rw->Prop
 | .floor z=>Sz z
 | .layer a b=>a<10^14/\b<10^14
 | .via a=>a<10^14
 | .rock cs=>Sm cs/\(cs.length=1\/cs.length=2)
 | .toll p cs=>p<=1000000000000/\Sm cs/\(cs.length=1\/cs.length=2)
 | .net x cs=>Sm cs/\cs.length<=6/\mW x=true/\x.length<=9
 | .bun x cs ds=>Sm cs/\Sm ds/\cs.length+ds.length<=6/\mW x=true/\x.length<=9
def hd (cs:List P3):P3:=cs.headD (0,0,0)
def ls (cs:List P3):P3:=cs.getLastD (0,0,0)
noncomputable def Pt (A:Addr->Prop) (H:Hp) (v:V):Rw->Prop
 | .floor z=>∃t,v=.ref t/\A3 H t z
 | .layer a b=>∃t,v=.ref t/\H t=some (.tup [.int (a:Nat),.int (b:Nat)])
 | .via a=>∃t,v=.ref t/\H t=some (.tup [.int (a:Nat)])
 | .rock cs=>∃t a b,v=.ref t/\H t=some (.tup [.ref a,.ref b])/\A3 H a (hd cs)/\A3 H b (ls cs)
 | .toll p cs=>∃t a b,v=.ref t/\H t=some (.tup [.int (p:Nat),.ref a,.ref b])/\A3 H a (hd cs)/\A3 H b (ls cs)
 | .net x cs=>∃t l,v=.ref t/\H t=some (.tup [sv x,.int 0,.int 0,.ref l])/\AL H l cs/\A l
 | .bun x cs ds=>∃t l m,v=.ref t/\H t=some (.tup [sv x,.int 0,.ref l,.ref m])/\AL H l cs/\AL H m ds/\A l/\A m
theorem Pt.up {A B:Addr->Prop}(h:Pt A H v r)(s:∀b xs,H b=some (.tup xs)->H' b=some (.tup xs))(u:∀b xs,A b->H b=some (.lst xs)->H' b=some (.lst xs))(i:∀b xs,A b->H b=some (.lst xs)->B b):Pt B H' v r:=by
 have al:∀{l cs},AL H l cs->A l->AL H' l cs/\B l:=fun⟨as,h1,h2⟩ a=>⟨⟨as,u _ _ a h1,Paired.mapP h2 fun _ _ e=>s _ _ e⟩,i _ _ a h1⟩
 cases r with
 |floor z=>obtain⟨t,e,h⟩:=h;exact⟨t,e,s _ _ h⟩
 |layer a b=>obtain⟨t,e,h⟩:=h;exact⟨t,e,s _ _ h⟩
 |via a=>obtain⟨t,e,h⟩:=h;exact⟨t,e,s _ _ h⟩
 |rock cs=>obtain⟨t,a,b,e,h,h1,h2⟩:=h;exact⟨t,a,b,e,s _ _ h,s _ _ h1,s _ _ h2⟩
 |toll p cs=>obtain⟨t,a,b,e,h,h1,h2⟩:=h;exact⟨t,a,b,e,s _ _ h,s _ _ h1,s _ _ h2⟩
 |net x cs=>obtain⟨t,l,e,h,h1,h2⟩:=h;exact⟨t,l,e,s _ _ h,al h1 h2⟩
 |bun x cs ds=>obtain⟨t,l,m,e,h,h1,h2,c,d⟩:=h;exact⟨t,l,m,e,s _ _ h,(al h1 c).1,(al h2 d).1,(al h1 c).2,(al h2 d).2⟩
theorem Pt.same {A:Addr->Prop}(h:Pt A H v r)(s:ah H H'):Pt A H' v r:=h.up (fun _ _ e=>s _ _ e) (fun _ _ _ e=>s _ _ e) fun _ _ a _=>a
def TD (A:Addr->Prop) (H:Hp) (v:V) (r:Rw):Prop:=∃t u,v=.ref t/\H t=some (.tup [.str (kS (kd r)),u])/\Pt A H u r
theorem TD.up {A B:Addr->Prop}(h:TD A H v r)(s:∀b xs,H b=some (.tup xs)->H' b=some (.tup xs))(u:∀b xs,A b->H b=some (.lst xs)->H' b=some (.lst xs))(i:∀b xs,A b->H b=some (.lst xs)->B b):TD B H' v r:=by
 obtain⟨t,w,e,h1,h2⟩:=h
 exact⟨t,w,e,s _ _ h1,h2.up s u i⟩
theorem TD.same {A:Addr->Prop}(h:TD A H v r)(s:ah H H'):TD A H' v r:=h.up (fun _ _ e=>s _ _ e) (fun _ _ _ e=>s _ _ e) fun _ _ a _=>a
inductive rQ (vs:List V) (H:Hp) (Q:VK) (E:XK):Prop
 |mk (p:P3) (_:vs=[sv (eN p)]) (_:(p.1<16/\p.2.1<16/\p.2.2<16)) (_:∀t H',ah H H'->A3 H' t p->Q (.ref t) H')
inductive gc (K:Je) (vs:List V) (H:Hp) (Q:VK) (E:XK):Prop
 |mk (l:Addr) (ns:List Nat) (k:Int) (_:vs=[.ref l,.int k]) (_:WL H l (ns.map dg)) (_:(∀n∈ns,n<10^18)) (_:k=ns.length) (_:ns.length<=10) (_:∀t H',ah H H'->H' t=some (.tup (ns.map fun n=> .int (n:Nat)))->Q (.ref t) H')
inductive iX (K:Je) (vs:List V) (H:Hp) (Q:VK) (E:XK):Prop
 |mk (l:Addr) (ps:List P3) (_:vs=[.ref l]) (_:WL H l (ps.map eN)) (_:Sm ps) (_:ps.length<=12) (_:∀p H',ah H H'->H p=none->AL H' p ps->Q (.ref p) H')
inductive jH (vs:List V) (H:Hp) (Q:VK) (E:XK):Prop
 |mk (l:Addr) (ps:List P3) (_:vs=[.ref l]) (_:WL H l (ps.map eN)) (_:Sm ps) (_:(ps.length=1\/ps.length=2)) (_:∀v H',ah H H'->Pt (fun l=>H l=none) H' v (.rock ps)->Q v H')
inductive FO (f:Rw->Bool) (vs:List V) (H:Hp) (Q:VK) (E:XK):Prop
 |mk (l:Addr) (r:Rw) (_:vs=[.ref l]) (_:f r=true) (_:WL H l (mz r)) (_:iG r) (_:∀v H',ah H H'->Pt (fun l=>H l=none) H' v r->v≠.non->Q v H')
def ux:Sp:=FO fun r=>decide (kd r=4)
def zN:Sp:=FO fun r=>decide (kd r=5)
def Ac:Sp:=FO fun r=>decide (kd r=6)
inductive zu (vs:List V) (H:Hp) (Q:VK) (E:XK):Prop
 |mk (l:Addr) (r:Rw) (_:vs=[.str (kS (kd r)),.ref l]) (_:WL H l (mz r)) (_:iG r) (_:∀v H',ah H H'->Pt (fun l=>H l=none) H' v r->v≠.non->Q v H')
inductive sR (K:Je) (vs:List V) (H:Hp) (Q:VK) (E:XK):Prop
 |mk (a:Addr) (ns:List Int) (i:Int) (_:vs=[.ref a,.int i]) (_:aH K H a (ns.map V.int)) (_:0<=i) (_:∀v:Int,Q (.int v) H)
inductive oX (vs:List V) (H:Hp) (Q:VK) (E:XK):Prop
 |mk (t:Addr) (p:P3) (_:vs=[.ref t]) (_:(p.1<16/\p.2.1<16/\p.2.2<16)) (_:(A3 H t p\/H t=some (.lst ((t3 p).map V.int)))) (_:∀H',ah H H'->Q (sv (eN p)) H')
inductive A7 (vs:List V) (H:Hp) (Q:VK) (E:XK):Prop
 |mk (m:Int) (_:vs=[.int m]) (_:∀k:Int,0<=k->k<2147483647->Q (.int k) H)
def mR (a:List Str) (x:Str):Prop:=∃y z,cp x=y++z/\wf y=a.map cp/\59∉y/\(z=[]\/z.head?=some 59)/\(∀c∈cp x,c≠10/\c<128)/\(cp x).length<=100
noncomputable def g9 (W:List (List Str)):List (List Str×Nat):=W.zipIdx.filter fun p=>!p.1.isEmpty
theorem wN (W:List (List Str))(a:List Str):g9 (W++[a])=g9 W++(if a.isEmpty then [] else [(a,W.length)]):=by
 unfold g9
 rw[List.zipIdx_append,Kl]
 congr 1
 cases a<;>simp
def DP (H:Hp) (c:List Addr) (p:List Str×Nat) (v:V):Prop:=∃a b,v=.ref a/\H a=some (.tup [.int ((p.2+1:Nat):Int),.ref b])/\H b=some (.lst (p.1.map V.str))/\b∉c
def eT (H:Hp) (a:List Addr) (ps:List (List Str×Nat)) (vs:List V):Prop:=vs.length=ps.length/\∀(i:Nat) p,ps[i]?=some p->∃v,vs[i]?=some v/\DP H a p v
inductive mG (vs:List V) (H:Hp) (Q:VK) (E:XK):Prop
 |mk (x:Str) (ws:List Str) (_:vs=[.str x]) (_:mR ws x) (_:∀l H',ah H H'->H l=none->H' l=some (.lst (ws.map V.str))->Q (.ref l) H')
inductive p7 (vs:List V) (H:Hp) (Q:VK) (E:XK):Prop
 |mk (x:Str) (rs:List (List Str×Str)) (_:vs=[.str x]) (_:rs≠[]) (_:rs.length<=100) (_:cp x=jl 10 (rs.map fun p=>cp p.2)) (_:(∀p∈rs,mR p.1 p.2)) (_:(cp x).length<=20000) (_:∀l vs H',ah H H'->H' l=some (.lst vs)->eT H' [l] (g9 (rs.map (·.1))) vs->Q (.ref l) H')
theorem eT.nil (H:Hp)(a:List Addr):eT H a [] []:=⟨rfl,fun i p h=>by cases h⟩
theorem eT.kept{ps:List (List Str×Nat)}(h:eT H av ps vs)(k:∀b o,b∉av->H b=some o->H' b=some o)(l:∀b xs,H b=some (.tup xs)->H' b=some (.tup xs))(f:∀b o,H b=some o->b∉av->b∉av'):eT H' av' ps vs:=
 ⟨h.1,fun i p e=>by
  obtain⟨v,j,a,b,rfl,g,d,c⟩:=h.2 i p e
  exact⟨_,j,a,b,rfl,l _ _ g,k _ _ c d,f _ _ d c⟩⟩
theorem eT.snoc{ps:List (List Str×Nat)}{p:List Str×Nat}(h:eT H av ps vs)(d:DP H av p v):eT H av (ps++[p]) (vs++[v]):=
 ⟨by rw[Js,Js,h.1];rfl,fun i q e=>by
  by_cases hi:i<ps.length
  ·rw[K8 hi] at e
   obtain⟨u,b,c⟩:=h.2 i q e
   exact⟨u,by rw[K8 (by rw[h.1];exact hi)];exact b,c⟩
  ·have f:=e
   rw[Kq (by lia)] at e
   have a:i - ps.length=0:=by
    rcases LO (i - ps.length) with z|z
    ·exact z
    ·rw[LH (by show 1<=_;exact z)] at e;cases e
   rw[a] at e
   cases e
   exact⟨v,by rw[Kq (by rw[h.1];lia),h.1,a];rfl,d⟩⟩
theorem ua(h:(cp x).length+(cp y).length<=1000):x.length+y.length<=sizeLine:=by
 rw[c9,c9] at h;exact Ky (eL h)
def Cl (y:List Nat):Prop:=∀d∈y,d<128/\d≠59/\d≠10
theorem Cl.app(a:Cl x)(b:Cl y):Cl (x++y):=fun d hd=>(Jz.mp hd).elim (a d) (b d)
theorem Cl.rep (n:Nat):Cl (List.replicate n 32):=fun d hd=>by rw[(List.mem_replicate.mp hd).2];decide
theorem Cl.no(h:Cl y):59∉y:=fun z=>(h 59 z).2.1 rfl
theorem mR.plain(h:wf (cp y)=ws.map cp)(c:Cl (cp y))(a:(cp y).length<=100):mR ws y:=⟨cp y,[],by simp,h,c.no,.inl rfl,fun d hd=>⟨(c d hd).2.2,(c d hd).1⟩,a⟩
theorem mR.tail(e:cp x=y++59::z)(h:wf y=ws.map cp)(c:Cl y)(a:∀d∈z,d≠10/\d<128)(b:(cp x).length<=100):mR ws x:=
 ⟨y,59::z,e,h,c.no,.inr rfl,fun d hd=>by
  rw[e] at hd
  rcases Jz.mp hd with hd|hd
  ·exact⟨(c d hd).2.2,(c d hd).1⟩
  ·rcases Jo.mp hd with rfl|hd
   ·decide
   ·exact a d hd,b⟩
theorem Dk:l_ (cp (Str.ofString ""))=false:=by rw[yb];rfl
theorem zY(h:s≠Str.ofString ""):l_ (cp s)=true:=by
 cases e:cp s with
 |nil=>exact absurd (ur (by rw[e,yb])) h
 |cons a r=>rfl
theorem yy {W:List (List Str)}(h:W[i]?=some ws):(W.take (i+1)).zipIdx=(W.take i).zipIdx++[(ws,i)]:=by
 have hi:i<W.length:=(JE.mp h).1
 rw[KY,h,List.zipIdx_append,JB,Le (by lia)]
 simp
theorem mZ {W:List (List Str)}(h:W[i]?=some ws):g9 (W.take (i+1))=g9 (W.take i)++(if ws.isEmpty then [] else [(ws,i)]):=by
 have hi:i<W.length:=(JE.mp h).1
 rw[KY,h]
 show g9 (W.take i++[ws])=_
 rw[wN,JB,Le (by omega)]
theorem eT.more{ps:List (List Str×Nat)}(h:eT H [D] ps vs)(m:H D=some (.lst us))(g:ah H H6)(d:H6 tp=none)(l:H6 wl=some (.lst (ws.map V.str)))(f:wl≠D)(p:n=((i+1:Nat):Int)){o:HO}:
  eT (upd (upd H6 tp (.tup [.int n,.ref wl])) D o) [D] (ps++[(ws,i)]) (vs++[.ref tp]):=by
 have a:tp≠D:=fun z=>by rw[z,g _ _ m] at d;cases d
 have c:wl≠tp:=fun z=>by rw[z,d] at l;cases l
 have up:∀b u,b≠D->H6 b=some u->upd (upd H6 tp (.tup [.int n,.ref wl])) D o b=some u:=fun b u j e=>by rw[ak j,ak (ar e d)];exact e
 refine(h.kept (fun b u j e=>up b u (fun z=>j (by simp[z])) (g _ _ e)) (fun b xs e=>up b _ (fun z=>by rw[z,m] at e;cases e) (g _ _ e)) (fun _ _ _ z=>z)).snoc ⟨tp,wl,rfl,?_,up _ _ f l,by simpa using f⟩
 rw[ak a,ae,p]
theorem AV:∀{P:List (List Nat)},(∀p∈P,p.length<=100)->(jl c P).length<=101*P.length
 |[],_=>by show 0<=_;exact JA _
 |[p],h=>by have:=h p Jp;show p.length<=101*1;lia
 |p::q::r,h=>by
  have h1:=h p Jp
  have h2:=AV (c:=c) (P:=q::r) fun x a=>h x (Jq _ a)
  rw[eP (by simp),Js,JC]
  simp only[JC] at h2|-
  lia
theorem mR.len(h:mR ws x):x.length<=1000:=by
 obtain⟨_,_,_,_,_,_,_,h⟩:=h
 rw[c9] at h;lia
theorem Cw (W:List (List Str)):(g9 W).length<=W.length:=by
 have h:=LP (fun p:List Str×Nat=>!p.1.isEmpty) W.zipIdx
 rw[List.length_zipIdx] at h
 exact h
theorem l1:cp (Str.ofString " ")=[32]:=by decide+kernel
theorem tV:∀n:Nat,(List.replicate n (cp (Str.ofString " "))).flatten=List.replicate n 32
 |0=>rfl
 |n+1=>by rw[KD,Lz,tV n,l1,KD];rfl
def EH (a:List (List Nat)):Prop:=(∀w∈a,w≠[]/\∀c∈w,33<=c/\c<128/\c≠59)/\(a.map fun w=>w.length+3).sum<=80
inductive vD (vs:List V) (H:Hp) (Q:VK) (E:XK):Prop
 |mk (l:Addr) (ws:List (List Nat)) (m:Int) (_:vs=[.ref l,.int m]) (_:0<=m) (_:WL H l ws) (_:EH ws) (_:∀x H',ah H H'->mR (ws.map ss) x->Q (.str x) H')
def RA (H:Hp) (v:V) (r:Rw):Prop:=∃a,v=.ref a/\WL H a (iM r)
def QL (H:Hp) (v:V) (b:List Rw):Prop:=∃a vs,v=.ref a/\H a=some (.lst vs)/\Paired (RA H) vs b
def QA (H:Hp) (l:Addr) (a:List (List Rw)):Prop:=∃vs,H l=some (.lst vs)/\Paired (QL H) vs a
noncomputable def fk (k:Nat) (W:List Rw):List Rw:=W.filter fun r=>decide (kd r=k)
def kq (r:Rw):Nat:=min (kd r) 5
noncomputable def fq (k:Nat) (W:List Rw):List Rw:=W.filter fun r=>decide (kq r=k)
def qG (c:List (List Rw)):Prop:=c.Pairwise fun a b=>∀r∈a,∀s∈b,kq r≠kq s
def CU (x:Str) (W:List Rw):Prop:=∃a:List (List Str×Str),a≠[]/\a.length<=100/\cp x=jl 10 (a.map fun p=>cp p.2)/\(∀p∈a,mR p.1 p.2)/\(cp x).length<=20000/\(a.map (·.1)).filter (fun b=>!b.isEmpty)=W.map fun r=>(iM r).map ss
inductive AH (vs:List V) (H:Hp) (Q:VK) (E:XK):Prop
 |mk (l:Addr) (m:Int) (z:P3) (qs:List (List Rw)) (_:vs=[.ref l,.int m]) (_:0<=m) (_:QA H l ([.floor z]::qs)) (_:Sz z) (_:(∀q∈qs,∀r∈q,iG r/\kd r≠0)) (_:qG qs) (_:(qs.map fun q=>q.length+1).sum<=40) (_:∀x W H',ah H H'->CU x (.floor z::W)->(∀k,fq k W=fq k qs.flatten)->(∀r∈W,iG r/\kd r≠0)->Q (.str x) H')
inductive vU (vs:List V) (H:Hp) (Q:VK) (E:XK):Prop
 |mk (x:Str) (z:P3) (W:List Rw) (_:vs=[.str x]) (_:CU x (.floor z::W)) (_:Sz z) (_:(∀r∈W,iG r/\kd r≠0)) (_:∀l us H',ah H H'->H' l=some (.lst us)->Paired (TD (fun _=>True) H') us (.floor z::W)->Q (.ref l) H')
inductive qR (vs:List V) (H:Hp) (Q:VK) (E:XK):Prop
 |mk (l:Addr) (us:List V) (W:List Rw) (k:Nat) (_:vs=[.ref l,.str (kS k)]) (_:k<=6) (_:H l=some (.lst us)) (_:Paired (TD (fun _=>True) H) us W) (_:us.length<=1000) (_:∀p ws H',ah H H'->H p=none->H' p=some (.lst ws)->Paired (Pt (fun _=>True) H') ws (fk k W)->Q (.ref p) H')
noncomputable def iu (a b:Nat):List Nat:=List.range' (min a b) (max a b - min a b+1)
theorem pf (a b:Nat):(iu a b).length=max a b - min a b+1:=by unfold iu;simp
theorem ow(h:x∈iu a b):min a b<=x/\x<=max a b:=by
 unfold iu at h
 rw[List.mem_range'_1] at h
 lia
noncomputable def om (f s:P3) (a b:Nat):List P3:=(iu f.2.2 s.2.2).map fun c=>(a,b,c)
noncomputable def rC (f s:P3) (a:Nat):List P3:=(iu f.2.1 s.2.1).flatMap fun b=>om f s a b
noncomputable def bx (f s:P3):List P3:=(iu f.1 s.1).flatMap fun a=>rC f s a
theorem EV(h:p∈bx f s):(min f.1 s.1<=p.1/\p.1<=max f.1 s.1)/\(min f.2.1 s.2.1<=p.2.1/\p.2.1<=max f.2.1 s.2.1)/\(min f.2.2 s.2.2<=p.2.2/\p.2.2<=max f.2.2 s.2.2):=by
 unfold bx at h
 obtain⟨x,b,h⟩:=List.mem_flatMap.mp h
 obtain⟨y,c,h⟩:=List.mem_flatMap.mp h
 obtain⟨z,a,rfl⟩:=Jk.mp h
 exact⟨ow b,ow c,ow a⟩
theorem Gj(h:p∈bx f s)(a:In z f)(b:In z s):In z p:=by
 have:=EV h
 unfold In at*
 lia
abbrev Kv:=List (List cP×V)
def kK (m:V) (kvs:Kv) (p:P3):Kv:=dY kvs (iK (t3 p)) m
noncomputable def CP (kvs:Kv) (b:V×P3×P3):Kv:=(bx b.2.1 b.2.2).foldl (kK b.1) kvs
def mk (bs:List (V×P3×P3)):Kv:=bs.foldl CP []
def eo (p:P3):Prop:=p.1<8/\p.2.1<8/\p.2.2<8
inductive D5 (vs:List V) (H:Hp) (Q:VK) (E:XK):Prop
 |mk (a b:Nat) (_:vs=[.int (a:Nat),.int (b:Nat)]) (_:a<8) (_:b<8) (_:∀l H',ah H H'->H l=none->H' l=some (.lst ((iu a b).map fun n=> .int (n:Nat)))->Q (.ref l) H')
inductive Be (vs:List V) (H:Hp) (Q:VK) (E:XK):Prop
 |mk (b c:Addr) (f s:P3) (_:vs=[.ref b,.ref c]) (_:A3 H b f) (_:A3 H c s) (_:eo f) (_:eo s) (_:∀l H',ah H H'->H l=none->AL H' l (bx f s)->Q (.ref l) H')
def y7:Sp:=Be
def MB (H:Hp) (v:V) (b:V×P3×P3):Prop:=∃t x y,v=.ref t/\H t=some (.tup [b.1,.ref x,.ref y])/\A3 H x b.2.1/\A3 H y b.2.2
theorem MB.same(h:MB H v b)(s:ah H H'):MB H' v b:=by
 obtain⟨t,x,y,e,h1,h2,a⟩:=h
 exact⟨t,x,y,e,s _ _ h1,s _ _ h2,s _ _ a⟩
inductive p5 (vs:List V) (H:Hp) (Q:VK) (E:XK):Prop
 |mk (l:Addr) (us:List V) (bs:List (V×P3×P3)) (_:vs=[.ref l]) (_:H l=some (.lst us)) (_:Paired (MB H) us bs) (_:(∀b∈bs,eo b.2.1/\eo b.2.2)) (_:bs.length<=1000) (_:∀d H',ah H H'->H d=none->H' d=some (.dT (mk bs))->Q (.ref d) H')
inductive kN (vs:List V) (H:Hp) (Q:VK) (E:XK):Prop
 |mk (a:Addr) (z:P3) (n:Int) (_:vs=[.ref a,.int n]) (_:A3 H a z) (_:Sz z) (_:0<=n) (_:n<(z.1*z.2.1*z.2.2:Nat)) (_:∀t p H',ah H H'->A3 H' t p->In z p->(((p.1*z.2.1+p.2.1)*z.2.2+p.2.2:Nat):Int)=n->Q (.ref t) H')
def IG (cs:List P3) (f s:P3):Prop:=Sm cs/\(cs.length=1\/cs.length=2)/\bx (hd cs) (ls cs)=bx f s/\∀z,In z f->In z s->In z (hd cs)/\In z (ls cs)
inductive yZ (vs:List V) (H:Hp) (Q:VK) (E:XK):Prop
 |mk (a b:Addr) (f s:P3) (t:Int) (_:vs=[.ref a,.ref b,.int t]) (_:A3 H a f) (_:A3 H b s) (_:eo f) (_:eo s) (_:∀l cs H',ah H H'->H l=none->WL H' l (cs.map eN)->IG cs f s->Q (.ref l) H')
noncomputable def de:Rw->Option (V×P3×P3)
 | .rock cs=>some (.bl true,hd cs,ls cs)
 |_=>none
noncomputable def dX:Rw->Option (V×P3×P3)
 | .toll p cs=>some (.int (p:Nat),hd cs,ls cs)
 |_=>none
noncomputable def jM:Rw->List P3
 | .rock cs=>[hd cs,ls cs]
 | .toll _ cs=>[hd cs,ls cs]
 |_=>[]
structure t9 (z:P3) (W:List Rw):Prop where
 ok:∀r∈W,iG r/\(kd r=3\/kd r=4)/\∀c∈jM r,In z c
 ln:W.length<=21
inductive rM (K:Je) (vs:List V) (H:Hp) (Q:VK) (E:XK):Prop
 |mk (cl sa:Addr) (cs:List Int) (z:P3) (_:vs=[.ref cl,.ref sa]) (_:aH K H cl (cs.map V.int)) (_:cs.length<=63) (_:A3 H sa z) (_:Sz z) (_:∀t rd td rl us W H',ah H H'->H' t=some (.tup [.ref rd,.ref td,.ref rl])->H' rd=some (.dT (mk (W.filterMap de)))->H' td=some (.dT (mk (W.filterMap dX)))->H' rl=some (.lst us)->Paired (RA H') us W->t9 z W->Q (.ref t) H')
structure Fd where
 z:P3
 ps:List (Nat×Nat)
 vs:List Nat
 rs:List P3
 ts:List (P3×Nat)
def Pr (n:Nat):Prop:=1<=n/\n<=1000000000000
structure ET (g:Fd):Prop where
 z:Sz g.z
 pl:g.ps.length=g.z.1
 pp:∀p∈g.ps,Pr p.1/\Pr p.2
 vl:g.vs.length+1=g.z.1
 vv:∀v∈g.vs,Pr v
 ri:∀p∈g.rs,In g.z p
 rn:g.rs.Nodup
 ti:∀p∈g.ts,In g.z p.1/\p.2<=1000000000000
 tn:(g.ts.map (·.1)).Nodup
def ng (a:List P3):Kv:=a.map fun p=>(iK (t3 p),.bl true)
noncomputable def j4 (ts:List (P3×Nat)):Kv:=ts.map fun p=>(iK (t3 p.1),.int (p.2:Nat))
abbrev ni (ns:List Nat):List V:=ns.map fun n=> .int (n:Nat)
def P2 (H:Hp) (a:Addr) (p:Nat×Nat):Prop:=H a=some (.tup [.int (p.1:Nat),.int (p.2:Nat)])
def lA (H:Hp) (l:Addr) (ps:List (Nat×Nat)):Prop:=∃as:List Addr,H l=some (.lst (as.map V.ref))/\Paired (P2 H) as ps
theorem lA.up{ps:List (Nat×Nat)}(h:lA H l ps)(u:∀xs,H l=some (.lst xs)->H' l=some (.lst xs))(s:∀b xs,H b=some (.tup xs)->H' b=some (.tup xs)):lA H' l ps:=by
 obtain⟨as,h1,h2⟩:=h
 exact⟨as,u _ h1,Paired.mapP h2 fun _ _ e=>s _ _ e⟩
noncomputable def HX:List Str:=["layer_prices", "via_prices", "rocks_told", "tolls_told", "is_rock"]
structure IR (cF:Addr) (H:Hp) (p:Addr) (g:Fd) (dx:Addr) (fs:List (Str×V)) (a b c d e:Addr):Prop where
 ha:H p=some (.ins cF dx fs)
 f1:fs.lookup ("sizes" :Str)=some (.ref a)
 f2:fs.lookup ("prices" :Str)=some (.ref b)
 f3:fs.lookup ("vias" :Str)=some (.ref c)
 f4:fs.lookup ("rocks" :Str)=some (.ref d)
 f5:fs.lookup ("tolls" :Str)=some (.ref e)
 no:∀m∈HX,fs.lookup m=none
 z:A3 H a g.z
 pr:lA H b g.ps
 vi:H c=some (.lst (ni g.vs))
 rd:H d=some (.dT (ng g.rs))
 td:H e=some (.dT (j4 g.ts))
def pK (f:Addr) (H:Hp) (p:Addr) (g:Fd):Prop:=∃dx fs a b c d e,IR f H p g dx fs a b c d e
theorem pK.same(h:pK cF H p g)(s:ah H H'):pK cF H' p g:=by
 obtain⟨dx,fs,a,b,c,d,e,x⟩:=h
 exact⟨dx,fs,a,b,c,d,e,{x with ha:=s _ _ x.ha,z:=s _ _ x.z,pr:=x.pr.up (fun _ h=>s _ _ h) fun _ _ h=>s _ _ h,vi:=s _ _ x.vi,rd:=s _ _ x.rd,td:=s _ _ x.td}⟩
inductive kD (vs:List V) (H:Hp) (Q:VK) (E:XK):Prop
 |mk (a b:Addr) (z p:P3) (_:vs=[.ref a,.ref b]) (_:A3 H a z) (_:A3 H b p) (_:In z p) (_:Q (.bl true) H)
inductive hZ (vs:List V) (H:Hp) (Q:VK) (E:XK):Prop
 |mk (a b:Addr) (z p:P3) (_:vs=[.ref a,.ref b]) (_:A3 H a z) (_:A3 H b p) (_:In z p) (_:Q .non H)
inductive kR (vs:List V) (H:Hp) (Q:VK) (E:XK):Prop
 |mk (x m:Int) (_:vs=[.int x,.int m]) (_:m<=x) (_:x<=1000000000000) (_:Q .non H)
inductive lz (vs:List V) (H:Hp) (Q:VK) (E:XK):Prop
 |mk (a pr vi:Addr) (z:P3) (us ws:List V) (_:vs=[.ref a,.ref pr,.ref vi]) (_:A3 H a z) (_:Sz z) (_:H pr=some (.lst us)) (_:us.length=z.1) (_:H vi=some (.lst ws)) (_:ws.length+1=z.1) (_:∀H',ah H H'->Q .non H')
inductive jC (vs:List V) (H:Hp) (Q:VK) (E:XK):Prop
 |mk (pr vi d:Addr) (ps:List (Nat×Nat)) (ns:List Nat) (kvs:Kv) (_:vs=[.ref pr,.ref vi,.ref d]) (_:lA H pr ps) (_:(∀p∈ps,Pr p.1/\Pr p.2)) (_:H vi=some (.lst (ni ns))) (_:(∀v∈ns,Pr v)) (_:H d=some (.dT kvs)) (_:(∀kv∈kvs,∃n:Nat,kv.2=.int (n:Nat)/\n<=1000000000000)) (_:∀H',ah H H'->Q .non H')
inductive qx (cF:Addr) (vs:List V) (H:Hp) (Q:VK) (E:XK):Prop
 |mk (p b:Addr) (g:Fd) (q:P3) (_:vs=[.ref p,.ref b]) (_:pK cF H p g) (_:A3 H b q) (_:In g.z q) (_:Q (.bl (decide (q∈g.rs))) H)
inductive uS (cF:Addr) (vs:List V) (H:Hp) (Q:VK) (E:XK):Prop
 |mk (p:Addr) (g:Fd) (_:vs=[.ref p]) (_:pK cF H p g) (_:∀l H',ah H H'->H l=none->lA H' l g.ps->Q (.ref l) H')
inductive Er (cF:Addr) (vs:List V) (H:Hp) (Q:VK) (E:XK):Prop
 |mk (p:Addr) (g:Fd) (_:vs=[.ref p]) (_:pK cF H p g) (_:∀l H',ah H H'->H l=none->H' l=some (.lst (ni g.vs))->Q (.ref l) H')
def yq (ss a:List P3):Prop:=ss.Perm a/\ss.Pairwise fun c d=>HT.lexLt (t3 d) (t3 c)=false
inductive uX (cF:Addr) (vs:List V) (H:Hp) (Q:VK) (E:XK):Prop
 |mk (p:Addr) (g:Fd) (_:vs=[.ref p]) (_:pK cF H p g) (_:g.rs.length<=1000) (_:∀l ss H',ah H H'->H l=none->AL H' l ss->yq ss g.rs->Q (.ref l) H')
noncomputable def xm (ts:List (P3×Nat)) (c:T3):Int:=match cA (j4 ts) (iK c) with
 |some (.int i)=>i
 |_=>0
noncomputable def Ho (ts:List (P3×Nat)) (ss:List P3):List (T3×Int):=((ss.map t3).filter fun c=>decide (xm ts c≠0)).map fun c=>(c,xm ts c)
def PL (H:Hp) (l:Addr) (a:List (T3×Int)):Prop:=∃bs:List Addr,H l=some (.lst (bs.map V.ref))/\Paired (E1 H) bs a
inductive vX (cF:Addr) (vs:List V) (H:Hp) (Q:VK) (E:XK):Prop
 |mk (p:Addr) (g:Fd) (_:vs=[.ref p]) (_:pK cF H p g) (_:g.ts.length<=1000) (_:∀l ss H',ah H H'->H l=none->PL H' l (Ho g.ts ss)->yq ss (g.ts.map (·.1))->Q (.ref l) H')
inductive pG (cF:Addr) (vs:List V) (H:Hp) (Q:VK) (E:XK):Prop
 |mk (p dx z pr vi ro td:Addr) (g:Fd) (_:vs=[.ref p,.ref z,.ref pr,.ref vi,.ref ro,.ref td]) (_:H p=some (.ins cF dx [])) (_:ET g) (_:g.rs.length<=1000) (_:A3 H z g.z) (_:lA H pr g.ps) (_:H vi=some (.lst (ni g.vs))) (_:AL H ro g.rs) (_:H td=some (.dT (j4 g.ts))) (_:∀H',bQ H H' p->pK cF H' p g->Q .non H')
def S4 (p:P3):Prop:=p.1<4/\p.2.1<16/\p.2.2<16
def BK (H:Hp) (t:Addr) (ps:List P3):Prop:=∃as:List Addr,H t=some (.tup (as.map V.ref))/\bB H as (ps.map t3)
structure Ez (fs:List (Str×V)) (x:Str):Prop where
 few:fs.length<=5
 name:fs.lookup ("name" :Str)=some (.str x)
 half:fs.lookup ("half" :Str)=some (.int 0)
 room:fs.lookup ("room" :Str)=some (.int 0)
 ends:fs.lookup ("ends" :Str)=none
theorem Ez.put {fs:List (Str×V)}(b:Ez fs x)(e:fs.length<=4)(h1:("name" :Str)≠f)(a:("half" :Str)≠f)(c:("room" :Str)≠f)(d:("ends" :Str)≠f):Ez (eF f v fs) x:=
 ⟨Jn (bq f v fs) (by lia),by rw[aJ,if_neg h1];exact b.name,by rw[aJ,if_neg a];exact b.half,by rw[aJ,if_neg c];exact b.room,by rw[aJ,if_neg d];exact b.ends⟩
def NA (a:Addr) (H:Hp) (p:Addr) (x:Str) (ps:List P3):Prop:=∃(dx:Addr) (fs:List (Str×V)) (t:Addr),H p=some (.ins a dx fs)/\Ez fs x/\fs.lookup ("pins" :Str)=some (.ref t)/\BK H t ps
def BA (a:Addr) (H:Hp) (p:Addr) (x:Str) (ps b:List P3):Prop:=∃(dx:Addr) (fs:List (Str×V)) (t u:Addr),H p=some (.ins a dx fs)/\Ez fs x/\fs.lookup ("starts" :Str)=some (.ref t)/\fs.lookup ("goals" :Str)=some (.ref u)/\BK H t ps/\BK H u b
inductive lB (vs:List V) (H:Hp) (Q:VK) (E:XK):Prop
 |mk (l:Addr) (ps:List P3) (_:vs=[.ref l]) (_:AL H l ps) (_:(∀p∈ps,S4 p)) (_:ps.Nodup) (_:ps.length<=18) (_:∀H',ah H H'->Q .non H')
inductive jX (cN cB:Addr) (vs:List V) (H:Hp) (Q:VK) (E:XK):Prop
 |mk (p C dx:Addr) (x:Str) (_:vs=[.ref p,.str x,.int 0,.int 0]) (_:H p=some (.ins C dx [])) (_:(C=cN\/C=cB)) (_:Gh x) (_:mm x=true) (_:∀H' fs,bQ H H' p->H' p=some (.ins C dx fs)->Ez fs x->fs.length<=3->Q .non H')
inductive pC (cN:Addr) (vs:List V) (H:Hp) (Q:VK) (E:XK):Prop
 |mk (p dx l:Addr) (x:Str) (ps:List P3) (_:vs=[.ref p,.str x,.ref l,.int 0,.int 0]) (_:H p=some (.ins cN dx [])) (_:AL H l ps) (_:(∀p∈ps,S4 p)) (_:ps.Nodup) (_:2<=ps.length) (_:ps.length<=6) (_:Gh x) (_:mm x=true) (_:∀H',bQ H H' p->NA cN H' p x ps->Q .non H')
inductive o6 (cB:Addr) (vs:List V) (H:Hp) (Q:VK) (E:XK):Prop
 |mk (p dx l m:Addr) (x:Str) (ps qs:List P3) (_:vs=[.ref p,.str x,.ref l,.ref m,.int 0]) (_:H p=some (.ins cB dx [])) (_:AL H l ps) (_:AL H m qs) (_:(∀p∈ps++qs,S4 p)) (_:(ps++qs).Nodup) (_:1<=ps.length) (_:ps.length<=qs.length) (_:ps.length+qs.length<=6) (_:Gh x) (_:mm x=true) (_:∀H',bQ H H' p->BA cB H' p x ps qs->Q .non H')
inductive j8 (cN:Addr) (vs:List V) (H:Hp) (Q:VK) (E:XK):Prop
 |mk (p:Addr) (x:Str) (ps:List P3) (_:vs=[.ref p]) (_:NA cN H p x ps) (_:∀H' l,ah H H'->H l=none->AL H' l ps->Q (.ref l) H')
inductive kg (cB:Addr) (vs:List V) (H:Hp) (Q:VK) (E:XK):Prop
 |mk (p:Addr) (x:Str) (ps qs:List P3) (_:vs=[.ref p]) (_:BA cB H p x ps qs) (_:ps.length+qs.length<=100) (_:∀H' l,ah H H'->H l=none->AL H' l (ps++qs)->Q (.ref l) H')
def z_ (b a:Addr) (H:Hp) (p:Addr):Prop:=∃(C dx:Addr) (fs:List (Str×V)),H p=some (.ins C dx fs)/\(C=b\/C=a)/\fs.lookup ("half" :Str)=some (.int 0)/\fs.lookup ("room" :Str)=some (.int 0)
theorem z_.same(h:z_ cN cB H p)(s:ah H H'):z_ cN cB H' p:=by
 obtain⟨C,dx,fs,h1,h2⟩:=h
 exact⟨C,dx,fs,s _ _ h1,h2⟩
inductive vf (vs:List V) (H:Hp) (Q:VK) (E:XK):Prop
 |mk (a b:Addr) (p q:P3) (_:vs=[.ref a,.ref b]) (_:A3 H a p) (_:A3 H b q) (_:p≠q) (_:∀v,(v=.non\/∃d:Int,0<d/\v=.int d)->Q v H)
inductive uC (cN cB:Addr) (vs:List V) (H:Hp) (Q:VK) (E:XK):Prop
 |mk (p p':Addr) (_:vs=[.ref p,.ref p']) (_:z_ cN cB H p) (_:z_ cN cB H p') (_:Q (.int 0) H)
inductive u4 (cN cB:Addr) (vs:List V) (H:Hp) (Q:VK) (E:XK):Prop
 |mk (p a p' b:Addr) (u v:P3) (_:vs=[.ref p,.ref a,.ref p',.ref b]) (_:z_ cN cB H p) (_:z_ cN cB H p') (_:A3 H a u) (_:A3 H b v) (_:u≠v) (_:Q (.bl false) H)
inductive qI (cN cB:Addr) (vs:List V) (H:Hp) (Q:VK) (E:XK):Prop
 |mk (p l p' m:Addr) (us ws:List P3) (_:vs=[.ref p,.ref l,.ref p',.ref m]) (_:z_ cN cB H p) (_:z_ cN cB H p') (_:AL H l us) (_:AL H m ws) (_:ws.length<=1000) (_:(∀u∈us,∀w∈ws,u≠w)) (_:∀H',ah H H'->Q (.bl false) H')
inductive qw (K:Je) (vs:List V) (H:Hp) (Q:VK) (E:XK):Prop
 |mk (a b:Addr) (z p:P3) (_:vs=[.ref a,.ref b,.int 0]) (_:A3 H a z) (_:Sz z) (_:A3 H b p) (_:In z p) (_:∀l t H',ah H H'->H l=none->H' l=some (.lst [.ref t])->A3 H' t p->Q (.ref l) H')
inductive yj (cN cB cF:Addr) (vs:List V) (H:Hp) (Q:VK) (E:XK):Prop
 |mk (p t b:Addr) (g:Fd) (q:P3) (_:vs=[.ref p,.ref t,.ref b]) (_:pK cF H p g) (_:Sz g.z) (_:z_ cN cB H t) (_:A3 H b q) (_:In g.z q) (_:q∉g.rs) (_:∀H',ah H H'->Q (.bl true) H')
structure Tn where
 nm:Str
 ss:List P3
 gs:List P3
abbrev Tn.es (g:Tn):List P3:=g.ss++g.gs
def pJ (b a:Addr) (H:Hp) (p:Addr) (g:Tn):Prop:=(g.gs=[]/\NA b H p g.nm g.ss)\/(g.gs≠[]/\BA a H p g.nm g.ss g.gs)
theorem BK.up(h:BK H t ps)(s:∀b xs,H b=some (.tup xs)->H' b=some (.tup xs)):BK H' t ps:=by
 obtain⟨as,h1,h2⟩:=h
 exact⟨as,s _ _ h1,fm h2 s⟩
theorem pJ.up(h:pJ cN cB H p g)(s:∀b xs,H b=some (.tup xs)->H' b=some (.tup xs))(u:∀C dx fs,fs≠[]->H p=some (.ins C dx fs)->H' p=some (.ins C dx fs)):pJ cN cB H' p g:=by
 have c:∀{fs:List (Str×V)},Ez fs g.nm->fs≠[]:=fun b z=>by have:=b.name;rw[z] at this;cases this
 rcases h with ⟨e,dx,fs,t,h1,b,h2,a⟩|⟨e,dx,fs,t,v,h1,b,h2,a,f,d⟩
 ·exact .inl ⟨e,dx,fs,t,u _ _ _ (c b) h1,b,h2,a.up s⟩
 ·exact .inr ⟨e,dx,fs,t,v,u _ _ _ (c b) h1,b,h2,a,f.up s,d.up s⟩
theorem pJ.same(h:pJ cN cB H p g)(s:ah H H'):pJ cN cB H' p g:=h.up (fun _ _ e=>s _ _ e) fun _ _ _ _ e=>s _ _ e
theorem pJ.th(h:pJ cN cB H p g):z_ cN cB H p:=by
 rcases h with ⟨e,dx,fs,t,h1,b,_⟩|⟨e,dx,fs,t,v,h1,b,_⟩
 ·exact⟨_,dx,fs,h1,.inl rfl,b.half,b.room⟩
 ·exact⟨_,dx,fs,h1,.inr rfl,b.half,b.room⟩
abbrev mn (cN cB:Addr) (H:Hp) (ps:List Addr) (gs:List Tn):Prop:=Paired (fun p g=>pJ cN cB H p g) ps gs
structure BF (z:P3) (rs:List P3) (gs:List Tn):Prop where
 nm:(gs.map Tn.nm).Nodup
 few:gs.length<=12
 ln:∀g∈gs,g.ss.length+g.gs.length<=6
 ok:∀g∈gs,∀c∈g.es,In z c/\c∉rs
 cr:gs.Pairwise fun g h=>∀c∈g.es,∀d∈h.es,c≠d
noncomputable def r8 (gs:List Tn) (ps:List Addr):List (cP×V):=(gs.zip ps).map fun a=>(.inr a.1.nm,.ref a.2)
def IC (a h c e:Addr) (H:Hp) (b:Addr) (g:Fd) (gs:List Tn):Prop:=∃(dx:Addr) (fs:List (Str×V)) (d f:Addr) (ps:List Addr),H b=some (.ins a dx fs)/\fs.lookup ("floor" :Str)=some (.ref f)/\fs.lookup ("by_name" :Str)=some (.ref d)/\fs.lookup ("things" :Str)=none/\H d=some (.dK (r8 gs ps))/\mn h c H ps gs/\pK e H f g
inductive qX (cN cB:Addr) (vs:List V) (H:Hp) (Q:VK) (E:XK):Prop
 |mk (l:Addr) (ps:List Addr) (gs:List Tn) (_:vs=[.ref l]) (_:H l=some (.lst (ps.map V.ref))) (_:mn cN cB H ps gs) (_:(gs.map Tn.nm).Nodup) (_:gs.length<=12) (_:∀H',ah H H'->Q .non H')
inductive vY (cN cB cF:Addr) (vs:List V) (H:Hp) (Q:VK) (E:XK):Prop
 |mk (f l:Addr) (ps:List Addr) (gs:List Tn) (g:Fd) (_:vs=[.ref f,.ref l]) (_:pK cF H f g) (_:Sz g.z) (_:H l=some (.lst (ps.map V.ref))) (_:mn cN cB H ps gs) (_:BF g.z g.rs gs) (_:∀H',ah H H'->Q .non H')
inductive mM (cN cB:Addr) (vs:List V) (H:Hp) (Q:VK) (E:XK):Prop
 |mk (l:Addr) (ps:List Addr) (gs:List Tn) (z:P3) (rs:List P3) (_:vs=[.ref l]) (_:H l=some (.lst (ps.map V.ref))) (_:mn cN cB H ps gs) (_:BF z rs gs) (_:∀H',ah H H'->Q .non H')
inductive qE (cN cB cF cBo:Addr) (vs:List V) (H:Hp) (Q:VK) (E:XK):Prop
 |mk (p dx f l:Addr) (ps:List Addr) (gs:List Tn) (g:Fd) (_:vs=[.ref p,.ref f,.ref l]) (_:H p=some (.ins cBo dx [])) (_:pK cF H f g) (_:Sz g.z) (_:H l=some (.lst (ps.map V.ref))) (_:mn cN cB H ps gs) (_:BF g.z g.rs gs) (_:∀H',bQ H H' p->IC cBo cN cB cF H' p g gs->Q .non H')
inductive kQ (cBo:Addr) (vs:List V) (H:Hp) (Q:VK) (E:XK):Prop
 |mk (b dx d:Addr) (fs:List (Str×V)) (ps:List Addr) (gs:List Tn) (_:vs=[.ref b]) (_:H b=some (.ins cBo dx fs)) (_:fs.lookup ("by_name" :Str)=some (.ref d)) (_:H d=some (.dK (r8 gs ps))) (_:ps.length=gs.length) (_:gs.length<=12) (_:∀H' l,ah H H'->H l=none->H' l=some (.lst (ps.map V.ref))->Q (.ref l) H')
structure B8 (g:Tn):Prop where
 as:Gh g.nm
 gd:mm g.nm=true
 s4:∀p∈g.es,S4 p
 nd:g.es.Nodup
 ln:g.ss.length+g.gs.length<=6
 sh:(g.gs=[]/\2<=g.ss.length)\/(g.gs≠[]/\1<=g.ss.length/\g.ss.length<=g.gs.length)
noncomputable def r_:Rw->Option Tn
 | .net x cs=>some ⟨ss x,cs,[]⟩
 | .bun x cs ds=>some ⟨ss x,cs,ds⟩
 |_=>none
inductive pU (cN cB:Addr) (vs:List V) (H:Hp) (Q:VK) (E:XK):Prop
 |mk (v:V) (r:Rw) (g:Tn) (_:vs=[.str (kS (kd r)),v]) (_:Pt (fun _=>True) H v r) (_:r_ r=some g) (_:B8 g) (_:(∀x cs ds,r=.bun x cs ds->ds≠[])) (_:∀p H',ah H H'->H p=none->pJ cN cB H' p g->Q (.ref p) H')
abbrev Sv:=List (P3×V)
def sL (kvs:Sv):Kv:=kvs.map fun p=>(iK (t3 p.1),p.2)
noncomputable def Cj (kvs:Sv) (b:V×P3×P3):Sv:=(bx b.2.1 b.2.2).foldl (fun k p=>dY k p b.1) kvs
def Gm (bs:List (V×P3×P3)):Sv:=bs.foldl Cj []
theorem zG (kvs:Sv)(p:P3):(cA (sL kvs) (iK (t3 p))).isSome=(cA kvs p).isSome:=by
 rw[K6,gu,gu]
 unfold sL
 rw[Jt,Jk,Jk]
 constructor
 ·rintro⟨q,a,e⟩
  exact⟨q,a,jz (oW e)⟩
 ·rintro⟨q,a,e⟩
  exact⟨q,a,by rw[<-e];rfl⟩
theorem FL (kvs:Sv)(p:P3)(v:V):dY (sL kvs) (iK (t3 p)) v=sL (dY kvs p v):=by
 unfold dY
 rw[dN,dN,zG]
 by_cases h:(cA kvs p).isSome=true
 ·rw[if_pos h,if_pos h]
  unfold sL
  rw[Jt,Jt]
  refine Lf fun q _=>?_
  show(if iK (t3 q.1)=iK (t3 p) then _ else _)=(iK (t3 (if q.1=p then (q.1,v) else q).1),(if q.1=p then (q.1,v) else q).2)
  by_cases e:q.1=p
  ·rw[if_pos (by rw[e]),if_pos e]
  ·rw[if_neg (fun z=>e (jz (oW z))),if_neg e]
 ·rw[if_neg h,if_neg h]
  unfold sL
  rw[Jl];rfl
theorem Ap (bs:List (V×P3×P3)):mk bs=sL (Gm bs):=by
 have a:∀(m:V) (ps:List P3) (k:Sv),ps.foldl (kK m) (sL k)=sL (ps.foldl (fun k p=>dY k p m) k):=fun m ps=>by
  induction ps with
  |nil=>exact fun _=>rfl
  |cons p r ih=>exact fun k=>by rw[J8,J8,<-ih];unfold kK;rw[FL]
 have c:∀(bs:List (V×P3×P3)) (k:Sv),bs.foldl CP (sL k)=sL (bs.foldl Cj k):=fun bs=>by
  induction bs with
  |nil=>exact fun _=>rfl
  |cons b r ih=>exact fun k=>by rw[J8,J8,<-ih];unfold CP Cj;rw[a]
 exact c bs []
structure mx (z:P3) (P:V->Prop) (k:Sv):Prop where
 nd:(k.map (·.1)).Nodup
 sp:∀p∈k,In z p.1/\P p.2
theorem mx.put{P:V->Prop}(h:mx z P k)(i:In z p)(d:P v):mx z P (dY k p v):=by
 constructor
 ·rw[wV]
  by_cases e:(cA k p).isSome=true
  ·rw[if_pos e];exact h.nd
  ·rw[if_neg e,K1]
   refine⟨h.nd,by simp,fun a ha b f n=>e ?_⟩
   rw[gu,<-Jv.mp f,<-n];exact ha
 ·unfold dY
  rw[dN]
  intro q c
  by_cases e:(cA k p).isSome=true
  ·rw[if_pos e] at c
   obtain⟨r,hr,rfl⟩:=Jk.mp c
   by_cases e2:r.1=p
   ·rw[if_pos e2];exact⟨(h.sp r hr).1,d⟩
   ·rw[if_neg e2];exact h.sp r hr
  ·rw[if_neg e] at c
   rcases Jz.mp c with g|g
   ·exact h.sp q g
   ·rw[Jv.mp g];exact⟨i,d⟩
theorem Ah{P:V->Prop}{bs:List (V×P3×P3)}(h:∀b∈bs,In z b.2.1/\In z b.2.2/\P b.1):mx z P (Gm bs):=by
 have c:∀(m:V) (_:P m) (ps:List P3) (_:∀p∈ps,In z p) (k:Sv),mx z P k->mx z P (ps.foldl (fun k p=>dY k p m) k):=fun m j ps=>by
  induction ps with
  |nil=>exact fun _ _ h=>h
  |cons p r ih=>exact fun d k f=>by rw[J8];exact ih (fun q e=>d q (Jq _ e)) _ (f.put (d p Jp) j)
 have a:∀(bs:List (V×P3×P3)) (_:∀b∈bs,In z b.2.1/\In z b.2.2/\P b.1) (k:Sv),mx z P k->mx z P (bs.foldl Cj k):=fun bs=>by
  induction bs with
  |nil=>exact fun _ _ h=>h
  |cons b r ih=>
   intro g k f
   rw[J8]
   obtain⟨h1,h2,i⟩:=g b Jp
   exact ih (fun q e=>g q (Jq _ e)) _ (c b.1 i _ (fun p d=>Gj d h1 h2) k f)
 exact a bs h [] ⟨Lk,fun _ h=>nomatch h⟩
noncomputable def yo:Rw->Option (Nat×Nat)
 | .layer a b=>some (a,b)
 |_=>none
def xw:Rw->Option Nat
 | .via a=>some a
 |_=>none
def BN:V->Nat
 | .int i=>i.toNat
 |_=>0
def Hr (W:List Rw):Sv:=Gm (W.filterMap de)
def Gx (W:List Rw):Sv:=Gm (W.filterMap dX)
noncomputable def lZ (z:P3) (W:List Rw):Fd:=⟨z,W.filterMap yo,W.filterMap xw,(Hr W).map (·.1),(Gx W).map fun p=>(p.1,BN p.2)⟩
structure xZ (z:P3) (W:List Rw):Prop where
 sz:Sz z
 ok:∀r∈W,iG r/\kd r≠0
 bx:∀r∈W,∀c∈jM r,In z c
 ly:(W.filterMap yo).length=z.1
 lp:∀p∈W.filterMap yo,Pr p.1/\Pr p.2
 va:(W.filterMap xw).length+1=z.1
 vp:∀v∈W.filterMap xw,Pr v
 tl:∀p cs,Rw.toll p cs∈W->p<=1000000000000
theorem xZ.rk(h:xZ z W):mx z (· =.bl true) (Hr W):=Ah fun b a=>by
 obtain⟨r,hr,e⟩:=Kd.mp a
 cases r<;>cases e
 exact⟨h.bx _ hr _ (by simp[jM]),h.bx _ hr _ (by simp[jM]),rfl⟩
theorem xZ.ts(h:xZ z W):mx z (fun v=>∃n:Nat,v=.int (n:Nat)/\n<=1000000000000) (Gx W):=Ah fun b a=>by
 obtain⟨r,hr,e⟩:=Kd.mp a
 cases r<;>cases e
 exact⟨h.bx _ hr _ (by simp[jM]),h.bx _ hr _ (by simp[jM]),_,rfl,h.tl _ _ hr⟩
theorem yt(h:xZ z W):ng (lZ z W).rs=mk (W.filterMap de):=by
 rw[Ap]
 show ng ((Hr W).map (·.1))=sL (Hr W)
 unfold ng sL
 rw[Jt]
 exact Lf fun p a=>by rw[(h.rk.sp p a).2];rfl
theorem yT(h:xZ z W):j4 (lZ z W).ts=mk (W.filterMap dX):=by
 rw[Ap]
 show j4 ((Gx W).map fun p=>(p.1,BN p.2))=sL (Gx W)
 unfold j4 sL
 rw[Jt]
 exact Lf fun p a=>by
  obtain⟨n,e,_⟩:=(h.ts.sp p a).2
  show(iK (t3 p.1),V.int (BN p.2:Nat))=(iK (t3 p.1),p.2)
  rw[e];rfl
theorem xZ.fd {z:P3}{W:List Rw}(h:xZ z W):ET (lZ z W) where
 z:=h.sz
 pl:=h.ly
 pp:=h.lp
 vl:=h.va
 vv:=h.vp
 ri:=fun p d=>by
  obtain⟨q,c,rfl⟩:=Jk.mp d
  exact(h.rk.sp q c).1
 rn:=h.rk.nd
 ti:=fun p d=>by
  obtain⟨q,c,rfl⟩:=Jk.mp d
  obtain⟨a,n,e,b⟩:=h.ts.sp q c
  exact⟨a,by rw[e];exact b⟩
 tn:=by
  show(((Gx W).map fun p=>(p.1,BN p.2)).map (·.1)).Nodup
  rw[Jt];exact h.ts.nd
inductive pO (cF:Addr) (vs:List V) (H:Hp) (Q:VK) (E:XK):Prop
 |mk (l:Addr) (us:List V) (z:P3) (W:List Rw) (_:vs=[.ref l]) (_:H l=some (.lst us)) (_:Paired (TD (fun _=>True) H) us (.floor z::W)) (_:us.length<=100) (_:xZ z W) (_:∀p H',ah H H'->H p=none->pK cF H' p (lZ z W)->Q (.ref p) H')
inductive yA (cN cB cF cBo:Addr) (vs:List V) (H:Hp) (Q:VK) (E:XK):Prop
 |mk (x:Str) (z:P3) (W:List Rw) (_:vs=[.str x]) (_:CU x (.floor z::W)) (_:xZ z W) (_:(∀r∈W,∀x cs ds,r=.bun x cs ds->ds≠[])) (_:(∀r∈W,∀g,r_ r=some g->B8 g)) (_:BF z (lZ z W).rs (W.filterMap r_)) (_:∀p H',ah H H'->H p=none->IC cBo cN cB cF H' p (lZ z W) (W.filterMap r_)->Q (.ref p) H')
inductive p4 (vs:List V) (H:Hp) (Q:VK) (E:XK):Prop
 |mk (t a b:Addr) (x:List Nat) (cs ds:List P3) (_:vs=[.ref t]) (_:H t=some (.tup [sv x,.ref a,.ref b])) (_:AL H a cs) (_:AL H b ds) (_:Sm cs) (_:Sm ds) (_:cs.length<=6) (_:ds.length<=6) (_:∀l H',ah H H'->H l=none->WL H' l (iM (if ds=[] then .net x cs else .bun x cs ds))->Q (.ref l) H')
abbrev Tw:=List Nat×List P3×List P3
abbrev Tw.es (g:Tw):List P3:=g.2.1++g.2.2
def CA (H:Hp) (v:V) (g:Tw):Prop:=∃t a b,v=.ref t/\H t=some (.tup [sv g.1,.ref a,.ref b])/\AL H a g.2.1/\AL H b g.2.2
theorem CA.same(h:CA H v g)(s:ah H H'):CA H' v g:=by
 obtain⟨t,a,b,e,h1,h2,c⟩:=h
 exact⟨t,a,b,e,s _ _ h1,h2.same s,c.same s⟩
structure xt (z:P3) (kvs:Kv) (gs:List Tw):Prop where
 nm:(gs.map (·.1)).Sublist [L "na",L "to",L "mb"]
 nd:(gs.flatMap Tw.es).Nodup
 ok:∀g∈gs,∀c∈Tw.es g,In z c/\(cA kvs (iK (t3 c))).isSome=false
 ln:∀g∈gs,g.2.1.length+g.2.2.length<=6
 sh:∀g∈gs,(g.2.2=[]/\2<=g.2.1.length)\/(g.2.2≠[]/\1<=g.2.1.length/\g.2.1.length<=g.2.2.length)
inductive nz (vs:List V) (H:Hp) (Q:VK) (E:XK):Prop
 |mk (za rd hl:Addr) (z:P3) (kvs:Kv) (hs:List Int) (_:vs=[.ref za,.ref rd,.ref hl]) (_:A3 H za z) (_:Sz z) (_:H rd=some (.dT kvs)) (_:H hl=some (.lst (hs.map V.int))) (_:hs.length=3) (_:∀l us gs H',ah H H'->H l=none->H' l=some (.lst us)->Paired (CA H') us gs->xt z kvs gs->Q (.ref l) H')
noncomputable def rZ:Nat->Hp->V->V->Prop
 |0=>fun _ _ _=>False
 |n+1=>fun H v w=>(∃i:Int,v=.int i/\w=.int i)\/(∃x:Str,v=.str x/\w=.str x)\/∃(a b:Addr) (vs c:List V),v=.ref a/\w=.ref b/\((H a=some (.lst vs)/\H b=some (.lst c))\/(H a=some (.tup vs)/\H b=some (.tup c)))/\vs.length<=1000/\Paired (rZ n H) vs c
theorem rZ.same(s:ah H H'){n:Nat}:∀{v w:V},rZ n H v w->rZ n H' v w:=by
 induction n with
 |zero=>exact fun h=>h
 |succ n ih=>
  rintro v w (h|h|⟨a,b,vs,d,c,f,h,g,i⟩)
  ·exact .inl h
  ·exact .inr (.inl h)
  ·exact .inr (.inr ⟨a,b,vs,d,c,f,h.imp (fun h=>⟨s _ _ h.1,s _ _ h.2⟩) (fun h=>⟨s _ _ h.1,s _ _ h.2⟩),g,Paired.mapP i fun _ _ e=>ih e⟩)
theorem uW:rZ (n+1) H (.int i) (.int i):=.inl ⟨i,rfl,rfl⟩
theorem tJ:∀{vs:List V},(∀v∈vs,∃i:Int,v=.int i)->Paired (rZ (n+1) H) vs vs
 |[],_=> .nil
 |v::r,h=> .cons (by obtain⟨i,rfl⟩:=h v Jp;exact uW) (tJ fun u a=>h u (Jq _ a))
theorem Bm(h1:H a=some (.tup vs))(c:H b=some (.tup vs))(h:∀v∈vs,∃i:Int,v=.int i)(d:vs.length<=1000):rZ (n+2) H (.ref a) (.ref b):=.inr (.inr ⟨a,b,vs,vs,rfl,rfl,.inr ⟨h1,c⟩,d,tJ h⟩)
theorem Et(h1:A3 H a p)(d:A3 H b p):rZ (n+2) H (.ref a) (.ref b):=Bm h1 d (fun v c=>by obtain⟨i,_,rfl⟩:=Jk.mp c;exact⟨i,rfl⟩) (by show 3<=1000;decide)
theorem Bj {n:Nat}{H:Hp}{as bs:List Addr}{ps:List P3}(h1:bB H as (ps.map t3))(a:bB H bs (ps.map t3)):Paired (rZ (n+2) H) (as.map V.ref) (bs.map V.ref):=by
 induction ps generalizing as bs with
 |nil=>cases h1;cases a;exact .nil
 |cons p r ih=>
  cases h1 with|cons x t=>cases a with|cons y u=>exact .cons (Et x y) (ih t u)
theorem GA(h1:AL H l ps)(d:AL H m ps)(c:ps.length<=1000):rZ (n+3) H (.ref l) (.ref m):=by
 obtain⟨as,b,a⟩:=h1
 obtain⟨bs,e,b2⟩:=d
 exact .inr (.inr ⟨l,m,_,_,rfl,rfl,.inl ⟨b,e⟩,by rw[Jd,Paired.length a,Jd];exact c,Bj a b2⟩)
inductive gZ (n:Nat) (vs:List V) (H:Hp) (Q:VK) (E:XK):Prop
 |mk (v w:V) (_:vs=[v,w]) (_:rZ n H v w) (_:∀H',ah H H'->Q (.bl true) H')
theorem xq(h:gZ 0 vs H Q E):False:=by
 obtain⟨_,_,_,h,_⟩:=h;exact h
def tF (g:Tw):Tn:=⟨ss g.1,g.2.1,g.2.2⟩
inductive vT (cN cB:Addr) (vs:List V) (H:Hp) (Q:VK) (E:XK):Prop
 |mk (l m:Addr) (ps:List Addr) (us:List V) (gs:List Tw) (_:vs=[.ref l,.ref m]) (_:H l=some (.lst (ps.map V.ref))) (_:mn cN cB H ps (gs.map tF)) (_:H m=some (.lst us)) (_:Paired (CA H) us gs) (_:(∀g∈gs,g.2.1.length+g.2.2.length<=6)) (_:gs.length<=3) (_:∀H',ah H H'->Q (.bl true) H')
inductive u6 (K:Je) (vs:List V) (H:Hp) (Q:VK) (E:XK):Prop
 |mk (a:Addr) (ns:List Int) (_:vs=[.ref a]) (_:aH K H a (ns.map V.int)) (_:ns.length<=63) (_:∀H',Q (.bl true) H')
def BL (p:Nat×Nat):Rw:=.layer p.1 p.2
noncomputable def qr (g:Tw):Rw:=if g.2.2=[] then .net g.1 g.2.1 else .bun g.1 g.2.1 g.2.2
theorem zR (g:Tw):kd (qr g)=5\/kd (qr g)=6:=by unfold qr;split<;>simp[kd]
theorem AN (g:Tw):r_ (qr g)=some (tF g):=by
 unfold qr tF
 split
 ·next e=>rw[e];rfl
 ·rfl
noncomputable def B1 (ps:List (Nat×Nat)) (ns:List Nat) (W:List Rw) (gs:List Tw):List (List Rw):=[ps.map BL,ns.map Rw.via,W,gs.map qr]
theorem vd {a:Type}{f:Rw->Option a}{l:List Rw}(h:∀r∈l,f r=none):l.filterMap f=[]:=List.filterMap_eq_nil_iff.mpr h
theorem DM {a:Type}{f:Rw->Option a}(h:∀r,kq r≠k->f r=none)(l:List Rw):l.filterMap f=(fq k l).filterMap f:=by
 induction l with
 |nil=>rfl
 |cons r t ih=>
  unfold fq at ih|-
  by_cases e:kq r=k
  ·rw[LF (by simpa using e),Ke,Ke,ih]
  ·rw[LG (by simpa using e),Ke,h r e,ih]
theorem FW(h:∀k,fq k A=fq k B){r:Rw}(a:r∈A):r∈B:=by
 have:r∈fq (kq r) A:=Lu.mpr ⟨a,by simp⟩
 rw[h] at this
 exact(Lu.mp this).1
section
variable {z:P3} {ps:List (Nat×Nat)} {ns:List Nat} {W W':List Rw} {gs:List Tw}
theorem rm {b:Type}{f:Rw->Option b}(h:∀r,kq r≠k->f r=none)(a:∀k,fq k W'=fq k (B1 ps ns W gs).flatten):W'.filterMap f=(ps.map BL).filterMap f++((ns.map Rw.via).filterMap f++(W.filterMap f++(gs.map qr).filterMap f)):=by
 rw[DM h,a,<-DM h]
 show((ps.map BL)++((ns.map Rw.via)++(W++((gs.map qr)++[])))).filterMap f=_
 rw[JK,KL,KL,KL]
theorem pQ {a:Type}{f:Rw->Option a}(j:Nat->Bool)(h:∀r,j (kd r)=false->f r=none):
  ((j 1=false->(ps.map BL).filterMap f=[])/\(j 2=false->(ns.map Rw.via).filterMap f=[]))/\(t9 z W->j 3=false->j 4=false->W.filterMap f=[])/\(j 5=false->j 6=false->(gs.map qr).filterMap f=[]):=by
 refine⟨⟨fun e=>vd fun r hr=>?_,fun e=>vd fun r hr=>?_⟩,fun b c d=>vd fun r hr=>?_,fun c d=>vd fun r hr=>?_⟩
 ·obtain⟨p,_,rfl⟩:=Jk.mp hr;exact h _ e
 ·obtain⟨p,_,rfl⟩:=Jk.mp hr;exact h _ e
 ·rcases(b.ok r hr).2.1 with e|e<;>exact h _ (by rw[e];assumption)
 ·obtain⟨p,_,rfl⟩:=Jk.mp hr
  rcases zR p with e|e<;>exact h _ (by rw[e];assumption)
theorem o9 {b c d:Type}{f:c->Option d}{g:b->c}{u:b->d}(h:∀a,f (g a)=some (u a))(l:List b):(l.map g).filterMap f=l.map u:=by
 induction l with
 |nil=>rfl
 |cons a t ih=>rw[Jr,Ke,h,ih];rfl
structure lQ (z:P3) (ps:List (Nat×Nat)) (ns:List Nat) (W:List Rw) (gs:List Tw) (W':List Rw):Prop where
 hq:∀k,fq k W'=fq k (B1 ps ns W gs).flatten
 ok:∀r∈W',iG r/\kd r≠0
 sz:Sz z
 bx:t9 z W
 pl:ps.length=z.1
 pp:∀p∈ps,Pr p.1/\Pr p.2
 nl:ns.length+1=z.1
 np:∀n∈ns,Pr n
 tw:xt z (mk (W.filterMap de)) gs
theorem lQ.ly (x:lQ z ps ns W gs W'):W'.filterMap yo=ps:=by
 have h:=pQ (z:=z) (ps:=ps) (ns:=ns) (W:=W) (gs:=gs) (f:=yo) (fun k=>decide (k=1)) fun r hr=>by cases r<;>first|rfl|(simp[kd] at hr)
 rw[rm (k:=1) (fun r hr=>by cases r<;>first|rfl|(simp[kq,kd] at hr)) x.hq,h.1.2 rfl,h.2.1 x.bx rfl rfl,h.2.2 rfl rfl,o9 (f:=yo) (g:=BL) (u:=id) (fun _=>rfl)]
 simp
theorem lQ.va (x:lQ z ps ns W gs W'):W'.filterMap xw=ns:=by
 have h:=pQ (z:=z) (ps:=ps) (ns:=ns) (W:=W) (gs:=gs) (f:=xw) (fun k=>decide (k=2)) fun r hr=>by cases r<;>first|rfl|(simp[kd] at hr)
 rw[rm (k:=2) (fun r hr=>by cases r<;>first|rfl|(simp[kq,kd] at hr)) x.hq,h.1.1 rfl,h.2.1 x.bx rfl rfl,h.2.2 rfl rfl,o9 (f:=xw) (g:=Rw.via) (u:=id) (fun _=>rfl)]
 simp
theorem lQ.rk (x:lQ z ps ns W gs W'):W'.filterMap de=W.filterMap de:=by
 have h:=pQ (z:=z) (ps:=ps) (ns:=ns) (W:=W) (gs:=gs) (f:=de) (fun k=>decide (k=3)) fun r hr=>by cases r<;>first|rfl|(simp[kd] at hr)
 rw[rm (k:=3) (fun r hr=>by cases r<;>first|rfl|(simp[kq,kd] at hr)) x.hq,h.1.1 rfl,h.1.2 rfl,h.2.2 rfl rfl]
 simp
theorem lQ.tl (x:lQ z ps ns W gs W'):W'.filterMap dX=W.filterMap dX:=by
 have h:=pQ (z:=z) (ps:=ps) (ns:=ns) (W:=W) (gs:=gs) (f:=dX) (fun k=>decide (k=4)) fun r hr=>by cases r<;>first|rfl|(simp[kd] at hr)
 rw[rm (k:=4) (fun r hr=>by cases r<;>first|rfl|(simp[kq,kd] at hr)) x.hq,h.1.1 rfl,h.1.2 rfl,h.2.2 rfl rfl]
 simp
theorem lQ.th (x:lQ z ps ns W gs W'):W'.filterMap r_=gs.map tF:=by
 have h:=pQ (z:=z) (ps:=ps) (ns:=ns) (W:=W) (gs:=gs) (f:=r_) (fun k=>decide (5<=k)) fun r hr=>by cases r<;>first|rfl|(simp[kd] at hr)
 rw[rm (k:=5) (fun r hr=>by cases r<;>first|rfl|(simp[kq,kd] at hr)) x.hq,h.1.1 rfl,h.1.2 rfl,h.2.1 x.bx rfl rfl,o9 AN]
 simp
theorem lQ.mem (x:lQ z ps ns W gs W'){r:Rw}(h:r∈W'):(∃p,r=BL p)\/(∃n,r=Rw.via n)\/r∈W\/∃g∈gs,r=qr g:=by
 have:=FW x.hq h
 simp only[B1,Lz,List.flatten_nil,Jz,Jk,JM,or_false] at this
 rcases this with ⟨p,_,e⟩|⟨p,_,e⟩|h|⟨p,a,e⟩
 ·exact .inl ⟨p,e.symm⟩
 ·exact .inr (.inl ⟨p,e.symm⟩)
 ·exact .inr (.inr (.inl h))
 ·exact .inr (.inr (.inr ⟨p,a,e.symm⟩))
theorem lQ.pg (x:lQ z ps ns W gs W'):xZ z W' where
 sz:=x.sz
 ok:=x.ok
 bx:=fun r hr c a=>by
  rcases x.mem hr with ⟨p,rfl⟩|⟨p,rfl⟩|h|⟨g,_,rfl⟩
  ·cases a
  ·cases a
  ·exact(x.bx.ok r h).2.2 c a
  ·unfold qr at a;split at a<;>cases a
 ly:=by rw[x.ly];exact x.pl
 lp:=by rw[x.ly];exact x.pp
 va:=by rw[x.va];exact x.nl
 vp:=by rw[x.va];exact x.np
 tl:=fun p cs h=>(x.ok _ h).1.1
theorem yk(h:xt z kvs gs)(a:g∈gs):g.1∈[L "na",L "to",L "mb"]:=h.nm.subset (Jk.mpr ⟨g,a,rfl⟩)
theorem zF:∀x∈[L "na",L "to",L "mb"],(((ss x).cps.all (· <128)=true/\(ss x).length<=1000)/\mm (ss x)=true)/\mW x=true/\x.length<=9:=by decide+kernel
theorem In.s4(h:In z p)(s:Sz z):S4 p:=by unfold In Sz S4 at*;omega
theorem lQ.tn (x:lQ z ps ns W gs W'){g:Tw}(a:g∈gs):B8 (tF g) where
 as:=(zF _ (yk x.tw a)).1.1
 gd:=(zF _ (yk x.tw a)).1.2
 s4:=fun p b=>(x.tw.ok g a p b).1.s4 x.sz
 nd:=(List.pairwise_flatMap.mp x.tw.nd).1 g a
 ln:=x.tw.ln g a
 sh:=x.tw.sh g a
theorem lQ.bn (x:lQ z ps ns W gs W'):∀r∈W',∀y cs ds,r=.bun y cs ds->ds≠[]:=fun r hr y cs ds e=>by
 rcases x.mem hr with ⟨p,rfl⟩|⟨p,rfl⟩|h|⟨g,_,rfl⟩
 ·cases e
 ·cases e
 ·rw[e] at h
  rcases(x.bx.ok _ h).2.1 with e|e<;>cases e
 ·unfold qr at e
  split at e
  ·cases e
  ·next n=>cases e;exact n
theorem lQ.tk (x:lQ z ps ns W gs W'):∀r∈W',∀g,r_ r=some g->B8 g:=fun r hr g e=>by
 rcases x.mem hr with ⟨p,rfl⟩|⟨p,rfl⟩|h|⟨a,hg,rfl⟩
 ·cases e
 ·cases e
 ·rcases(x.bx.ok _ h).2.1 with e'|e'<;>(cases r<;>first|(cases e;done)|(cases e';done))
 ·rw[AN] at e
  cases e;exact x.tn hg
theorem lQ.gk (x:lQ z ps ns W gs W'):BF z (lZ z W').rs (W'.filterMap r_):=by
 rw[x.th]
 have h:gs.length<=3:=by have:=x.tw.nm.length_le;rwa [Jd] at this
 refine⟨?_,by rw[Jd];lia,fun g hg=>?_,fun g hg c d=>?_,?_⟩
 ·rw[Jt]
  have e:Tn.nm∘tF=ss∘fun g:Tw=>g.1:=rfl
  rw[e,<-Jt]
  exact List.Nodup.sublist (x.tw.nm.map ss) (by decide+kernel)
 ·obtain⟨b,a,rfl⟩:=Jk.mp hg;exact x.tw.ln b a
 ·obtain⟨b,a,rfl⟩:=Jk.mp hg
  obtain⟨h1,h2⟩:=x.tw.ok b a c d
  refine⟨h1,fun f=>?_⟩
  rw[Ap,zG,<-x.rk] at h2
  have:(cA (Gm (W'.filterMap de)) c).isSome=true:=gu.mpr f
  rw[this] at h2;cases h2
 ·exact K2.mpr (List.pairwise_flatMap.mp x.tw.nd).2
end
theorem yU(h1:yq a rs)(e:yq b rs):a=b:=
 List.Perm.eq_of_pairwise (le:=fun c d=>HT.lexLt (t3 d) (t3 c)=false) (fun _ _ _ _ f g=>jz (jD _ _ g f)) h1.2 e.2 (h1.1.trans e.1.symm)
section
variable {P:Program} {w:World} {K:Je} {mg:Str->Option Value} {base:Heap}
set_option maxHeartbeats 1000000
theorem Dg(h:1<=x.length):∃c r,cp x=c::r:=by
 have a:=c9 x
 cases e:cp x with
 |nil=>rw[e] at a;simp at a;lia
 |cons c r=>exact⟨c,r,rfl⟩
theorem oA{C:Type}{rest:St}(d:List C)(m:C->V)(R:Hp->V->C->Prop)(up:∀{H H' v z},R H v z->Sb D H H'->(∃xs,H D=some (.lst xs))->R H' v z)(w:(J=pM K a/\H a=some (.lst (d.map m)))\/(J=Gw K a/\H a=some (.tup (d.map m))))(E:H D=none)(P:d.length<=1000)
  (O:∀z∈d,∀H',ah H H'->(∃xs,H' D=some (.lst xs))->∀Qv:VK,(∀v H2,ah H' H2->R H2 v z->Qv v H2)->te (some (m z)::rest) H' Qv) (q:∀vs H',ah H H'->H' D=some (.lst vs)->Paired (R H') vs d->Q H'):sI (none::rest) (cT 0) rV te J H D Q:=by
 have c:sizeLine=2^24:=rfl
 have st:∀i x g H',(d.map m)[i]?=some x->(∃(f:Option V) (vs:List V),g=f::rest/\ah H H'/\H' D=some (.lst vs)/\Paired (R H') vs (d.take i))->cT 0 x g H' fun l H2=>rV l H2 fun b H3=>if b=true then te l H3 fun v H4=>∃j,H4 D=some (.lst j)/\j.length<sizeLine/\(∃(f:Option V) (vs:List V),l=f::rest/\ah H (upd H4 D (.lst (j++[v])))/\upd H4 D (.lst (j++[v])) D=some (.lst vs)/\Paired (R (upd H4 D (.lst (j++[v])))) vs (d.take (i+1))) else (∃(f:Option V) (vs:List V),l=f::rest/\ah H H3/\H3 D=some (.lst vs)/\Paired (R H3) vs (d.take (i+1))):=by
  rintro i x g H' M ⟨f,vs,rfl,A,p,y⟩
  obtain⟨z,F,rfl⟩:=gD M
  have N:=Paired.length y
  rw[JB] at N
  refine gn (fK (O z (Jy F) H' A ⟨_,p⟩ _ fun v H2 B r=>⟨vs,B _ _ p,by omega,_,vs++[v],rfl,bf (A.trans B) E,ae,?_⟩))
  have sb:∀o,Sb D H2 (upd H2 D o):=fun o b u n h=>by rw[ak n];exact h
  have G:=B _ _ p
  rw[aT F]
  exact bL (up r (sb _) ⟨_,G⟩) (Paired.mapP y fun _ _ h=>up (up h (fun b o _ e=>B _ _ e) ⟨_,p⟩) (sb _) ⟨_,G⟩)
 have I:∀g H',(∃(f:Option V) (vs:List V),g=f::rest/\ah H H'/\H' D=some (.lst vs)/\Paired (R H') vs (d.take (d.map m).length))->Q H':=by
  rintro g H' ⟨f,vs,rfl,A,p,y⟩
  rw[Jd,JI] at y
  exact q vs H' A p y
 rcases w with ⟨rfl,w⟩|⟨rfl,w⟩
 ·exact cm (K:=K) (xs:=d.map m) (fun i g H'=>∃(f:Option V) (vs:List V),g=f::rest/\ah H H'/\H' D=some (.lst vs)/\Paired (R H') vs (d.take i)) ⟨none,[],rfl,(ah.refl H).upd E,ae,.nil⟩ (fun i g H' _ ⟨_,_,_,s,_⟩=>aH.of (s _ _ w)) st I
 ·exact B2 (K:=K) (xs:=d.map m) (fun i g H'=>∃(f:Option V) (vs:List V),g=f::rest/\ah H H'/\H' D=some (.lst vs)/\Paired (R H') vs (d.take i)) ⟨none,[],rfl,(ah.refl H).upd E,ae,.nil⟩ (fun i g H' _ ⟨_,_,_,s,_⟩=>cn.of (s _ _ w)) st I
theorem k_{c:Type}{rest:St}(b:List c)(d:c->V)(R:Hp->V->c->Prop)(up:∀{H H' v z},R H v z->Sb D H H'->(∃xs,H D=some (.lst xs))->R H' v z)(e:H a=some (.lst (b.map d)))(g:H D=none)(f:b.length<=1000)
  (h:∀z∈b,∀H',ah H H'->(∃xs,H' D=some (.lst xs))->∀Qv:VK,(∀v H2,ah H' H2->R H2 v z->Qv v H2)->te (some (d z)::rest) H' Qv) (q:∀vs H',ah H H'->H' D=some (.lst vs)->Paired (R H') vs b->Q H'):sI (none::rest) (cT 0) rV te (pM K a) H D Q:=oA b d R up (.inl ⟨rfl,e⟩) g f h q
theorem zi(h:H b=some (.tup ys))(s:Sb D H H')(e:∃xs,H D=some (.lst xs)):H' b=some (.tup ys):=s _ _ (fun z=>by obtain⟨xs,e⟩:=e;rw[z,e] at h;cases h) h
theorem vC(h:Paired (fun v p=>∃t,v=.ref t/\A3 H t p) vs ps):∃as:List Addr,vs=as.map V.ref/\bB H as (ps.map t3):=by
 induction h with
 |nil=>exact⟨[],rfl,.nil⟩
 |cons h _ ih=>
  obtain⟨t,rfl,h⟩:=h
  obtain⟨as,rfl,h2⟩:=ih
  exact⟨t::as,rfl,.cons h h2⟩
theorem uv{ns:List Nat}(h:Paired (fun(v:V) (n:Nat)=>v=.int n) vs ns):vs=ns.map fun n=> .int (n:Nat):=by
 induction h with
 |nil=>rfl
 |cons h _ ih=>rw[h,ih];rfl
theorem og(h:p.1<16/\p.2.1<16/\p.2.2<16):(eN p).length<=9/\∀c∈eN p,c=46\/(48<=c/\c<=57):=by
 obtain⟨h1,h2,g⟩:=h
 have l1:=cW (k:=2) (n:=p.1) (by decide) (by lia)
 have d:=cW (k:=2) (n:=p.2.1) (by decide) (by lia)
 have f:=cW (k:=2) (n:=p.2.2) (by decide) (by lia)
 refine⟨?_,fun c b=>?_⟩
 ·unfold eN;rw[Ih];simp only[Js,JC];lia
 ·rcases Au b with e|⟨w,a,hd⟩
  ·exact .inl e
  ·simp only[Jo,JM,or_false] at a
   rcases a with rfl|rfl|rfl<;>exact .inr (kM _ c hd)
theorem G1(h:∀c∈l,c<128)(a:l.length<=1000):Pl (ss l):=Pl.of (by rw[dF];exact h) (by rw[dF];exact a)
theorem GN(h:n<10^18):Pl (ss (dg n)):=G1 (fun c a=>by have:=kM n c a;lia) (Jn (cW (k:=18) (by decide) h) (by decide))
theorem Bp(h:n<10^18)(q:∀H',ah H H'->Q (.int (n:Nat)) H'):j5 [sv (dg n)] H Q E:=⟨ss (dg n),rfl,GN h,.inl ⟨by rw[dF];exact DA h,fun H' s=>by rw[dF,FZ];exact q H' s⟩⟩
theorem GK(h:Sm ps):∀p∈ps,p.1<16/\p.2.1<16/\p.2.2<16:=fun p a=>by have:=h p a;lia
theorem gT(h:Ev ta σ H (.ref p)):iU (jk (fZ (fun x y H Q=>y=.non/\Q (.bl (decide (x=.non))) H) ta (tC .non))) σ H false:=cC (aE (ou h aq)) rfl
theorem GU(h:bB H as ([p].map t3)):∃a,as=[a]/\A3 H a p:=by
 cases h with|cons h1 h=>cases h;exact⟨_,rfl,h1⟩
theorem GL(h:bB H as ([p,q].map t3)):∃a b,as=[a,b]/\A3 H a p/\A3 H b q:=by
 cases h with|cons h1 h=>cases h with|cons h2 h=>cases h;exact⟨_,_,rfl,h1,h2⟩
theorem GM(h:AL H l ps)(hl:ps.length=1\/ps.length=2):∃vs a b,H l=some (.lst vs)/\vs.length=ps.length/\jW vs 0=some (.ref a)/\jW vs (-1)=some (.ref b)/\A3 H a (hd ps)/\A3 H b (ls ps):=by
 obtain⟨as,h1,h2⟩:=h
 rcases hl with hl|hl
 ·obtain⟨p,rfl⟩:=I_ hl
  obtain⟨a,rfl,c⟩:=GU h2
  exact⟨_,a,a,h1,rfl,rfl,rfl,c,c⟩
 ·obtain⟨p,q,rfl⟩:=IT hl
  obtain⟨a,b,rfl,c,d⟩:=GL h2
  exact⟨_,a,b,h1,rfl,rfl,rfl,c,d⟩
theorem fV{a:List (List Nat)}(us:List (List Nat))(b:Ev ta σ H (.ref l))(h1:∀(H:Hp) (R:Option Int->Hp->Prop),R lo H->tl σ H R)(d:∀(H:Hp) (R:Option Int->Hp->Prop),R hi H->th σ H R)(c:WL H l a)(e:dU (a.map sv) lo hi=us.map sv)(q:∀p H',ah H H'->WL H' p us->Q (.ref p) H'):CS (oU K) ta tl th σ H Q:=
 b _ (h1 _ _ (d _ _ ⟨l,_,rfl,aH.of c,fun p np=>q p _ ((ah.refl H).upd np) (by unfold WL;rw[<-e];exact ae)⟩))
theorem so:∀(H:Hp) (R:Option Int->Hp->Prop),R none H->gI σ H R:=fun _ _ h=>h
theorem zU:∀(H:Hp) (R:Option Int->Hp->Prop),R (some i) H->gf (tC (.int i)) σ H R:=fun _ _ h=>⟨i,rfl,h⟩
theorem Jb(h:σ[n]?=some (some (.int i))):∀(H:Hp) (R:Option Int->Hp->Prop),R (some i) H->gf (dE n) σ H R:=fun _ _ r=>aa h _ ⟨i,rfl,r⟩
theorem Fu (a:List (List Nat))(i j:Nat)(h:i<=j)(b:j<=a.length):dU (a.map sv) (some (i:Int)) (some (j:Int))=((a.drop i).take (j - i)).map sv:=by
 unfold dU HT.sIx
 rw[Jd]
 simp
 rw[if_neg (show¬((j:Int)<0) by lia),if_neg (show¬((i:Int)<0) by lia),Le b,Le (Jn h b)]
theorem iT (a:List (List Nat))(i:Nat)(h:i<=a.length):dU (a.map sv) (some (i:Int)) none=(a.drop i).map sv:=by rw[oZ _ _ (by rw[Jd];exact h),KJ]
theorem CC (a:List (List Nat))(i:Nat)(h:i<=a.length):dU (a.map sv) none (some (i:Int))=(a.take i).map sv:=by rw[tX _ _ (by rw[Jd];exact h),KI]
theorem AQ(h:p.1<16/\p.2.1<16/\p.2.2<16):eN p≠L "to" :=fun e=>by
 have h2:=(og h).2
 rw[e] at h2
 have:=h2 116 (by decide+kernel)
 lia
theorem AJ(h:ss a=ss b):a=b:=by rw[<-dF a,h,dF]
theorem Fe(h1:Sm cs)(d:Sm ds):((cs.map eN++L "to" ::ds.map eN).map ss).count (Str.ofString "to")=1:=by
 have z:∀{ps:List P3},Sm ps->((ps.map eN).map ss).count (Str.ofString "to")=0:=fun f=>List.count_eq_zero.mpr fun c=>by
  obtain⟨w,b,e⟩:=Jk.mp c
  obtain⟨p,a,rfl⟩:=Jk.mp b
  exact AQ (GK f p a) (AJ (e.trans (qu (Ff "to"))))
 rw[Jl,List.count_append,Jr,List.count_cons,z h1,z d,show ss (L "to")=Str.ofString "to" from(qu (Ff "to")).symm]
 simp
theorem s_ (a:List (List Nat)):a.map sv=(a.map ss).map V.str:=by rw[Jt];rfl
theorem AD(h:to σ H fun x H1=>Gc K T x H1/\ta σ H1 fun xs H2=>r x xs H2 Q):Hn K T r to ta σ H Q:=h
theorem IZ(h:∀H,Ev te σ H (.int i)):∀(H:Hp) (R:Option Int->Hp->Prop),R (some i) H->gf te σ H R:=fun H _ r=>h H _ ⟨i,rfl,r⟩
theorem iy(h:Ev ta σ H (.str (kS (kd r))))(a:j<=6):iU (jk (fZ Hw ta (tC (.str (kS j))))) σ H (decide (kd r=j)):=cC (aE (jA h aq)) (by rw[zm _ (qc r) _ a])
theorem EZ{ns:List Nat}(h:Paired (fun(v:V) (n:Nat)=>v=sv (dg n)) vs ns):vs=(ns.map fun n=>ss (dg n)).map V.str:=by
 induction h with
 |nil=>rfl
 |cons h _ ih=>rw[h,ih];rfl
theorem pB (n:Nat):Str.ofString (toString ((n:Nat):Int))=ss (dg n):=qu (EO n)
theorem Dw:∃s:Str,jW [V.str (Str.ofString ""),.str (Str.ofString " "),.str (Str.ofString ";"),.str (Str.ofString "  ; rock 0.0.0"),.str (Str.ofString " ;; floor 1 1 1 ;")] (i%5)=some (.str s)/\(cp s).length<=17/\((∃n,cp s=List.replicate n 32)\/∃n z,cp s=List.replicate n 32++59::z/\∀d∈z,d≠10/\d<128):=by
 rcases(show i%5=0\/i%5=1\/i%5=2\/i%5=3\/i%5=4 by lia) with h|h|h|h|h<;>rw[h]
 ·exact⟨_,rfl,by decide+kernel,.inl ⟨0,by decide+kernel⟩⟩
 ·exact⟨_,rfl,by decide+kernel,.inl ⟨1,by decide+kernel⟩⟩
 ·exact⟨_,rfl,by decide+kernel,.inr ⟨0,[],by decide+kernel,fun d hd=>nomatch hd⟩⟩
 ·exact⟨_,rfl,by decide+kernel,.inr ⟨2,L " rock 0.0.0",by decide+kernel,by decide+kernel⟩⟩
 ·exact⟨_,rfl,by decide+kernel,.inr ⟨1,L "; floor 1 1 1 ;",by decide+kernel,by decide+kernel⟩⟩
theorem EL (k:Nat)(a b:List Rw):fk k (a++b)=fk k a++fk k b:=Kl ..
theorem jw (k:Nat)(a b:List Rw):fq k (a++b)=fq k a++fq k b:=Kl ..
theorem D6(h:∀r∈a,kq r≠k):fq k a=[]:=List.filter_eq_nil_iff.mpr fun r hr=>by simpa using h r hr
theorem yr {a:List (List Rw)}(h:r∈a.flatten):∃q∈a,r∈q:=List.mem_flatten.mp h
theorem yN {l r:List (List Rw)}(h:qG (l++(x::q)::r))(k:Nat):fq k (l++(x::q)::r).flatten=fq k [x]++fq k (l++q::r).flatten/\qG (l++q::r):=by
 have f:=L6.mp h
 refine⟨?_,L6.mpr ⟨f.1,?_,fun a ha b hb=>?_⟩⟩
 ·rw[List.flatten_append,List.flatten_append,Lz,Lz,jw,jw,jw,jw]
  have e:fq k (x::q)=fq k [x]++fq k q:=jw k [x] q
  rw[e]
  by_cases hk:kq x=k
  ·rw[D6 (a:=l.flatten) fun s d=>?_]
   ·simp
   ·obtain⟨c,i,d⟩:=yr d
    rw[<-hk];exact f.2.2 c i _ Jp s d x Jp
  ·rw[D6 (a:=[x]) fun s d=>by rw[Jv.mp d];exact hk];simp
 ·have h2:=L8.mp f.2.1
  exact L8.mpr ⟨fun b hb s d=>h2.1 b hb s (Jq _ d),h2.2⟩
 ·rcases Jo.mp hb with rfl|hb
  ·exact fun s d t g=>f.2.2 a ha _ Jp s d t (Jq _ g)
  ·exact f.2.2 a ha b (Jq _ hb)
theorem FN {l r:List (List Rw)}(h:qG (l++[]::r)):qG (l++r):=List.Pairwise.sublist (by simp) h
theorem kW (r:Rw):iM r≠[]:=by unfold iM;simp
theorem Gr(h:p.1<8/\p.2.1<8/\p.2.2<8):(eN p).length<=5/\(eN p)≠[]/\∀c∈eN p,33<=c/\c<128/\c≠59:=by
 have l1:=cW (k:=1) (n:=p.1) (by decide) (by lia)
 have b:=cW (k:=1) (n:=p.2.1) (by decide) (by lia)
 have d:=cW (k:=1) (n:=p.2.2) (by decide) (by lia)
 refine⟨?_,?_,fun c a=>?_⟩
 ·unfold eN;rw[Ih];simp only[Js,JC];lia
 ·unfold eN;rw[Ih];simp
 ·have:=(og (p:=p) (by lia)).2 c a;lia
theorem kT(h:n<10^k)(b:1<=k):(dg n).length<=k/\dg n≠[]/\∀c∈dg n,33<=c/\c<128/\c≠59:=⟨cW b h,yV n,fun c a=>by have:=kM n c a;lia⟩
def Cg (n:Nat) (w:List Nat):Prop:=w.length<=n/\w≠[]/\∀c∈w,33<=c/\c<128/\c≠59
theorem kX {ws:List (List Nat)}:∀{ns:List Nat},Paired (fun w n=>Cg n w) ws ns->(ns.map (· +3)).sum<=80->EH ws:=by
 intro ns h a
 refine⟨fun w b=>?_,Jn ?_ a⟩
 ·obtain⟨i,hi⟩:=List.getElem?_of_mem b
  obtain⟨n,_,r⟩:=aU h hi
  exact r.2
 ·clear a
  induction h with
  |nil=>exact Jg _
  |cons h _ ih=>simp only[Jr,J9];have:=h.1;lia
theorem nK:∀{ps:List P3},Sm ps->Paired (fun w n=>Cg n w) (ps.map eN) (List.replicate ps.length 5)
 |[],_=> .nil
 |p::ps,h=> .cons (Gr (h p Jp)) (nK fun q a=>h q (Jq _ a))
theorem B0 {a us:List (List Nat)}{ns:List Nat}(h:Paired (fun w n=>Cg n w) a ns)(b:Paired (fun w n=>Cg n w) us ms):Paired (fun w n=>Cg n w) (a++us) (ns++ms):=by
 induction h with
 |nil=>exact b
 |cons h _ ih=>exact .cons h ih
theorem CK (n:Nat):((List.replicate n 5).map (· +3)).sum=n*8:=by
 induction n with
 |zero=>rfl
 |succ n ih=>rw[KD,Jr,J9,ih];lia
theorem zP(h:mW x=true)(a:x.length<=9):Cg 9 x:=by
 cases x with
 |nil=>cases h
 |cons c r=>
  rw[jt] at h
  simp only[Ki,decide_eq_true_iff,La,LB] at h
  have al:∀c∈i6++Ab,33<=c/\c<128/\c≠59:=by decide+kernel
  exact⟨a,by simp,fun d hd=>al d (by
   rcases Jo.mp hd with rfl|hd
   ·exact K4 _ h.1.2
   ·exact Jz.mpr (h.2 d hd))⟩
theorem DV(h:iG r):EH (iM r):=by
 have k0:∀k,k<=6->(cp (kS k)).length<=6/\cp (kS k)≠[]/\∀c∈cp (kS k),33<=c/\c<128/\c≠59:=by decide+kernel
 have e:Cg 1 [48]:=by unfold Cg;decide
 have d:Cg 6 (cp (kS (kd r))):=k0 _ (qc r)
 cases r with
 |floor z=>
  obtain⟨h1,h2,i⟩:=h
  exact kX (ns:=[6,1,1,1]) (.cons d (.cons (kT (k:=1) (by lia) (by decide)) (.cons (kT (k:=1) (by lia) (by decide)) (.cons (kT (k:=1) (by lia) (by decide)) .nil)))) (by decide)
 |layer a b=>exact kX (ns:=[6,14,14]) (.cons d (.cons (kT h.1 (by decide)) (.cons (kT h.2 (by decide)) .nil))) (by decide)
 |via a=>exact kX (ns:=[6,14]) (.cons d (.cons (kT h (by decide)) .nil)) (by decide)
 |rock cs=>
  refine kX (ns:=6::List.replicate cs.length 5) (.cons d (nK h.1)) ?_
  rw[Jr,J9,CK];have:=h.2;lia
 |toll p cs=>
  refine kX (ns:=6::14::List.replicate cs.length 5) (.cons d (.cons (kT (k:=14) (Ll h.1 (by decide)) (by decide)) (nK h.2.1))) ?_
  rw[Jr,J9,Jr,J9,CK];have:=h.2.2;lia
 |net x cs=>
  refine kX (ns:=6::9::1::1::List.replicate cs.length 5) (.cons d (.cons (zP h.2.2.1 h.2.2.2) (.cons e (.cons e (nK h.1))))) ?_
  simp only[Jr,J9,CK];have:=h.2.1;lia
 |bun x cs ds=>
  obtain⟨h1,h2,i,g,f⟩:=h
  refine kX (ns:=6::9::1::(List.replicate cs.length 5++2::List.replicate ds.length 5)) (.cons d (.cons (zP g f) (.cons e (B0 (nK h1) (.cons ⟨by decide+kernel,by decide+kernel,by decide+kernel⟩ (nK h2)))))) ?_
  simp only[Jr,J9,Jl,LQ,CK];lia
def CQ (a H:Hp) (c:Addr) (q:List Rw):Prop:=∃vs,H c=some (.lst vs)/\Paired (RA a) vs q
def gG:List Str:=["", "   ", ";", " ; net"].map Str.ofString
theorem AX:∀s∈gG,mR [] s:=by
 intro s a
 simp only[gG,Jr,KR,Jo,JM,or_false] at a
 rcases a with rfl|rfl|rfl|rfl
 ·exact mR.plain (by decide+kernel) (by unfold Cl;decide+kernel) (by decide+kernel)
 ·exact mR.plain (by decide+kernel) (by unfold Cl;decide+kernel) (by decide+kernel)
 ·exact mR.tail (y:=[]) (z:=[]) (by decide+kernel) (by decide+kernel) (fun d hd=>nomatch hd) (fun d hd=>nomatch hd) (by decide+kernel)
 ·exact mR.tail (y:=[32]) (z:=L " net") (by decide+kernel) (by decide+kernel) (by unfold Cl;decide) (by decide+kernel) (by decide+kernel)
structure CB (z:P3) (rs:List (List Str×Str)) (W:List Rw):Prop where
 row:∀p∈rs,mR p.1 p.2
 w:(rs.map (·.1)).filter (fun ws=>!ws.isEmpty)=((.floor z::W:List Rw)).map fun r=>(iM r).map ss
theorem CB.none{a:List (List Str×Str)}(h:CB z a W){x:Str}(hx:mR [] x):CB z (a++[([],x)]) W:=⟨fun p b=>by
 rcases Jz.mp b with w|w
 ·exact h.row p w
 ·rw[Jv.mp w];exact hx,by rw[Jl,Kl,h.w];simp⟩
theorem CB.one{a:List (List Str×Str)}(h:CB z a W){x:Str}{r:Rw}(hx:mR ((iM r).map ss) x):CB z (a++[((iM r).map ss,x)]) (W++[r]):=⟨fun p b=>by
 rcases Jz.mp b with w|w
 ·exact h.row p w
 ·rw[Jv.mp w];exact hx,by
 rw[Jl,Kl,h.w]
 simp[kW]⟩
theorem qf {d f:Type}{R:d->f->Prop}:∀{as:List d} {bs:List f} (_:Paired R as bs) {i:Nat} {a:d},as[i]?=some a->∃l b r,bs=l++b::r/\l.length=i/\R a b/\Paired R (as.eraseIdx i) (l++r)/\∀c,R a c->Paired R as (l++c::r)
 |_,_,.cons (l₁:=as) (l₂:=bs) h t,0,a,e=>by cases e;exact⟨[],_,_,rfl,rfl,h,t,fun c h'=> .cons h' t⟩
 |_,_,.cons h t,i+1,a,e=>by
  obtain⟨l,b,r,m,n,g,j,o⟩:=qf t (i:=i) e
  exact⟨_::l,b,r,by rw[m];rfl,by rw[JC,n],g,.cons h j,fun c h'=> .cons h (o c h')⟩
structure wx (H0:Hp) (D R:Addr) (cs:List Addr) (qs:List (List Rw)) (ts:List Str) (H:Hp):Prop where
 sm:ah H0 H
 hD:H D=some (.lst (cs.map V.ref))
 hR:H R=some (.lst (ts.map V.str))
 nd:cs.Nodup
 nw:∀c∈cs,H0 c=none/\c≠D/\c≠R
 cq:Paired (CQ H0 H) cs qs
theorem wx.same{a:List (List Rw)}(x:wx H0 D R cs a ts H)(s:ah H H'):wx H0 D R cs a ts H':=
 {x with sm:=x.sm.trans s,hD:=s _ _ x.hD,hR:=s _ _ x.hR,cq:=Paired.mapP x.cq fun _ _ ⟨vs,h1,h2⟩=>⟨vs,s _ _ h1,h2⟩}
theorem BW {c d:Type}{R S:c->d->Prop}{as:List c}{bs:List d}(h:Paired R as bs)(f:∀a∈as,∀b,R a b->S a b):Paired S as bs:=by
 induction h with
 |nil=>exact .nil
 |cons h t ih=>exact .cons (f _ Jp _ h) (ih fun a ha=>f a (Jq _ ha))
theorem wx.row{b:List (List Rw)}(x:wx H0 D R cs b ts H)(e:H0 R=none)(a:D≠R):wx H0 D R cs b us (upd H R (.lst (us.map V.str))):=
 {x with sm:=bf x.sm e,hD:=by rw[ak a];exact x.hD,hR:=ae,cq:=BW x.cq fun c d _ ⟨vs,h1,h2⟩=>⟨vs,by rw[ak (x.nw c d).2.2];exact h1,h2⟩}
theorem wx.row1{b:List (List Rw)}(x:wx H0 D R cs b ts H)(c:H0 R=none)(a:D≠R)(t:Str):wx H0 D R cs b (ts++[t]) (upd H R (.lst (ts.map V.str++[.str t]))):=by
 have:=x.row (us:=ts++[t]) c a
 rw[Jl] at this
 exact this
theorem G6 {i n:Nat}(h:i<n):seqIndex? (i:Int) n=some i:=by
 unfold seqIndex?
 simp only[show¬((i:Int)<0) by lia,if_false]
 simp;lia
theorem u9 {b c:Type}(f:b->c):∀(l:List b) (i:Nat),(l.map f).eraseIdx i=(l.eraseIdx i).map f
 |[],_=>rfl
 |_::_,0=>rfl
 |a::l,i+1=>by show f a::(l.map f).eraseIdx i=f a::(l.eraseIdx i).map f;rw[u9 f l i]
theorem qY(j:o=.lst vs){m:List Rw}(n:Paired (RA H0) vs m):∀{cs:List Addr} {g:List (List Rw)} (_:Paired (CQ H0 H) cs g) (_:cs.Nodup) {i:Nat},cs[i]?=some c->∃l b r,g=l++b::r/\l.length=i/\CQ H0 H c b/\Paired (CQ H0 (upd H c o)) cs (l++m::r)
 |_,_,.cons (l₁:=cs) (l₂:=g) h t,d,0,e=>by
  cases e
  have d:=Ko.mp d
  exact⟨[],_,_,rfl,rfl,h,.cons ⟨vs,by rw[j,ae],n⟩ (BW t fun a ha _ ⟨us,h1,h2⟩=>⟨us,by rw[ak fun z=>d.1 (by rw[<-z];exact ha)];exact h1,h2⟩)⟩
 |_,_,.cons (a:=a) h t,d,i+1,e=>by
  have d:=Ko.mp d
  obtain⟨l,b,r,s,u,p,q⟩:=qY j n t d.2 (i:=i) e
  have f:a≠c:=fun z=>d.1 (by rw[z];exact Jy e)
  obtain⟨us,h1,h2⟩:=h
  exact⟨_::l,b,r,by rw[s];rfl,by rw[JC,u],p,.cons ⟨us,by rw[ak f];exact h1,h2⟩ q⟩
theorem F1 {l r:List (List Rw)}:((l++b::r).map fun q=>q.length+1).sum=((l++r).map fun q=>q.length+1).sum+(b.length+1):=by
 rw[Jl,LQ,Jr,J9,Jl,LQ];lia
inductive II (H0:Hp) (D R:Addr) (z:P3) (qs:List (List Rw)):Nat->St->Hp->Prop
 |mk {n:Nat} {H':Hp} (m:Int) (x3:Option V) (cs:List Addr) (qs':List (List Rw)) (rs:List (List Str×Str)) (W:List Rw) (m0:0<=m) (x:wx H0 D R cs qs' (rs.map (·.2)) H') (hrw:CB z rs W) (dj:qG qs') (hf:∀k,fq k W++fq k qs'.flatten=fq k qs.flatten) (ho:∀q∈qs',∀r∈q,iG r/\kd r≠0) (hw:∀r∈W,iG r/\kd r≠0) (hn:n=(qs'.map fun q=>q.length+1).sum) (hl:rs.length+2*n<=90):II H0 D R z qs n [some (.ref D),some (.int m),some (.ref R),x3] H'
theorem Br (c:List (List Str)):(g9 c).map (·.1)=c.filter fun b=>!b.isEmpty:=by
 unfold g9
 have:∀(l:List (List Str)) (k:Nat),((l.zipIdx k).filter fun p=>!p.1.isEmpty).map (·.1)=l.filter fun b=>!b.isEmpty:=by
  intro l
  induction l with
  |nil=>intro k;rfl
  |cons a r ih=>
   intro k
   rw[List.zipIdx_cons,List.filter_cons,List.filter_cons]
   cases a with
   |nil=>simpa using ih (k+1)
   |cons _ _=>simp[ih (k+1)]
 exact this c 0
theorem m4 (k:Nat):sv (cp (kS k))=.str (kS k):=by unfold sv;rw[D9]
theorem A9 {c d e:Type}{R:c->e->Prop}{g:d->e}{as:List c}{bs:List d}(h:Paired (fun a b=>R a (g b)) as bs):Paired R as (bs.map g):=by
 induction h with
 |nil=>exact .nil
 |cons h t ih=>exact .cons h ih
theorem cy(h:σ[n]?=some (some (.ref p)))(e:A3 H p g)(a:jW ((t3 g).map V.int) i=some v):Ev (fZ (w8 K) (dE n) (tC (.int i))) σ H v:=d_ (aa h) aq (cn.of e) a
theorem pH(d:a<8)(c:b<8):(iu a b).length<=8:=by rw[pf];lia
theorem o_(h:i<(iu a b).length):(iu a b)[i]?=some (min a b+i):=by
 rw[pf] at h
 unfold iu
 rw[List.getElem?_range' h,Nat.one_mul]
theorem tH{K:Je}(h1:Ev ta σ H (.int (a:Nat)))(d:Ev tb σ H (.int (b:Nat)))(f:Ev tc σ H (.int (a:Nat)))(e:Ev td σ H (.int (b:Nat)))(l:a<8)(h:b<8)(q:fT (fun _ H R=>R (wH ((min a b:Nat):Int) (iu a b).length) H) g tbd D σ H):
  fT (zJ (b_ (oC (fun xs H Q=>∃i j:Int,xs=[.int i,.int j]/\Q (.int (if j<i then j else i)) H) (b_ ta (b_ tb eG))) (b_ (fZ (vQ fun i j=> .int (i+j)) (oC (fun xs H Q=>∃i j:Int,xs=[.int i,.int j]/\Q (.int (if j>i then j else i)) H) (b_ tc (b_ td eG))) (tC (.int 1))) eG))) g tbd D σ H:=by
 refine Df (i:=((min a b:Nat):Int)) (j:=((max a b+1:Nat):Int)) (af (bg (cZ (af h1 (af d ao)) fun Q' c=>⟨_,_,rfl,c⟩) (by rw[A4];congr 1;lia)) (af (bg (br (g:=fun i j=> .int (i+j)) (cZ (af f (af e ao)) fun Q' c=>⟨_,_,rfl,c⟩) aq) (by rw[Eg];show V.int _=V.int _;congr 1;lia)) ao)) (by lia) ?_
 rw[show(((max a b+1:Nat):Int) - ((min a b:Nat):Int)).toNat=(iu a b).length by rw[pf];lia]
 exact q
theorem uQ (m:V)(ps:List P3)(kvs:Kv):(ps.foldl (kK m) kvs).length<=kvs.length+ps.length:=by
 induction ps generalizing kvs with
 |nil=>exact Jg _
 |cons p r ih=>
  have:=ih (kK m kvs p)
  have h:(kK m kvs p).length<=kvs.length+1:=eS _ _ _
  rw[J8,JC];lia
theorem tE {a b:Type}{g:a->List b}(h:∀x,(g x).length<=k):∀xs:List a,(xs.flatMap g).length<=xs.length*k
 |[]=>by simp
 |x::xs=>by rw[List.flatMap_cons,Js,JC,Nat.succ_mul];have:=h x;have:=tE h xs;lia
theorem pI(c:eo f)(d:eo s):(bx f s).length<=512:=by
 have g:=pH c.1 d.1
 have h:=pH c.2.1 d.2.1
 have e:=pH c.2.2 d.2.2
 have h1:∀a b,(om f s a b).length<=8:=fun a b=>by unfold om;rw[Jd];exact e
 have h2:∀a,(rC f s a).length<=64:=fun a=>Jn (tE (h1 a) _) (Jn (Nat.mul_le_mul_right 8 h) (by decide))
 exact Jn (tE h2 _) (Jn (Nat.mul_le_mul_right 64 g) (by decide))
theorem oQ {K:Je}{A d:Addr}{as:List Addr}{ps:List P3}{kvs:Kv}{m:V}{n i:Nat}{y:TE}{D:fJ}{r:St}{H:Hp}(w:H A=some (.lst (as.map V.ref)))(B:bB H as (ps.map t3))(hd:H d=some (.dT kvs))(O:kvs.length+ps.length<=10^6)(C:∀v,(r.set n (some v))[i]?=some (some (.ref d)))(J:∀v,(r.set n (some v))[n]?=some (some v))(F:∀v H',Ev y (r.set n (some v)) H' m)
  (q:∀o H',(o=r\/∃v,o=r.set n (some v))->Sb d H H'->H' d=some (.dT (ps.foldl (kK m) kvs))->D.nx o H'):fT (fun _ H R=>R (pM K A) H) (cT n) (y8 (dE i) (dE n) y) D r H:=by
 have l:sizeLine=2^24:=rfl
 have g:=Paired.length B
 rw[Jd] at g
 refine cG (K:=K) (xs:=as.map V.ref) (fun j o H'=>(o=r\/∃v,o=r.set n (some v))/\Sb d H H'/\H' d=some (.dT ((ps.take j).foldl (kK m) kvs))) ⟨.inl rfl,Sb.refl d H,hd⟩ (fun j o H' _ ⟨_,s,_⟩=>aH.of (s _ _ (iD w hd fun z=>nomatch z) w)) ?_ ?_
 ·rintro j x o H' E ⟨u,s,a⟩
  obtain⟨b,G,rfl⟩:=gD E
  obtain⟨c,I,f⟩:=aU B G
  obtain⟨p,N,rfl⟩:=gD I
  have e:o.set n (some (.ref b))=r.set n (some (.ref b)):=by
   rcases u with rfl|⟨v,rfl⟩
   ·rfl
   ·rw[List.set_set]
  refine gn ?_
  rw[e]
  have M:=uQ m (ps.take j) kvs
  rw[JB] at M
  have h:=s _ _ (iD f hd fun z=>nomatch z) f
  refine vM (F _ _) (aa (C _)) (aa (J _)) (oK.t a (A2 h) (by omega)) ⟨.inr ⟨_,rfl⟩,s.set,?_⟩
  rw[ae,aT N,List.foldl_append];rfl
 ·rintro o H' ⟨u,s,a⟩
  rw[Jd,g,JI] at a
  exact q o H' u s a
theorem jT (bs:List (V×P3×P3))(b:V×P3×P3):mk (bs++[b])=CP (mk bs) b:=by unfold mk;rw[List.foldl_append];rfl
theorem BC:∀{bs:List (V×P3×P3)},(∀b∈bs,eo b.2.1/\eo b.2.2)->(mk bs).length<=512*bs.length:=by
 intro bs
 induction bs using qD with
 |h0=>intro _;exact JA _
 |h1 bs b ih=>
  intro h
  have h1:=ih fun x c=>h x (K4 _ c)
  have a:=h b (by simp)
  rw[jT,Js]
  have:=uQ b.1 (bx b.2.1 b.2.2) (mk bs)
  have:=pI a.1 a.2
  show((bx b.2.1 b.2.2).foldl (kK b.1) (mk bs)).length<=512*(bs.length+1)
  lia
theorem CL (a b:Nat):iu a b=iu b a:=by unfold iu;rw[Nat.min_comm,Nat.max_comm]
structure Sw (p q f s:P3):Prop where
 h1:(p.1=f.1/\q.1=s.1)\/(p.1=s.1/\q.1=f.1)
 h2:(p.2.1=f.2.1/\q.2.1=s.2.1)\/(p.2.1=s.2.1/\q.2.1=f.2.1)
 h3:(p.2.2=f.2.2/\q.2.2=s.2.2)\/(p.2.2=s.2.2/\q.2.2=f.2.2)
theorem Sw.bx(h:Sw p q f s):bx p q=bx f s:=by
 have u:∀{a b c d:Nat},(a=c/\b=d)\/(a=d/\b=c)->iu a b=iu c d:=fun h=>by
  rcases h with ⟨rfl,rfl⟩|⟨rfl,rfl⟩
  ·rfl
  ·exact CL _ _
 unfold K18.bx rC om
 rw[u h.h1,u h.h2,u h.h3]
theorem Sw.cor(h:Sw p q f s)(b:eo f)(d:eo s):IG [p,q] f s:=by
 obtain⟨h1,h2,e⟩:=id h
 refine⟨fun c a=>?_,.inr rfl,h.bx,fun z b d=>?_⟩
 ·unfold eo at*
  simp only[Jo,JM,or_false] at a
  rcases a with rfl|rfl<;>omega
 ·show In z p/\In z q
  unfold In at*
  omega
abbrev bS (cl sa rd td rl:Addr) (M:Int) (x6 x7 x8 x9 x10 x11 x12:Option V):St:=[some (.ref cl),some (.ref sa),some (.ref rd),some (.ref td),some (.ref rl),some (.int M),x6,x7,x8,x9,x10,x11,x12]
structure DK (H0:Hp) (z:P3) (rd td rl:Addr) (us:List V) (W:List Rw) (H:Hp):Prop where
 sm:ah H0 H
 hr:H rd=some (.dT (mk (W.filterMap de)))
 ht:H td=some (.dT (mk (W.filterMap dX)))
 hl:H rl=some (.lst us)
 rw:Paired (fun v r=>RA H v r/\v≠.ref rl) us W
 ok:t9 z W
theorem DK.same{rd:Addr}(x:DK H0 z rd td rl us W H)(s:ah H H'):DK H0 z rd td rl us W H':=
 {x with sm:=x.sm.trans s,hr:=s _ _ x.hr,ht:=s _ _ x.ht,hl:=s _ _ x.hl,rw:=Paired.mapP x.rw fun _ _ ⟨⟨a,e,h⟩,n⟩=>⟨⟨a,e,s _ _ h⟩,n⟩}
theorem kE(h:Sz z)(a:In z p):eo p:=by unfold Sz at h;unfold In at a;unfold eo;lia
theorem ya {W:List Rw}(h:∀r∈W,iG r/\(kd r=3\/kd r=4)/\∀c∈jM r,In z c)(a:Sz z){g:Rw->Option (V×P3×P3)}(f:∀r b,g r=some b->b.2.1∈jM r/\b.2.2∈jM r):∀b∈W.filterMap g,eo b.2.1/\eo b.2.2:=fun b d=>by
 obtain⟨r,hr,e⟩:=Kd.mp d
 have:=f r b e
 exact⟨kE a ((h r hr).2.2 _ this.1),kE a ((h r hr).2.2 _ this.2)⟩
theorem Cd (r:Rw)(b:V×P3×P3)(h:de r=some b):b.2.1∈jM r/\b.2.2∈jM r:=by
 cases r with
 |rock cs=>cases h;exact⟨by simp[jM],by simp[jM]⟩
 |_=>cases h
theorem BV (r:Rw)(b:V×P3×P3)(h:dX r=some b):b.2.1∈jM r/\b.2.2∈jM r:=by
 cases r with
 |toll p cs=>cases h;exact⟨by simp[jM],by simp[jM]⟩
 |_=>cases h
theorem DK.add {i H g:Hp}{z:P3}{rd j f d v:Addr}{us:List V}{W:List Rw}{r:Rw}{o:Kv}(x:DK i z rd j f us W H)(y:i f=none)(w:i d=none)(hd:H d=some (.dT o))(s:∀b o,b≠f->b≠d->H b=some o->g b=some o)(hl:g f=some (.lst (us++[.ref v])))(p:WL g v (iM r))(nv:v≠f)(hr:g rd=some (.dT (K18.mk ((W++[r]).filterMap de))))(ht:g j=some (.dT (K18.mk ((W++[r]).filterMap dX))))(ok:iG r/\(kd r=3\/kd r=4)/\∀c∈jM r,In z c)(m:W.length<21):DK i z rd j f (us++[.ref v]) (W++[r]) g where
 sm:=fun b u e=>s b u (ar e y) (ar e w) (x.sm _ _ e)
 hr:=hr
 ht:=ht
 hl:=hl
 rw:=bL ⟨⟨v,rfl,p⟩,fun z=>nv (by cases z;rfl)⟩ (Paired.mapP x.rw fun _ _ ⟨⟨a,e,h⟩,n⟩=>⟨⟨a,e,s _ _ (fun z=>n (by rw[e,z])) (iD h hd fun z=>nomatch z) h⟩,n⟩)
 ok:=⟨fun q l=>(Jz.mp l).elim (x.ok.ok q) fun e=>by rw[Jv.mp e];exact ok,by rw[Js];exact m⟩
inductive Ia (H0:Hp) (z:P3) (cl sa rd td rl:Addr) (M:Int):Nat->St->Hp->Prop
 |mk {i:Nat} {H':Hp} (x6 x7 x8 x9 x10 x11 x12:Option V) (us:List V) (W:List Rw) (x:DK H0 z rd td rl us W H') (hW:W.length=i):Ia H0 z cl sa rd td rl M i (bS cl sa rd td rl M x6 x7 x8 x9 x10 x11 x12) H'
theorem zd(h1:Ev ta σ H (.int (a:Nat)))(e:Ev tb σ H (.int (b:Nat)))(f:Ev tc σ H (.int c))(h:1<=a)(g:0<=c):Ev (oC (fun xs H Q=>∃i j:Int,xs=[.int i,.int j]/\Q (.int (if j<i then j else i)) H) (b_ (fZ (vQ fun i j=> .int (i - j)) ta (tC (.int 1))) (b_ (fZ (vQ fun i j=> .int (i+j)) tb tc) eG))) σ H (.int ((min (a - 1) (b+c.toNat):Nat):Int)):=
 bg (cZ (af (br h1 aq) (af (br e f) ao)) fun Q' d=>⟨_,_,rfl,d⟩) (by rw[A4];show V.int _=V.int _;congr 1;lia)
theorem C2 (a:List P3)(p:P3):(cA (ng a) (iK (t3 p))).isSome=decide (p∈a):=by
 rw[K6,gu,decide_eq_true_iff]
 unfold ng
 rw[Jt,Jk]
 constructor
 ·rintro⟨q,b,e⟩
  rw[<-jz (oW e)];exact b
 ·exact fun h=>⟨p,h,rfl⟩
theorem vh(hd:H d=some (.dT kvs))(a:A3 H b p):iE H d (.ref b) (cA kvs (iK (t3 p))):=.inr ⟨kvs,iK (t3 p),b,.inl hd,rfl,A2 a,rfl⟩
theorem nX(h:ds.Perm (ps.map t3))(b:ds.Pairwise fun c d=>HT.lexLt d c=false):∃ss,ds=ss.map t3/\yq ss ps:=by
 have a:∀c∈ds,∃p:P3,c=t3 p:=fun c f=>by
  obtain⟨p,_,e⟩:=Jk.mp (h.mem_iff.mp f)
  exact⟨p,e.symm⟩
 obtain⟨ss,rfl⟩:∃ss:List P3,ds=ss.map t3:=by
  clear h b
  induction ds with
  |nil=>exact⟨[],rfl⟩
  |cons c r ih=>
   obtain⟨p,rfl⟩:=a c Jp
   obtain⟨ss,rfl⟩:=ih fun d hd=>a d (Jq _ hd)
   exact⟨p::ss,rfl⟩
 refine⟨ss,rfl,?_,K2.mp b⟩
 have e:∀l:List P3,(l.map t3).map (fun c:T3=>((c.getD 0 0).toNat,(c.getD 1 0).toNat,(c.getD 2 0).toNat))=l:=fun l=>by
  rw[Jt];exact List.map_id l
 have:=h.map fun c:T3=>((c.getD 0 0).toNat,(c.getD 1 0).toNat,(c.getD 2 0).toNat)
 rwa [e,e] at this
theorem uG (ps:List P3):∀c∈ps.map t3,c≠[]:=fun c a=>by
 obtain⟨p,_,rfl⟩:=Jk.mp a
 exact fun z=>nomatch z
theorem En {ts:List (P3×Nat)}(h:p∈ts.map (·.1)):cA (j4 ts) (iK (t3 p))=some (.int (xm ts (t3 p))):=by
 have h1:(cA (j4 ts) (iK (t3 p))).isSome:=by
  rw[gu]
  obtain⟨q,b,rfl⟩:=Jk.mp h
  exact Jk.mpr ⟨_,Jk.mpr ⟨q,b,rfl⟩,rfl⟩
 obtain⟨v,a⟩:=Ma.mp h1
 obtain⟨q,_,e⟩:=Jk.mp (vq a)
 have e:V.int (q.2:Nat)=v:=congrArg Prod.snd e
 subst e
 unfold xm
 rw[a]
theorem ze {a:Type} [DecidableEq a](kvs:List (a×V))(h:(kvs.map (·.1)).Nodup):DT kvs=kvs:=by
 induction kvs using qD with
 |h0=>rfl
 |h1 xs x ih=>
  rw[Jl,K1] at h
  rw[lq,ih h.1]
  have n:¬(cA xs x.1).isSome=true:=fun z=>h.2.2 x.1 ((gu ..).mp z) x.1 (by simp) rfl
  unfold dY
  rw[dN,if_neg n]
theorem Fk (kvs:Kv)(h:(kvs.map (·.1)).Nodup):GS kvs=kvs:=ze kvs h
theorem EK {kvs:List (cP×V)}(h:(kvs.map (·.1)).Nodup):Ha kvs=kvs:=ze kvs h
theorem uw(h:p.1<4/\p.2.1<16/\p.2.2<16):∃k:Nat,k<1024/\tupleKeyHash (aY P w) (iK (t3 p))=Ey k/\k=256*p.1+16*p.2.1+p.2.2:=⟨_,by omega,He p.1 p.2.1 p.2.2 (by omega) (by omega) (by omega),rfl⟩
theorem D4(S:Sz z)(h:In z p):p.1<4/\p.2.1<16/\p.2.2<16:=by
 obtain⟨⟨_,_⟩,⟨_,_⟩,_,_⟩:=S
 obtain⟨_,_,_⟩:=h
 lia
theorem w9 (f:List cP->Int)(ts:List (P3×Nat)):(j4 ts).map (fun p=>f p.1)=ts.map fun q=>f (iK (t3 q.1)):=by
 unfold j4;rw[Jt];rfl
theorem AB {a b:P3}(h:a.1<4/\a.2.1<16/\a.2.2<16)(h':b.1<4/\b.2.1<16/\b.2.2<16)(e:256*a.1+16*a.2.1+a.2.2=256*b.1+16*b.2.1+b.2.2):a=b:=Prod.ext (by lia) (Prod.ext (by lia) (by lia))
theorem DF(h:ET g):oS P w (j4 g.ts):=by
 have c:=h.tn
 have hi:=h.ti
 unfold oS
 rw[w9]
 unfold List.Nodup at c|-
 rw[K2] at c|-
 refine c.imp_of_mem fun{a b} ha i n e=>n ?_
 have d:=D4 h.z (hi a ha).1
 have f:=D4 h.z (hi b i).1
 obtain⟨k,k1,k2,k3⟩:=uw (P:=P) (w:=w) d
 obtain⟨j,m,l,o⟩:=uw (P:=P) (w:=w) f
 exact AB d f (k3▸o▸vO k1 m (k2.symm.trans (e.trans l)))
theorem fY{fs:List (Str×V)}(b:bQ H H' p)(e:H p=some (.ins c d fs))(n:o≠.ins c d fs)(h:H a=some o):H' a=some o:=b _ _ (jL h e n) h
theorem lA.bp{fs:List (Str×V)}{ps:List (Nat×Nat)}(h:lA H l ps)(b:bQ H H' p)(a:H p=some (.ins c d fs)):lA H' l ps:=h.up (fun _ e=>fY b a (fun z=>nomatch z) e) fun _ _ e=>fY b a (fun z=>nomatch z) e
theorem bQ.tr(b:bQ H H1 p)(b2:bQ H1 H2 p):bQ H H2 p:=fun a o n e=>b2 _ _ n (b _ _ n e)
theorem AL.bp{fs:List (Str×V)}(h:AL H l ps)(b:bQ H H' p)(a:H p=some (.ins c d fs)):AL H' l ps:=by
 obtain⟨as,h1,h2⟩:=h
 exact⟨as,fY b a (fun z=>nomatch z) h1,fm h2 fun _ _ e=>fY b a (fun z=>nomatch z) e⟩
theorem IL:eF "sizes" v []=[(("sizes" :Str),v)]:=by kernel_rfl
theorem IU:eF "prices" v [("sizes",u)]=[(("sizes" :Str),u),("prices",v)]:=by kernel_rfl
theorem IM {u v w:V}:eF "vias" w [("sizes",u),("prices",v)]=[(("sizes" :Str),u),("prices",v),("vias",w)]:=by kernel_rfl
theorem IX {u v w x:V}:eF "rocks" x [("sizes",u),("prices",v),("vias",w)]=[(("sizes" :Str),u),("prices",v),("vias",w),("rocks",x)]:=by kernel_rfl
theorem IW {u v w x y:V}:eF "tolls" y [("sizes",u),("prices",v),("vias",w),("rocks",x)]=[(("sizes" :Str),u),("prices",v),("vias",w),("rocks",x),("tolls",y)]:=by kernel_rfl
theorem qW(h:S4 p):gY (t3 p)=Ey (256*p.1+16*p.2.1+p.2.2):=by
 obtain⟨h1,h2,a⟩:=h
 unfold gY t3
 rw[yd p.1 p.2.1 p.2.2 h2 a,Jr,Jr,Jr,KR,eK (show p.1<16 by lia),eK h2,eK a]
theorem Ep {d i:Type}{f:d->i}{xs:List d}(c:xs.Nodup)(h:∀a∈xs,∀b∈xs,f a=f b->a=b):(xs.map f).Nodup:=by
 unfold List.Nodup at c|-
 rw[K2]
 exact c.imp_of_mem fun{a b} ha g n e=>n (h a ha b g e)
theorem wa(h:S4 p):256*p.1+16*p.2.1+p.2.2<1024:=by
 obtain⟨_,_,_⟩:=h
 lia
theorem zr {ps:List P3}(h:∀p∈ps,S4 p)(d:ps.Nodup):((ps.map t3).map gY).Nodup:=by
 rw[Jt]
 refine Ep d fun a ha b c e=>?_
 rw[Function.comp_apply,Function.comp_apply,qW (h a ha),qW (h b c)] at e
 exact AB (h a ha) (h b c) (vO (wa (h a ha)) (wa (h b c)) e)
theorem AK{fs:List (Str×V)}(h:BK H t ps)(b:bQ H H' p)(a:H p=some (.ins c d fs)):BK H' t ps:=by
 obtain⟨as,h1,h2⟩:=h
 exact⟨as,fY b a (fun z=>nomatch z) h1,fm h2 fun _ _ e=>fY b a (fun z=>nomatch z) e⟩
theorem sN{l:Addr}(a:H t=none)(h:bB H as (ps.map t3)):BK (upd H t (.tup (as.map V.ref))) t ps:=⟨as,ae,bB.same h ((ah.refl H).upd a)⟩
theorem yP(d:ps.length=gs.length):(r8 gs ps).map (·.2)=ps.map V.ref:=by
 unfold r8
 rw[Jt]
 have c:((fun b:cP×V=>b.2)∘fun a:Tn×Addr=>((.inr a.1.nm:cP),V.ref a.2))=V.ref∘Prod.snd:=rfl
 rw[c,<-Jt,List.map_snd_zip (by lia)]
theorem Cz:(r8 gs ps).length<=gs.length:=by
 unfold r8
 rw[Jd,List.length_zip];lia
theorem zE {gs:List Tn}{ps:List Addr}{i:Nat}{g:Tn}{p:Addr}(a:gs[i]?=some g)(b:ps[i]?=some p):r8 (gs.take (i+1)) (ps.take (i+1))=r8 (gs.take i) (ps.take i)++[(.inr g.nm,.ref p)]:=by
 have h1:=bO a
 have h2:=bO b
 unfold r8
 rw[aT a,aT b,List.zip_append (by rw[JB,JB];lia),Jl]
 rfl
theorem AY{kvs:List (cP×V)}{b:cP×V}(h:Hz H as kvs)(e:H a=some (.tup [kV b.1,b.2])):Hz H (as++[a]) (kvs++[b]):=by
 induction h with
 |nil=>exact .cons e .nil
 |cons r _ ih=>exact .cons r ih
theorem EB(f:ps.length=gs.length)(b:(gs.map Tn.nm).Nodup):((r8 gs ps).map (·.1)).Nodup:=by
 unfold r8
 rw[Jt]
 have c:((fun d:cP×V=>d.1)∘fun a:Tn×Addr=>((.inr a.1.nm:cP),V.ref a.2))=(fun g:Tn=>(.inr g.nm:cP))∘Prod.fst:=rfl
 rw[c,<-Jt,List.map_fst_zip (by lia)]
 exact K2.mpr ((K2.mp b).imp fun n e=>n (Sum.inr.inj e))
theorem oq(d:Ev te σ H (.ref p))(h:pJ cN cB H p g)(j:g.ss.length+g.gs.length<=6)(q:∀H' l,ah H H'->H l=none->AL H' l g.es->Q (.ref l) H'):
  AC cN cB "ends" (j8 cN) (kg cB) te σ H Q:=by
 rcases h with ⟨e,dx,fs,t,h1,b,h2,c⟩|⟨e,dx,fs,t,v,h1,b,h2,c,i,f⟩
 ·exact d _ ⟨p,cN,dx,fs,rfl,h1,b.ends,.inl ⟨rfl,p,g.nm,g.ss,rfl,⟨dx,fs,t,h1,b,h2,c⟩,fun H' l s n a=>q H' l s n (by unfold Tn.es;rw[e,JK];exact a)⟩⟩
 ·exact d _ ⟨p,cB,dx,fs,rfl,h1,b.ends,.inr ⟨rfl,p,g.nm,g.ss,g.gs,rfl,⟨dx,fs,t,v,h1,b,h2,c,i,f⟩,by lia,fun H' l s n a=>q H' l s n a⟩⟩
theorem kH(t:pJ cN cB H p g)(c:Ev te σ H (.ref p))(h:jn K cN)(i:a_ K cN f)(d:jn K cB)(e:a_ K cB f)(a:∀fs,Ez fs g.nm->fs.lookup f=some v):Ev (wD K te f) σ H v:=by
 rcases t with ⟨_,dx,fs,t,h1,b,_⟩|⟨_,dx,fs,t,_,h1,b,_⟩
 ·exact dh c h1 h i (a _ b)
 ·exact dh c h1 d e (a _ b)
theorem E2 {a:Type}{l:List a}(b:l.Nodup){i:Nat}{x:a}(h:l[i]?=some x):x∉l.take i:=fun z=>by
 have:=(b.sublist (List.take_sublist (i+1) l))
 rw[aT h,K1] at this
 exact this.2.2 x z x (by simp) rfl
theorem pK.bp(h:pK cF H f g)(b:bQ H H' p)(j:H p=some (.ins C dx [])):pK cF H' f g:=by
 obtain⟨i,fs,a,l,c,d,e,x⟩:=h
 exact⟨i,fs,a,l,c,d,e,{x with ha:=b _ _ (fun z=>by have h:=x.ha;have f:=x.f1;rw[z,j] at h;cases h;cases f) x.ha,z:=fY b j (fun z=>nomatch z) x.z,pr:=x.pr.bp b j,vi:=fY b j (fun z=>nomatch z) x.vi,rd:=fY b j (fun z=>nomatch z) x.rd,td:=fY b j (fun z=>nomatch z) x.td}⟩
theorem pJ.bp(h:pJ cN cB H f g)(b:bQ H H' p)(a:H p=some (.ins C dx [])):pJ cN cB H' f g:=h.up (fun _ _ e=>fY b a (fun z=>nomatch z) e) fun _ _ fs n e=>b _ _ (fun z=>by rw[z,a] at e;cases e;exact n rfl) e
theorem ij {g:Type}{R:V->Rw->Prop}{S:Addr->g->Prop}{f:Rw->Option g}(h0:∀r,kd r≠k->f r=none)(h1:∀v r,kd r=k->R v r->∃a b,v=.ref a/\f r=some b/\S a b):∀{W:List Rw} {c:List V},Paired R c (fk k W)->∃as:List Addr,c=as.map V.ref/\Paired S as (W.filterMap f)
 |[],c,h=>by cases h;exact⟨[],rfl,.nil⟩
 |r::W,c,h=>by
  unfold fk at h
  by_cases e:kd r=k
  ·rw[LF (by simpa using e)] at h
   cases h with
   |cons a t=>
    obtain⟨x,b,rfl,j,i⟩:=h1 _ _ e a
    obtain⟨as,rfl,d⟩:=ij h0 h1 t
    exact⟨x::as,rfl,by rw[Ke,j];exact .cons i d⟩
  ·rw[LG (by simpa using e)] at h
   obtain⟨as,rfl,d⟩:=ij h0 h1 h
   exact⟨as,rfl,by rw[Ke,h0 r e];exact d⟩
theorem Ej:∀(a:List P3) (ys:List V),ys.length=a.length->(∀(i:Nat) y,ys[i]?=some y->∃p b,a[i]?=some p/\y=.ref b/\A3 H b p)->∃as:List Addr,ys=as.map V.ref/\bB H as (a.map t3)
 |[],[],_,_=>⟨[],rfl,.nil⟩
 |[],_::_,h,_=>nomatch h
 |_::_,[],h,_=>nomatch h
 |p::a,y::ys,hl,h=>by
  obtain⟨g,b,e,rfl,c⟩:=h 0 y rfl
  cases e
  obtain⟨as,rfl,d⟩:=Ej a ys (by simpa using hl) fun i y f=>h (i+1) y (by simpa using f)
  exact⟨b::as,rfl,.cons c d⟩
theorem lx {c:Type}{R:V->c->Prop}{bs:List c}(h:Paired (fun a b=>R (.ref a) b) as bs):Paired R (as.map V.ref) bs:=by
 induction h with
 |nil=>exact .nil
 |cons h t ih=>exact .cons h ih
theorem sY(S:Sz z){c:List P3}(f:c.Nodup)(h:∀p∈c,In z p):c.length<=1000:=by
 have h2:(c.map fun p=>64*p.1+8*p.2.1+p.2.2).Nodup:=Ep f fun a ha b d e=>by
  have h1:=h a ha
  have h2:=h b d
  obtain⟨⟨_,_⟩,⟨_,_⟩,_,_⟩:=S
  obtain⟨_,_,_⟩:=h1
  obtain⟨_,_,_⟩:=h2
  exact Prod.ext (by lia) (Prod.ext (by lia) (by lia))
 have:=kl h2 (ys:=List.range 512) fun n g=>by
  obtain⟨p,i,rfl⟩:=Jk.mp g
  obtain⟨_,_,_⟩:=h p i
  obtain⟨⟨_,_⟩,⟨_,_⟩,_,_⟩:=S
  exact Lv.mpr (by lia)
 rw[Jd,List.length_range] at this
 lia
theorem je(S:Sz z)(h:In z p):eo p:=by
 obtain⟨_,_,_⟩:=h
 obtain⟨⟨_,_⟩,⟨_,_⟩,_,_⟩:=S
 exact⟨by lia,by lia,by lia⟩
theorem EX(h:CU x W):W.length<=100:=by
 obtain⟨a,_,h1,_,_,_,h2⟩:=h
 have:=congrArg List.length h2
 rw[Jd (as:=W)] at this
 have c:=LP (fun b:List Str=>!b.isEmpty) (a.map (·.1))
 rw[Jd] at c
 lia
theorem yz:(kd r=5\/kd r=6)↔∃g,r_ r=some g:=by
 cases r<;>simp[kd,r_]
theorem rG(v:AL H a ps)(l:H D=none)(o:Sm ps)(w:ps.length<=1000)(q:∀H',ah H H'->WL H' D (ps.map eN)->Q H'):sI [none] (cT 0) rV (fH oX [] E0 (b_ (dE 0) eG)) (pM K a) H D Q:=by
 have d:sizeLine=2^24:=rfl
 obtain⟨as,h1,h2⟩:=v
 refine cm (K:=K) (xs:=as.map V.ref) (fun i g H'=>∃h:Option V,g=[h]/\ah H H'/\H' D=some (.lst (((ps.take i).map eN).map sv))) ⟨none,rfl,(ah.refl H).upd l,ae⟩ (fun i g H' _ ⟨_,_,s,_⟩=>aH.of (s _ _ h1)) ?_ ?_
 ·rintro i x g H' n ⟨h,rfl,s,f⟩
  obtain⟨b,r,rfl⟩:=dQ n
  obtain⟨c,u,e⟩:=gz h2 r
  obtain⟨p,j,rfl⟩:=gD u
  have hi:=bO j
  obtain⟨_,_,_⟩:=o p (Jy j)
  refine gn (fK (aX (af (aa rfl) ao) ⟨b,p,rfl,⟨by omega,by omega,by omega⟩,.inl (s _ _ e),fun H2 m=>⟨_,m _ _ f,by rw[Jd,Jd,JB];omega,_,rfl,bf (s.trans m) l,?_⟩⟩))
  rw[ae,aT j,Jl,Jl];rfl
 ·rintro g H' ⟨h,rfl,s,f⟩
  rw[Jd,Paired.length h2,Jd,JI] at f
  exact q H' s f
theorem tO {a b:Type}{R:a->b->Prop}{as:List a}{bs:List b}(h:Paired R as bs):Paired R as.reverse bs.reverse:=by
 induction h with
 |nil=>exact .nil
 |cons h t ih=>rw[LX,LX];exact bL h ih
theorem CZ (xs:List V)(k:Nat):dU xs none (some (k:Int))=xs.take k:=by
 rcases Nat.le_total k xs.length with h|h
 ·exact tX xs k h
 ·unfold dU
  rw[HT.sIx_none,HT.sIx_nat,Nat.min_eq_right h,List.drop_zero,Nat.sub_zero,JI,Ld h]
theorem Cr (xs:List V)(k:Nat):dU xs (some (k:Int)) none=xs.drop k:=by
 rcases Nat.le_total k xs.length with h|h
 ·exact oZ xs k h
 ·unfold dU
  rw[HT.sIx_none,HT.sIx_nat,Nat.min_eq_right h,List.drop_length,List.drop_eq_nil_of_le h]
  exact List.take_nil
theorem ox(vs:List V)(h:ko tl σ H vs)(a:vs.length<=1000)(q:∀p H',ah H H'->H p=none->H' p=some (.tup vs)->Q (.ref p) H'):sJ tl σ H Q:=h _ ⟨by have:sizeLine=2^24:=rfl;omega,fun p np=>q p _ ((ah.refl H).upd np) np ae⟩
theorem fh(vs:List V)(h:ko tl σ H vs)(a:vs.length<=1000)(q:∀p H',ah H H'->H p=none->H' p=some (.lst vs)->Q (.ref p) H'):ot tl σ H Q:=h _ ⟨by have:sizeLine=2^24:=rfl;lia,fun p np=>q p _ ((ah.refl H).upd np) np ae⟩
theorem oz(us:List V)(b:Ev ta σ H (.ref l))(a:Ev tb σ H (.int (i:Nat)))(c:aH K H l xs)(e:us=xs.take i)(q:∀p H',ah H H'->H p=none->H' p=some (.lst us)->Q (.ref p) H'):CS (oU K) ta gI (gf tb) σ H Q:=Fz b a c fun p np=>q p _ ((ah.refl H).upd np) np (by rw[CZ,e];exact ae)
theorem pk(us:List V)(b:Ev ta σ H (.ref l))(a:Ev tb σ H (.int (i:Nat)))(c:aH K H l xs)(e:us=xs.drop i)(q:∀p H',ah H H'->H p=none->H' p=some (.lst us)->Q (.ref p) H'):CS (oU K) ta (gf tb) gI σ H Q:=AM b a c fun p np=>q p _ ((ah.refl H).upd np) np (by rw[Cr,e];exact ae)
abbrev Hv:List (List Nat):=[L "na",L "to",L "mb"]
def Ht (th:Addr) (H:Hp) (v:V) (g:Tw):Prop:=∃t a b,v=.ref t/\H t=some (.tup [sv g.1,.ref a,.ref b])/\AL H a g.2.1/\AL H b g.2.2/\a≠th/\b≠th
structure xP (H0:Hp) (z:P3) (kvs:Kv) (th l:Addr) (rest:List P3) (us:List V) (gs:List Tw) (i:Nat) (H:Hp):Prop where
 sm:ah H0 H
 hl:AL H l rest
 lt:l≠th
 ht:H th=some (.lst us)
 tw:Paired (Ht th H) us gs
 nm:(gs.map (·.1)).Sublist (Hv.take i)
 nd:(gs.flatMap Tw.es++rest).Nodup
 ok:∀c∈gs.flatMap Tw.es++rest,In z c/\(cA kvs (iK (t3 c))).isSome=false
 ln:∀g∈gs,g.2.1.length+g.2.2.length<=6
 sh:∀g∈gs,(g.2.2=[]/\2<=g.2.1.length)\/(g.2.2≠[]/\1<=g.2.1.length/\g.2.1.length<=g.2.2.length)
section
variable {H0 H H':Hp} {z:P3} {kvs:Kv} {th l m:Addr} {rest:List P3} {us:List V} {gs:List Tw} {i:Nat}
theorem AL.keep(h:AL H l ps)(n:l≠th)(s:∀b o,b≠th->H b=some o->H' b=some o)(a:H th=some (.lst us)):AL H' l ps:=by
 obtain⟨as,h1,h2⟩:=h
 exact⟨as,s _ _ n h1,Paired.mapP h2 fun _ _ e=>s _ _ (iD e a fun z=>nomatch z) e⟩
theorem Ht.keep(h:Ht th H v g)(s:∀b o,b≠th->H b=some o->H' b=some o)(c:H th=some (.lst us)):Ht th H' v g:=by
 obtain⟨t,a,b,e,h1,h2,i,f,d⟩:=h
 exact⟨t,a,b,e,s _ _ (iD h1 c fun z=>nomatch z) h1,h2.keep f s c,i.keep d s c,f,d⟩
theorem xP.same (x:xP H0 z kvs th l rest us gs i H)(s:ah H H'):xP H0 z kvs th l rest us gs i H':=
 {x with sm:=x.sm.trans s,hl:=x.hl.same s,ht:=s _ _ x.ht,tw:=Paired.mapP x.tw fun _ _ e=>e.keep (fun _ _ _ h=>s _ _ h) x.ht}
theorem xP.go (x:xP H0 z kvs th l rest us gs i H){k:Nat}(b:AL H m (rest.drop k))(n:m≠th):xP H0 z kvs th m (rest.drop k) us gs (i+1) H:=
 {x with hl:=b,lt:=n,nm:=x.nm.trans (List.take_sublist_take_left (Nat.le_succ i)),nd:=x.nd.sublist ((List.Sublist.refl _).append (List.drop_sublist k rest)),ok:=fun c a=>x.ok c (by
   rcases Jz.mp a with h|h
   ·exact Jz.mpr (.inl h)
   ·exact Jz.mpr (.inr (List.mem_of_mem_drop h)))}
theorem xP.add (x:xP H0 z kvs th l rest us gs i H)(v:H0 th=none){k c:Nat}{y:List Nat}{t a b:Addr}(B:AL H m (rest.drop k))(n:m≠th)(C:Hv[i]?=some y)(s:(rest.take k).length=k)(E:2<=k)(D:k<=6)(hc:c=k\/(1<=c/\2*c<=k))
  (j:H t=some (.tup [sv y,.ref a,.ref b])) (w:AL H a ((rest.take k).reverse.take c)) (u:AL H b ((rest.take k).reverse.drop c)) (q:a≠th) (p:b≠th):
  xP H0 z kvs th m (rest.drop k) (us++[.ref t]) (gs++[(y,(rest.take k).reverse.take c,(rest.take k).reverse.drop c)]) (i+1) (upd H th (.lst (us++[.ref t]))):=by
 have up:∀b o,b≠th->H b=some o->upd H th (.lst (us++[.ref t])) b=some o:=fun b o A e=>by rw[ak A];exact e
 have r:((gs++[(y,(rest.take k).reverse.take c,(rest.take k).reverse.drop c)]).flatMap Tw.es++rest.drop k).Perm (gs.flatMap Tw.es++rest):=by
  rw[L_,JJ]
  refine List.Perm.append_left _ ?_
  show((((rest.take k).reverse.take c++(rest.take k).reverse.drop c)++[])++rest.drop k).Perm rest
  rw[JK,Kw]
  refine((List.reverse_perm _).append_right _).trans ?_
  rw[Kw]
 have f:(rest.take k).reverse.length=k:=by rw[List.length_reverse,s]
 refine⟨fun b o e=>up b o (ar e v) (x.sm _ _ e),B.keep n up x.ht,n,ae,bL ⟨t,a,b,rfl,up _ _ (iD j x.ht fun z=>nomatch z) j,w.keep q up x.ht,u.keep p up x.ht,q,p⟩ (Paired.mapP x.tw fun _ _ e=>e.keep up x.ht),?_,(r.nodup_iff).mpr x.nd,fun d hd=>x.ok d (r.mem_iff.mp hd),fun g hg=>?_,fun g hg=>?_⟩
 ·rw[Jl,aT C]
  exact x.nm.append (List.Sublist.refl _)
 ·rcases Jz.mp hg with h|h
  ·exact x.ln g h
  ·rw[Jv.mp h]
   show(List.take c _).length+(List.drop c _).length<=6
   rw[JB,Ka,f];lia
 ·rcases Jz.mp hg with h|h
  ·exact x.sh g h
  ·rw[Jv.mp h]
   show(List.drop c _=[]/\2<=(List.take c _).length)\/(List.drop c _≠[]/\1<=(List.take c _).length/\(List.take c _).length<=(List.drop c _).length)
   rw[JB,Ka,f]
   rcases hc with rfl|hc
   ·exact .inl ⟨List.drop_eq_nil_of_le (by lia),by lia⟩
   ·exact .inr ⟨fun e=>by have:=congrArg List.length e;rw[Ka,f] at this;simp at this;lia,by lia,by lia⟩
theorem xP.out (x:xP H0 z kvs th l rest us gs 3 H):Paired (CA H) us gs/\xt z kvs gs:=
 ⟨Paired.mapP x.tw fun _ _ ⟨t,a,b,e,h1,h2,f,_⟩=>⟨t,a,b,e,h1,h2,f⟩,⟨x.nm,(K1.mp x.nd).1,fun g hg c d=>x.ok c (Jz.mpr (.inl (List.mem_flatMap.mpr ⟨g,hg,d⟩))),x.ln,x.sh⟩⟩
end
theorem C8(h:ta σ H fun xs H1=>xs.length<=sizeLine/\∀p,H1 p=none->Q (.ref p) (upd H1 p (.tup xs))):sJ ta σ H Q:=h
abbrev tS (za rd hl l th:Addr) (x4 x5 x6 x8 x9 x10 x11:Option V):St:=[some (.ref za),some (.ref rd),some (.ref hl),some (.ref l),x4,x5,x6,some (.ref th),x8,x9,x10,x11]
inductive Iz (H0:Hp) (z:P3) (kvs:Kv) (za rd hl th:Addr):Nat->St->Hp->Prop
 |mk {i:Nat} {H':Hp} (x4 x5 x6 x8 x9 x10 x11:Option V) (l:Addr) (rest:List P3) (us:List V) (gs:List Tw) (x:xP H0 z kvs th l rest us gs i H') (lu:us.length<=i):Iz H0 z kvs za rd hl th i (tS za rd hl l th x4 x5 x6 x8 x9 x10 x11) H'
theorem nU(ty:gi K H x t)(e:JN K t c=some b)(a:we y c)(hx:Ev ta σ H x)(d:Ev tb σ H y):Ev (oC (fun xs H Q=>∃x y c t b,xs=[x,y]/\we y c/\gi K H x t/\JN K t c=some b/\Q (.bl b) H) (b_ ta (b_ tb eG))) σ H (.bl b):=cZ (af hx (af d ao)) fun Q q=>⟨x,y,c,t,b,rfl,a,ty,e,q⟩
def Hs (K:Je) (H:Hp) (a:Addr) (xs:List V):Prop:=aH K H a xs\/cn K H a xs
theorem zK(c:Ev ta σ H (.ref p))(b:Ev tb σ H (.int i))(d:Hs K H p xs)(a:jW xs i=some v):Ev (fZ (GO K) ta tb) σ H v:=fun _ q=>c _ (b _ (d.imp (fun h=>⟨p,xs,i,v,rfl,rfl,h,a,q⟩) fun h=>⟨p,xs,i,v,rfl,rfl,h,a,q⟩))
theorem oR(h:Ev ta σ H (.ref p))(e:Hs K H p xs):Ev (oC (fun xs H Q=>∃x n,xs=[x]/\AF K x H n/\Q (.int n) H) (b_ ta eG)) σ H (.int (xs.length:Nat)):=cZ (af h ao) fun _ a=>⟨_,_,rfl,e.imp (fun h=>⟨_,h,rfl⟩) (fun h=>⟨_,h,rfl⟩),a⟩
theorem DG {n:Nat}{t:TA}{a:St}{H:Hp}{v w:V}(b:∀H1,ah H H1->ko t a H1 [v,w])(d:rZ n H v w):xG (wk (tB (fH (gZ n) [] E0 t))) a H false:=fun H1 s Q q=>b H1 s _ ⟨v,w,rfl,d.same s,fun H2 c=>⟨true,rfl,q H2 c⟩⟩
theorem kF(h:ta σ H fun vs H1=>sp (vs++[]) H1 (fun v H2=>∃b,v=.bl b/\Q (!b) H2) E0):wk (tB (fH sp [] E0 ta)) σ H Q:=h
theorem zW(h1:xG t σ H false)(a:xG u σ H false):xG (Fs t u) σ H false:=GD h1 a
theorem tG(d:∀H1,ah H H1->Ev t σ H1 (.ref p))(c:∀H1,ah H H1->Ev ti σ H1 (.ref a))(h:BK H p ps)(f:AL H a ps)(i:ps.length<=6):
  xG (wk (tB (fH (gZ 5) [] E0 (b_ t (b_ (oC (fun xs H Q=>∃p ys,xs=[.ref p]/\((aH K H p ys/\∀l,H l=none->Q (.ref l) (upd H l (.tup ys)))\/(cn K H p ys/\Q (.ref p) H))) (b_ ti eG)) eG))))) σ H false:=fun H1 s Q q=>by
 obtain⟨as,h1,h2⟩:=h
 obtain⟨bs,e,b2⟩:=f
 refine kF (dG (d H1 s) (aN (fU (af (c H1 s) ao) ⟨a,_,rfl,.inl ⟨aH.of (s _ _ e),fun l nl=>?_⟩⟩)))
 have b:=s.upd (o:=.tup (bs.map V.ref)) nl
 exact⟨_,_,rfl,.inr (.inr ⟨p,l,_,_,rfl,rfl,.inr ⟨b _ _ h1,ae⟩,by rw[Jd,Paired.length h2,Jd];lia,Bj (bB.same h2 b) (bB.same b2 b)⟩),fun H2 g=>⟨true,rfl,q H2 (((ah.refl H1).upd nl).trans g)⟩⟩
abbrev rr (a:Addr):Option V:=some (.ref a)
abbrev wS (a:Addr) (x1 x2 x3 x4 x5 x6 x7 x8 x9 x10 x11 x12:Option V):St:=[rr a,x1,x2,x3,x4,x5,x6,x7,x8,x9,x10,x11,x12]
theorem HS {l:List Int}(h:l.length=9):∃a b c d e f g i j,l=[a,b,c,d,e,f,g,i,j]:=by
 obtain⟨a,r,rfl,h1⟩:=da h
 obtain⟨b,q,rfl,h2⟩:=da h1
 obtain⟨c,p,rfl,m⟩:=da h2
 obtain⟨_,_,_,_,_,_,rfl⟩:=ID m
 exact⟨_,_,_,_,_,_,_,_,_,rfl⟩
theorem AR(us:List V)(c:Ev ta σ H (.ref l))(a:Ev tb σ H (.int i))(b:Ev tc σ H (.int j))(d:aH K H l xs)(e:dU xs (some i) (some j)=us)(q:∀p H',ah H H'->H p=none->H' p=some (.lst us)->Q (.ref p) H'):CS (oU K) ta (gf tb) (gf tc) σ H Q:=F9 c a b d fun p np=>q p _ ((ah.refl H).upd np) np (by rw[e];exact ae)
theorem iQ{fs:List (Str×V)}(h:Ev ta σ H (.ref p))(e:H p=some (.ins C dx fs))(a:fs.lookup m=none)(q:sp [.ref p] H Q E0):rK C m sp [] E0 ta eG σ H Q:=h _ ⟨p,dx,fs,rfl,e,a,q⟩
theorem oI(h:Ev ta σ H (.int (n:Nat)))(b:n<=10^19):Ev (oC (fun xs H Q=>∃i:Int,xs=[.int i]/\i.natAbs.log2<1920/\Q (.str (toString i)) H) (b_ ta eG)) σ H (sv (dg n)):=bg (cZ (v:=.str (Str.ofString (toString ((n:Nat):Int)))) (af h ao) fun Q' a=>⟨_,rfl,HK (by lia),a⟩) (by rw[pB];rfl)
abbrev RN (H H':Hp) (u:V) (r:Rw):Prop:=∃b,u=.ref b/\H b=none/\WL H' b (iM r)
theorem Cb {a b:Type}{S:a->b->Prop}{us:List a}{bs:List b}(h:Paired S us bs):∀z∈us.zip bs,S z.1 z.2:=by
 induction h with
 |nil=>exact fun _ h=>nomatch h
 |cons r t ih=>
  intro z h
  rcases Jo.mp h with rfl|h
  ·exact r
  ·exact ih z h
theorem qZ {a:Type}{T:V->a->Prop}:∀{us:List V} {bs:List a} {vs:List V},us.length=bs.length->Paired (fun v z=>T v z.2) vs (us.zip bs)->Paired T vs bs
 |[],[],_,_,h=>by cases h;exact .nil
 |[],_::_,_,e,_=>by cases e
 |_::_,[],_,e,_=>by cases e
 |_::_,_::_,_,e,h=>by
  cases h with|cons r t=>exact .cons r (qZ (by simpa using e) t)
theorem oV{d:Type}{S:V->d->Prop}{f:d->Rw}{rest:St}{bs:List d}(j:Paired S us bs)(y:H a=some (.lst us))(p:H D=none)(C:us.length<=1000)
  (x:∀u b,S u b->b∈bs->∀H',ah H H'->∀Qv:VK,(∀v H2,ah H' H2->H' v=none->WL H2 v (iM (f b))->Qv (.ref v) H2)->te (some u::rest) H' Qv)
  (q:∀vs H',ah H H'->H' D=some (.lst vs)->Paired (RN H H') vs (bs.map f)->Q H'):sI (none::rest) (cT 0) rV te (pM K a) H D Q:=by
 have i:us.length=bs.length:=Paired.length j
 refine k_ (K:=K) (us.zip bs) (fun z=>z.1) (fun H2 v z=>∃c,v=.ref c/\WL H2 c (iM (f z.2))/\c≠D/\H c=none) (fun⟨c,e,h,n,A⟩ s _=>⟨c,e,s _ _ n h,n,A⟩) (by rw[y,<-List.unzip_fst,List.unzip_zip i]) p (by rw[List.length_zip];lia) (fun z g H' s ⟨xs,l⟩ Qv m=>?_) fun vs H' s r w=>q vs H' s r (A9 (qZ i (Paired.mapP w fun _ _ ⟨c,e,h,_,n⟩=>⟨c,e,n,h⟩)))
 exact x z.1 z.2 (Cb j z g) (List.of_mem_zip g).2 H' s Qv fun v H2 B nv o=>m _ H2 B ⟨v,rfl,o,(dD l nv).symm,dJ s nv⟩
def QB (c:Addr) (H:Hp) (v:V) (d:List Rw):Prop:=∃a vs,v=.ref a/\a≠c/\H a=some (.lst vs)/\Paired (fun u r=>∃b,u=.ref b/\b≠c/\WL H b (iM r)) vs d
theorem QB.keep(h:QB ql H v rs)(s:∀b o,b≠ql->H b=some o->H' b=some o):QB ql H' v rs:=by
 obtain⟨a,vs,e,n,h1,h2⟩:=h
 exact⟨a,vs,e,n,s _ _ n h1,Paired.mapP h2 fun _ _ ⟨b,e,n,h⟩=>⟨b,e,n,s _ _ n h⟩⟩
theorem QB.of(h:QL H v rs)(n:H ql=none):QB ql H v rs:=by
 obtain⟨a,vs,e,h1,h2⟩:=h
 exact⟨a,vs,e,ar h1 n,h1,Paired.mapP h2 fun _ _ ⟨b,e,h⟩=>⟨b,e,ar h n,h⟩⟩
theorem QB.new(e:H ql=some o)(a:H D=none)(d:H' D=some (.lst vs))(f:Paired (RN H H') vs rs):QB ql H' (.ref D) rs:=⟨D,vs,rfl,(dD e a).symm,d,Paired.mapP f fun _ _ ⟨b,c,n,h⟩=>⟨b,c,(dD e n).symm,h⟩⟩
structure yM (H0:Hp) (ql:Addr) (vs:List V) (qs:List (List Rw)) (H:Hp):Prop where
 sm:ah H0 H
 hl:H ql=some (.lst vs)
 qs:Paired (QB ql H) vs qs
theorem yM.same{a:List (List Rw)}(x:yM H0 ql vs a H)(s:ah H H'):yM H0 ql vs a H':=⟨x.sm.trans s,s _ _ x.hl,Paired.mapP x.qs fun _ _ h=>h.keep fun _ _ _ e=>s _ _ e⟩
theorem yM.add{a:List (List Rw)}(x:yM H0 ql vs a H)(n:H0 ql=none)(h:QB ql H v q):yM H0 ql (vs++[v]) (a++[q]) (upd H ql (.lst (vs++[v]))):=by
 have up:∀b o,b≠ql->H b=some o->upd H ql (.lst (vs++[v])) b=some o:=fun b o c e=>by rw[ak c];exact e
 exact⟨fun b o e=>up b o (ar e n) (x.sm _ _ e),ae,bL (h.keep up) (Paired.mapP x.qs fun _ _ h=>h.keep up)⟩
theorem yM.qa{qs:List (List Rw)}(x:yM H0 ql vs qs H):QA H ql qs:=⟨vs,x.hl,Paired.mapP x.qs fun _ _ ⟨a,us,e,_,h1,h2⟩=>⟨a,us,e,h1,Paired.mapP h2 fun _ _ ⟨b,e,_,h⟩=>⟨b,e,h⟩⟩⟩
theorem oE{a:List (List Rw)}(d:σ[n]?=some (rr ql))(x:yM H0 ql vs a H)(b:H0 ql=none)(e:vs.length<=100)
  (h:∀Qv:VK,(∀v H',ah H H'->QB ql H' v q->Qv v H')->tv σ H Qv) (k:∀v H',yM H0 ql (vs++[v]) (a++[q]) H'->u D σ H'):fG (uD (Hn K "list" vH (dE n) (b_ tv eG))) u D σ H:=
 gr (fD (aa d) (.inl ⟨rfl,_,aH.of x.hl⟩) (aN (h _ fun v H' s c=>⟨ql,vs,v,rfl,rfl,(x.same s).hl,by have:sizeLine=2^24:=rfl;lia,k v _ ((x.same s).add b c)⟩)))
theorem G0{ps:List (Nat×Nat)}{ns:List Nat}(sz:Sz z)(bx:t9 z W)(j:∀p∈ps,Pr p.1/\Pr p.2)(m:∀n∈ns,Pr n)(c:xt z kvs gs):∀q∈B1 ps ns W gs,∀r∈q,iG r/\kd r≠0:=by
 intro q b r hr
 unfold B1 at b
 simp only[Jo,JM,or_false] at b
 rcases b with rfl|rfl|rfl|rfl
 ·obtain⟨p,a,rfl⟩:=Jk.mp hr
  obtain⟨h1,h2⟩:=j p a
  unfold Pr at h1 h2
  exact⟨⟨by lia,by lia⟩,fun e=>nomatch e⟩
 ·obtain⟨p,a,rfl⟩:=Jk.mp hr
  have h1:=m p a
  unfold Pr at h1
  exact⟨by show p<10^14;lia,fun e=>nomatch e⟩
 ·refine⟨(bx.ok r hr).1,fun e=>?_⟩
  rcases(bx.ok r hr).2.1 with h|h<;>rw[e] at h<;>cases h
 ·obtain⟨g,hg,rfl⟩:=Jk.mp hr
  have d:Sm (Tw.es g):=fun p a=>kE sz (c.ok g hg p a).1
  have l:=c.ln g hg
  obtain⟨_,i,f⟩:=zF _ (yk c hg)
  unfold qr
  split
  ·exact⟨⟨fun p a=>d p (Jz.mpr (.inl a)),by lia,i,f⟩,fun e=>nomatch e⟩
  ·exact⟨⟨fun p a=>d p (Jz.mpr (.inl a)),fun p a=>d p (Jz.mpr (.inr a)),l,i,f⟩,fun e=>nomatch e⟩
theorem Hd{ps:List (Nat×Nat)}{ns:List Nat}(bx:t9 z W):qG (B1 ps ns W gs):=by
 have k1:∀r∈ps.map BL,kq r=1:=fun r hr=>by obtain⟨p,_,rfl⟩:=Jk.mp hr;rfl
 have k2:∀r∈ns.map Rw.via,kq r=2:=fun r hr=>by obtain⟨p,_,rfl⟩:=Jk.mp hr;rfl
 have k3:∀r∈W,kq r=3\/kq r=4:=fun r hr=>by unfold kq;rcases(bx.ok r hr).2.1 with e|e<;>rw[e]<;>simp
 have k5:∀r∈gs.map qr,kq r=5:=fun r hr=>by
  obtain⟨p,_,rfl⟩:=Jk.mp hr
  unfold kq;rcases zR p with e|e<;>rw[e]<;>rfl
 unfold qG B1
 simp only[L8,Jo,JM,or_false,List.Pairwise.nil,and_true,forall_eq_or_imp,forall_eq,false_imp_iff,implies_true]
 refine⟨⟨fun r hr s a=>?_,fun r hr s a=>?_,fun r hr s a=>?_⟩,⟨fun r hr s a=>?_,fun r hr s a=>?_⟩,fun r hr s a=>?_⟩
 ·rw[k1 r hr,k2 s a];decide
 ·rw[k1 r hr];rcases k3 s a with e|e<;>rw[e]<;>decide
 ·rw[k1 r hr,k5 s a];decide
 ·rw[k2 r hr];rcases k3 s a with e|e<;>rw[e]<;>decide
 ·rw[k2 r hr,k5 s a];decide
 ·rw[k5 s a];rcases k3 r hr with e|e<;>rw[e]<;>decide
theorem C5 {ts:List (P3×Nat)}:((j4 ts).map (·.1))=((ts.map (·.1)).map t3).map fun c=>c.map Sum.inl:=by unfold j4;rw[Jt,Jt,Jt];rfl
theorem Ga{ps:List (Nat×Nat)}(h1:lA H l ps)(a:lA H m ps)(f:ps.length<=1000):rZ (n+3) H (.ref l) (.ref m):=by
 obtain⟨as,e,c⟩:=h1
 obtain⟨bs,d,b2⟩:=a
 have go:∀{ps:List (Nat×Nat)} {as bs:List Addr},Paired (P2 H) as ps->Paired (P2 H) bs ps->Paired (rZ (n+2) H) (as.map V.ref) (bs.map V.ref):=fun{ps}=>by
  induction ps with
  |nil=>intro as bs h1 a;cases h1;cases a;exact .nil
  |cons q r ih=>
   intro as bs h1 a
   cases h1 with|cons x t=>cases a with|cons y u=>
   exact .cons (Bm x y (fun v b=>by simp only[Jo,JM,or_false] at b;rcases b with rfl|rfl<;>exact⟨_,rfl⟩) (by show 2<=1000;decide)) (ih t u)
 exact .inr (.inr ⟨l,m,_,_,rfl,rfl,.inl ⟨e,d⟩,by rw[Jd,Paired.length c];exact f,go c b2⟩)
theorem FC{a:List (T3×Int)}(h1:PL H l a)(d:PL H m a)(e:∀q∈a,q.1.length<=3)(z:a.length<=1000):rZ (n+4) H (.ref l) (.ref m):=by
 obtain⟨as,j,g⟩:=h1
 obtain⟨bs,s,b2⟩:=d
 have go:∀{a:List (T3×Int)} {as bs:List Addr},(∀q∈a,q.1.length<=3)->Paired (E1 H) as a->Paired (E1 H) bs a->Paired (rZ (n+3) H) (as.map V.ref) (bs.map V.ref):=fun{a}=>by
  induction a with
  |nil=>intro as bs _ h1 d;cases h1;cases d;exact .nil
  |cons q r ih=>
   intro as bs e h1 d
   cases h1 with|cons x t=>cases d with|cons y u=>
   obtain⟨b,h,w⟩:=x
   obtain⟨c,o,A⟩:=y
   refine .cons (.inr (.inr ⟨_,_,_,_,rfl,rfl,.inr ⟨h,o⟩,by show 2<=1000;decide,.cons (Bm w A (fun v p=>?_) ?_) (.cons uW .nil)⟩)) (ih (fun q f=>e q (Jq _ f)) t u)
   ·obtain⟨i,_,rfl⟩:=Jk.mp p;exact⟨i,rfl⟩
   ·rw[Jd];have:=e q Jp;lia
 exact .inr (.inr ⟨l,m,_,_,rfl,rfl,.inl ⟨j,s⟩,by rw[Jd,Paired.length g];exact z,go e g b2⟩)
theorem F3(h:te σ H fun x H1=>∃a,x=.ref a/\(∃xs,aH K H1 a xs)/\∀D,H1 D=none->sI (xC n ix σ) g tt te' (pM K a) H1 D fun H'=>Q (.ref D) H'):HF (lL K te) n ix g tt te' σ H Q:=h
theorem vz:∀ns:List Nat,Paired (fun(u:V) (n:Nat)=>u=.int (n:Nat)) (ni ns) ns
 |[]=> .nil
 |_::r=> .cons rfl (vz r)
theorem GH {ts:List (P3×Nat)}:0<=xm ts c:=by
 unfold xm
 cases e:cA (j4 ts) (iK c) with
 |none=>exact Int.le_refl _
 |some v=>
  obtain⟨q,_,a⟩:=Jk.mp (vq e)
  have a:V.int (q.2:Nat)=v:=congrArg Prod.snd a
  subst a
  exact Int.natCast_nonneg _
theorem Fi {ts:List (P3×Nat)}{ss:List P3}:(Ho ts ss).length<=ss.length/\∀q∈Ho ts ss,q.1.length<=3:=by
 unfold Ho
 constructor
 ·rw[Jd]
  exact Jn (LP _ _) (by rw[Jd];exact Jg _)
 ·intro q b
  obtain⟨c,a,rfl⟩:=Jk.mp b
  obtain⟨p,_,rfl⟩:=Jk.mp (Lu.mp a).1
  exact Jg 3
inductive Iw (a:Addr):St->Hp->Prop
 |mk {H':Hp} (D sa rd td rl th pl vl ql:Addr) (x9':Option V) (h0 h1 h2 h3 h4 h5 h6 h7 h8:Int) (z:P3) (ps:List (Nat×Nat)) (ns:List Nat) (W:List Rw) (ts:List V) (gs:List Tw) (qa:QA H' ql ([.floor z]::B1 ps ns W gs)) (hD:H' D=some (.lst ([h0,h1,h2,h3,h4,h5,h6,h7,h8].map V.int))) (hp:lA H' pl ps) (hv:H' vl=some (.lst (ni ns))) (hs:A3 H' sa z) (hr:H' rd=some (.dT (mk (W.filterMap de)))) (ht:H' td=some (.dT (mk (W.filterMap dX)))) (hth:H' th=some (.lst ts)) (tws:Paired (CA H') ts gs) (sz:Sz z) (bx:t9 z W) (lps:ps.length=z.1) (pp:∀p∈ps,Pr p.1/\Pr p.2) (lns:ns.length+1=z.1) (pn:∀n∈ns,Pr n) (tw:xt z (mk (W.filterMap de)) gs):Iw a (wS a (rr D) (rr sa) (rr rd) (rr td) (rr rl) (rr th) (rr pl) (rr vl) x9' (rr ql) none none) H'
theorem FK(n:Nat){D:fJ}{c:St}{H:Hp}(J:St->Hp->Prop)(e:∃t,mh X (l.drop n) t/\∀c H,J c H->t D c H)(h1:∀d,mh X (l.drop n) d->(∀c H,J c H->d D c H)->∃t,mh X l t/\t D c H):∃t,mh X l t/\t D c H:=by
 obtain⟨d,a,b⟩:=e
 exact h1 d a b
variable {cThing cNet cBundle cFloor cBoard cMS:Addr} (T:Txt K mg cThing cNet cBundle cFloor cBoard cMS)
include T
theorem Dv:ff P w K mg base 1 "_law_cell_at" DQ ["script", "k"] (sR K):=by
 refine rd ["script", "k"] fun g _ _ _ _ _ H vs Q E hr h=>?_
 obtain⟨a,ns,i,rfl,ha,f,q⟩:=h
 refine⟨_,(aR (cj (bN vo (aj 1) (a9 aV T.len_ (aB (aj 0)))) (aw (aG aC (aj 0) (aj 1)))) (aw ag)),?_⟩
 dsimp only[bE,Cx.nox]
 refine i9 (aE (br (aa rfl) (cZ (af (aa rfl) ao) fun Q' d=>⟨_,_,rfl,by first|exact .inl ⟨_,by assumption,rfl⟩|exact .inl ⟨_,aH.of (by assumption),rfl⟩|exact .inr ⟨_,by assumption,rfl⟩|exact .inr ⟨_,cn.of (by assumption),rfl⟩,d⟩))) (fun e=>?_) (fun _=>?_)
 ·have b:i<((ns.map V.int).length:Int):=of_decide_eq_true e
  rw[Jd] at b
  obtain⟨j,rfl⟩:=Lr f
  have c:j<ns.length:=by lia
  exact eB (bw (v:=.int ns[j]) (aa rfl) (aa rfl) ha (bI (by simp[c]))) (q _)
 ·exact q 0
theorem Ar:ff P w K mg base 1 "number_in" zq ["word"] j5:=by
 refine rd ["word"] fun G _ _ _ _ _ H vs Q E hr h=>?_
 obtain⟨w,rfl,r,q⟩:=h
 refine⟨_,(ai (cj (eU (bY (dI di di ag (a9 aV T.len_ (aB (aj 0))) (cV (by rfl) (by exact T.g_MOST_FIGURES)))) (dr (cJ (a9 (kG rfl) T.any_ (aB (fW ["sign"] [] [] (yK (aj 0)) (c_ 0) cg (kh iP (aj 0) (cV (by rfl) (by exact T.g_FIGURES)) (by with_unfolding_all rfl)))))))).pt (aw bR)) (aR (cj (ud (bN dq (aG yJ (aj 0) ag) aL) (oG (bN qF (a9 aV T.len_ (aB (aj 0))) ag))).pt (aw bR)) (aw (dR wL T.int_ (aB (aj 0)))))),?_⟩
 dsimp only[bE,Cx.nox]
 have f:=r.sz
 refine pj ?_
 by_cases hl:1<=w.length/\w.length<=18
 ·refine G8 (gU (aE (cD aq (kj (aa rfl) f) aq))) (by simp;omega) ?_
  refine⟨_,rfl,w,rfl,r.as,fun D x=>?_⟩
  refine zh (fun i p H'=>∃o,p=[o]/\H'=upd H D (.lst ((((cp w).map fun c=>!decide (c∈iO)).take i).map V.bl))) ⟨none,rfl,rfl⟩ ?_ ?_
  ·rintro i c p H' e ⟨o,rfl,rfl⟩
   refine gn (fK ?_)
   refine Ds (b:=!decide (c∈iO)) (by rw[Bc]) (nH (aa rfl) aq) _ ?_
   refine⟨_,ae,?_,_,rfl,?_⟩
   ·rw[Jd,JB]
    exact Ll (Nat.min_le_right _ _) (by rw[Jd,c9];exact eL r.ln)
   ·rw[gC,KY,JG,e,Jl];rfl
  ·rintro p H' ⟨o,rfl,rfl⟩
   have y:((cp w).map fun c=>!decide (c∈iO)).take w.length=(cp w).map fun c=>!decide (c∈iO):=Ld (by rw[Jd,c9];exact Jg _)
   rw[y]
   have n:ah H (upd H D (.lst (((cp w).map fun c=>!decide (c∈iO)).map V.bl))):=(ah.refl H).upd x
   refine⟨D,_,rfl,aH.of ae,_,rfl,?_⟩
   have F:(((cp w).map fun c=>!decide (c∈iO)).any id)=decide (∃c∈cp w,¬(48<=c/\c<=57)):=by
    rw[K6,List.any_eq_true,decide_eq_true_iff]
    constructor
    ·rintro⟨b,l,m⟩
     obtain⟨c,e,rfl⟩:=Jk.mp l
     exact⟨c,e,fun z=>by rw[id,decide_eq_true (nk.mpr z)] at m;cases m⟩
    ·rintro⟨c,e,s⟩
     exact⟨_,Jk.mpr ⟨c,e,rfl⟩,by rw[id,decide_eq_false fun z=>s (nk.mp z)];rfl⟩
   rw[F]
   have d:(cp w).length=w.length:=c9 w
   rcases q with ⟨g,q⟩|⟨b,q⟩
   ·obtain⟨C,v,u,A⟩:=g
    rw[decide_eq_false fun⟨c,e,s⟩=>s (u c e)]
    refine gM ?_
    refine c6 (o8 (aE (jA (uk (c:=(cp w)[0]'(by omega)) (aa rfl) aq f (bI (j:=0) (by simp))) aq)) fun _=>aE (br (kj (aa rfl) f) aq)) ?_ ?_
    ·by_cases h0:(cp w)[0]?=some 48
     ·have:=A h0
      simp;intro _;omega
     ·have:¬(⟨#[(cp w)[0]'(by omega)]⟩:Str)=Str.ofString "0" :=fun z=>by
       have a:Str.ofString "0" =⟨#[48]⟩:=by decide+kernel
       rw[a] at z
       injection z with z
       have z:=congrArg Array.toList z
       simp only[List.cons.injEq,and_true] at z
       exact h0 (by rw[JL (by omega),z])
      rw[decide_eq_false this,Bool.false_and]
    ·refine⟨_,rfl,w,_,rfl,intText_digits u (fun z=>by have I:(cp w).length=0:=congrArg List.length z;omega) (by omega),by omega,q _ n⟩
   ·by_cases l:∃c∈cp w,¬(48<=c/\c<=57)
    ·rw[decide_eq_true l]
     exact zk (q _ n)
    ·rw[decide_eq_false l]
     refine gM ?_
     have B:(cp w)[0]?=some 48/\1<(cp w).length:=by
      rcases b with b|b|b|b
      ·omega
      ·omega
      ·exact absurd b l
      ·exact b
     have a:Str.ofString "0" =⟨#[48]⟩:=by decide+kernel
     refine fw (o8 (aE (jA (uk (c:=48) (aa rfl) aq f (bI (j:=0) B.1)) aq)) fun _=>aE (br (kj (aa rfl) f) aq)) (fun _=>q _ n) (fun z=>?_)
     rw[a] at z
     simp at z
     omega
 ·have l:E9 (cp w):=by
   unfold E9
   rw[c9]
   omega
  have d:(cp w).length=w.length:=c9 w
  refine gU (aE (cD aq (kj (aa rfl) f) aq)) _ ?_
  rw[show(!(decide ((1:Int)<=(w.length:Nat))&&decide (((w.length:Nat):Int)<=18)))=true by
   rw[Bool.not_eq_true',Bool.and_eq_false_iff,decide_eq_false_iff_not,decide_eq_false_iff_not]
   omega,if_pos rfl]
  refine zk ?_
  rcases q with ⟨g,q⟩|⟨b,q⟩
  ·obtain⟨C,v,_⟩:=g
   omega
  ·exact q _ (ah.refl H)
theorem wz (e:az P w K mg base "number_in" 1 ["word"] j5):ff P w K mg base 2 "spot_in" v7 ["word"] rQ:=by
 refine rd ["word", "numbers"] fun u _ _ _ _ _ H vs Q E hr h=>?_
 obtain⟨p,rfl,C,q⟩:=h
 refine⟨_,(ai (md 1 ["part"] [] [] u (aK (cY Ls PySem.F.slot_str_split PySem.F.type_str_split lK (aj 0) (aB aL))) (c_ 0) cg (aO (by exact e) (by exact hr) (aB (aj 0)))) (aR (cj (eU (bN fQ (a9 aV T.len_ (aB (aj 1))) ag) (dr (i4 mP bR (aj 1) (by with_unfolding_all rfl)))).pt (aw bR)) (aw (dR cu T.tuple_ (aB (aj 1)))))),?_⟩
 dsimp only[bE,Cx.nox]
 have d:sizeLine=2^24:=rfl
 have f:=og C
 have c:(ss (eN p)).length<=9:=by rw[<-c9,dF];exact f.1
 have ep:Txt.split (ss (eN p)) (Str.ofString ".")=[dg p.1,dg p.2.1,dg p.2.2].map ss:=by
  refine kO ?_
  rw[IE,qU,dF,Jt]
  unfold eN
  rw[zT (by simp) fun w f=>?_]
  ·show _=[cp (ss _),cp (ss _),cp (ss _)];rw[dF,dF,dF]
  ·simp only[Jo,JM,or_false] at f
   rcases f with rfl|rfl|rfl<;>exact F_ _
 refine⟨_,rfl,rfl,_,_,rfl,rfl,(by decide+kernel),(by lia),fun l A=>⟨l,rfl,⟨_,aH.of ae⟩,fun D g=>?_⟩⟩
 rw[ep] at g|-
 have o:ah H (upd H l (.lst (([dg p.1,dg p.2.1,dg p.2.2].map ss).map V.str))):=(ah.refl H).upd A
 have j:upd H l (.lst (([dg p.1,dg p.2.1,dg p.2.2].map ss).map V.str)) l=some (.lst (([p.1,p.2.1,p.2.2]:List Nat).map fun n=>sv (dg n))):=ae
 revert o j g
 generalize upd H l _=H0
 intro g o j
 refine k_ (K:=K) [p.1,p.2.1,p.2.2] (fun n=>sv (dg n)) (fun _ v n=>v=.int (n:Nat)) (fun h _ _=>h) j g (show 3<=1000 by decide) (fun n r H' _ _ Qv s=>aX (af (aa rfl) ao) (Bp ?_ fun H2 B=>s _ H2 B rfl)) fun vs H' y i z=>?_
 ·simp only[Jo,JM,or_false] at r
  rcases r with rfl|rfl|rfl<;>lia
 cases uv z
 refine st ?_
 refine c6 (fF (a:=false) (b:=false) (cC (aE (gR (cZ (af (aa rfl) ao) fun Q' m=>⟨_,_,rfl,.inl ⟨_,aH.of i,rfl⟩,m⟩) aq)) rfl) fun _=>aE fun Q' m=>⟨_,rfl,D,_,rfl,.inl (aH.of i),rfl,rfl,m⟩) rfl ?_
 refine⟨_,rfl,D,_,rfl,.inl ⟨aH.of i,fun t x=>?_⟩⟩
 exact q t _ ((o.trans y).upd x) ae
theorem um (e:az P w K mg base "number_in" 1 ["word"] j5):ff P w K mg base 2 "numbers_told" rg ["words", "many"] (gc K):=by
 refine rd ["words", "many", "numbers"] fun o _ _ _ _ _ H vs Q E hr h=>?_
 obtain⟨l,ns,k,rfl,f,y,rfl,b,q⟩:=h
 refine⟨_,(aR (md 2 ["word"] [] [] o (aK (aj 0)) (c_ 0) cg (aO (by exact e) (by exact hr) (aB (aj 0)))) (aw (fz (eU (bN fQ (a9 aV T.len_ (aB (aj 2))) (aj 1)) (dr (i4 mP bR (aj 2) (by with_unfolding_all rfl)))).pt bR (dR cu T.tuple_ (aB (aj 2)))))),?_⟩
 dsimp only[bE,Cx.nox]
 have d:sizeLine=2^24:=rfl
 refine⟨_,rfl,l,rfl,⟨_,aH.of f⟩,fun D s=>?_⟩
 have f:H l=some (.lst (ns.map fun n=>sv (dg n))):=by rw[f,Jt];rfl
 refine k_ (K:=K) ns (fun n=>sv (dg n)) (fun _ v n=>v=.int (n:Nat)) (fun h _ _=>h) f s (by omega) (fun n j H' _ _ Qv m=>aX (af (aa rfl) ao) (Bp (y n j) fun H2 z=>m _ H2 z rfl)) fun vs H' r g u=>?_
 cases uv u
 refine st ?_
 have x:(ns.map fun n=>V.int (n:Nat)).all iV=true:=by rw[List.all_map,La];exact fun _ _=>rfl
 have a:HH .non (ns.map fun n=>V.int (n:Nat))=false:=by unfold HH;rw[List.any_map,LR];exact fun _ _=>by simp[DJ]
 refine cU (iH (cC (c:=false) (fF (aE (gR (cZ (af (aa rfl) ao) fun Q' i=>⟨_,_,rfl,.inl ⟨_,aH.of g,rfl⟩,i⟩) (aa rfl))) (fun _=>aE fun Q' i=>⟨_,rfl,D,_,rfl,.inl (aH.of g),rfl,x,i⟩)) (by rw[a,Jd];simp)) (gM ?_))
 refine⟨_,rfl,D,_,rfl,.inl ⟨aH.of g,fun t p=>?_⟩⟩
 exact q t _ (r.upd p) ae
theorem wg (f:az P w K mg base "spot_in" 2 ["word"] rQ):ff P w K mg base 3 "spots_told" uA ["words"] (iX K):=by
 refine rd ["words", "spots"] fun I _ _ _ _ _ H vs Q E hr h=>?_
 obtain⟨l,ps,rfl,j,M,a,q⟩:=h
 refine⟨_,(aR (md 1 ["word"] [] [] I (aK (aj 0)) (c_ 0) cg (aO (by exact f) (by exact hr) (aB (aj 0)))) (aw (fz (i4 (FV hr) bR (aj 1) (by with_unfolding_all rfl)) bR (aj 1)))),?_⟩
 dsimp only[bE,Cx.nox]
 have d:sizeLine=2^24:=rfl
 refine⟨_,rfl,l,rfl,⟨_,aH.of j⟩,fun D o=>?_⟩
 have j:H l=some (.lst (ps.map fun p=>sv (eN p))):=by rw[j,Jt];rfl
 refine k_ (K:=K) ps (fun p=>sv (eN p)) (fun H v p=>∃t,v=.ref t/\A3 H t p) (fun⟨t,e,h⟩ s J=>⟨t,e,zi h s J⟩) j o (by omega) (fun p m H' _ _ Qv u=>aX (af (aa rfl) ao) ⟨p,rfl,by have:=M p m;omega,fun t H2 G g=>u _ H2 G ⟨t,rfl,g⟩⟩) fun vs H' A n F=>?_
 obtain⟨as,rfl,g⟩:=vC F
 refine st ?_
 refine cU (iH (aE (b:=false) fun Q' B=>⟨_,rfl,D,_,rfl,rfl,aH.of n,fun z y=>?_,?_⟩) (gM ?_))
 ·obtain⟨x,C,rfl⟩:=Jk.mp y
  obtain⟨i,hi⟩:=List.getElem?_of_mem C
  obtain⟨c,N,r⟩:=aU g hi
  exact⟨_,cn.of r⟩
 ·rw[show((as.map V.ref).any fun x=>decide (x=V.non))=false by rw[List.any_map,LR];simp];exact B
 exact(aa rfl:Ev (dE 1) _ _ _) _ (q D H' A o ⟨as,n,g⟩)
theorem sj (e:az P w K mg base "spots_told" 3 ["words"] (iX K)):ff P w K mg base 4 "corners_told" rP ["words"] jH:=by
 refine rd ["words", "spots"] fun i _ _ _ _ _ H vs Q E hr h=>?_
 obtain⟨l,ps,rfl,n,r,c,q⟩:=h
 refine⟨_,(ai (bj 1 i (aO e hr (aB (aj 0)))) (aR (cj (eU (bN fB (aj 1) bR) (dr (bY (dI di di ag (a9 aV T.len_ (aB (aj 1))) ag)))).pt (aw bR)) (aw (cE (ay (aG aC (aj 1) ag) (aG aC (aj 1) (GE EA ag))))))),?_⟩
 dsimp only[bE,Cx.nox]
 refine bK (aX (af (aa rfl) ao) ⟨l,ps,rfl,n,r,by lia,fun p H1 j np al=>?_⟩)
 try dsimp only
 refine eO (σ':=[some (.ref l),some (.ref p)]) (by kernel_rfl) ?_
 obtain⟨vs,a,b,g,d,o,h1,ha,m⟩:=GM al c
 refine c6 (b:=false) (cC (fF (a:=false) (b:=false) (gT (aa rfl)) fun _=>eQ (cC (aE (cD aq (eV (K:=K) (aa rfl) g) aq)) (by rw[d,decide_eq_true (by lia),decide_eq_true (by lia)];rfl))) rfl) rfl ?_
 refine ui (vs:=[.ref a,.ref b]) (af (bw (v:=.ref a) (aa rfl) aq (aH.of g) o) (af (bw (v:=.ref b) (aa rfl) (Ig aq) (aH.of g) h1) ao)) (by show 2<=sizeLine;decide) fun t f=>?_
 exact q _ _ (j.trans ((ah.refl H1).upd f)) ⟨t,a,b,rfl,ae,((ah.refl H1).upd f) _ _ ha,((ah.refl H1).upd f) _ _ m⟩
theorem yx (i:az P w K mg base "numbers_told" 2 ["words", "many"] (gc K))(j:az P w K mg base "corners_told" 4 ["words"] jH):ff P w K mg base 5 "toll_told" BD ["words"] ux:=by
 refine rd ["words", "price", "corners"] fun s _ _ _ _ _ H vs Q E hr h=>?_
 obtain⟨l,r,rfl,G,x,ok,q⟩:=h
 refine⟨_,(ai (bj 1 s (aO i hr (ay (bz bU (aj 0) cR (bu ag)) ag))) (aR (bj 2 s (aO j hr (aB (bz bU (aj 0) (bu ag) cR)))) (aw (fz (eU (bN fB (aj 1) bR) (dr (bN fB (aj 2) bR))).pt bR (au vc (aj 1) (aj 2)))))),?_⟩
 dsimp only[bE,Cx.nox]
 cases r with
 |toll p cs=>
  obtain⟨g,B,len⟩:=ok
  refine bK (cL (aN (fV [dg p] (aa rfl) so zU x (by exact CC _ 1 (by simp[mz])) fun l1 H1 y J=>dG aq ⟨l1,[p],1,rfl,J,by simpa using (by lia:p<10^18),rfl,show 1<=10 by decide,fun n H2 C d=>?_⟩)))
  try dsimp only
  refine eO (σ':=[some (.ref l),some (.ref n),none]) (by kernel_rfl) ?_
  have e:=y.trans C
  refine bK (cL (aN (fV (cs.map eN) (aa rfl) zU so (e _ _ x) (by exact iT _ 1 (by simp[mz])) fun I H3 o F=>⟨I,cs,rfl,F,B,len,fun v H4 s4 pt=>?_⟩)))
  obtain⟨u,a,b,rfl,f,ha,A⟩:=pt
  try dsimp only
  refine eO (σ':=[some (.ref l),some (.ref n),some (.ref u)]) (by kernel_rfl) ?_
  have d:=s4 _ _ (o _ _ d)
  refine cU (iH (cC (c:=false) (fF (gT (aa rfl)) fun _=>gT (aa rfl)) rfl) (gM ?_))
  refine dM (b9 (aa rfl) (b9 (aa rfl) ⟨n,u,_,_,rfl,rfl,d,f,by show 1+2<=sizeLine;decide,fun t H5 m D=>?_⟩))
  exact q _ _ (e.trans (o.trans (s4.trans m))) ⟨t,a,b,rfl,D,m _ _ ha,m _ _ A⟩ fun z=>nomatch z
 |_=>cases G
theorem C9 (g:az P w K mg base "numbers_told" 2 ["words", "many"] (gc K))(i:az P w K mg base "spots_told" 3 ["words"] (iX K)):ff P w K mg base 4 "net_told" Ee ["words"] zN:=by
 refine rd ["words", "numbers", "pins"] fun o _ _ _ _ _ H vs Q E hr h=>?_
 obtain⟨l,r,rfl,B,m,ok,q⟩:=h
 refine⟨_,(ai (bj 1 o (aO g hr (ay (bz bU (aj 0) (bu ag) (bu ag)) ag))) (aR (bj 2 o (aO i hr (aB (bz bU (aj 0) (bu ag) cR)))) (aw (fz (eU (bN fB (aj 1) bR) (dr (bN fB (aj 2) bR))).pt bR (cE (aA (aG aC (aj 0) ag) (aA (aG aF (aj 1) ag) (ay (aG aF (aj 1) ag) (aj 2))))))))),?_⟩
 dsimp only[bE,Cx.nox]
 cases r with
 |net x cs=>
  obtain⟨y,len,G,f⟩:=ok
  have v:dU ((mz (.net x cs)).map sv) (some 1) (some 3)=([dg 0,dg 0]:List (List Nat)).map sv:=Fu _ 1 3 (by decide) (by simp[mz])
  refine bK (cL (aN (fV [dg 0,dg 0] (aa rfl) zU zU m v fun l1 H1 u C=>dG aq ⟨l1,[0,0],2,rfl,C,by simp,rfl,by decide,fun s H2 A a=>?_⟩)))
  try dsimp only
  refine eO (σ':=[some (.ref l),some (.ref s),none]) (by kernel_rfl) ?_
  have b:=u.trans A
  refine bK (cL (aN (fV (cs.map eN) (aa rfl) zU so (b _ _ m) (by exact iT _ 3 (by simp[mz])) fun F H3 j D=>⟨F,cs,rfl,D,y,by lia,fun p H4 s4 np al=>?_⟩)))
  try dsimp only
  refine eO (σ':=[some (.ref l),some (.ref s),some (.ref p)]) (by kernel_rfl) ?_
  have a:=s4 _ _ (j _ _ a)
  have d:=b.trans (j.trans s4)
  have e:=d _ _ m
  refine cU (iH (cC (c:=false) (fF (gT (aa rfl)) fun _=>gT (aa rfl)) rfl) (gM ?_))
  refine iI (vs:=[sv x,.int 0,.int 0,.ref p]) (af (bw (aa rfl) aq (aH.of e) GV) (af (d_ (aa rfl) aq (cn.of a) rfl) (af (d_ (aa rfl) aq (cn.of a) rfl) (af (aa rfl) ao)))) (by show 4<=sizeLine;decide) fun t n=>?_
  exact q _ _ (d.trans ((ah.refl H4).upd n)) ⟨t,p,rfl,ae,al.same ((ah.refl H4).upd n),g_ (b.trans j) np⟩ fun z=>nomatch z
 |_=>cases B
theorem DD (C:az P w K mg base "numbers_told" 2 ["words", "many"] (gc K))(B:az P w K mg base "spots_told" 3 ["words"] (iX K)):ff P w K mg base 4 "bundle_told" Ec ["words"] Ac:=by
 refine rd ["words", "room", "place", "starts", "goals"] fun G _ _ _ _ _ H vs Q E hr h=>?_
 obtain⟨l,r,rfl,hk,D,ok,q⟩:=h
 refine⟨_,(ai (bj 1 G (aO C hr (ay (bz bU (aj 0) (bu ag) (bu ag)) ag))) (ai (cj (eU (bN fB (aj 1) bR) (dr (bN fQ (cY JP PySem.F.slot_list_count PySem.F.type_list_count xH (bz bU (aj 0) (bu ag) cR) (aB aL)) ag))).pt (aw bR)) (ai (bj 2 G (au aZ (cY JP PySem.F.slot_list_index PySem.F.type_list_index wj (bz bU (aj 0) (bu ag) cR) (aB aL)) ag)) (ai (bj 3 G (aO B hr (aB (bz bU (aj 0) (bu ag) (bu (aj 2)))))) (aR (bj 4 G (aO B hr (aB (bz bU (aj 0) (bu (au aZ (aj 2) ag)) cR)))) (aw (fz (eU (bN fB (aj 3) bR) (dr (bN fB (aj 4) bR))).pt bR (cE (aA (aG aC (aj 0) ag) (aA (aG aF (aj 1) ag) (ay (aj 3) (aj 4)))))))))))),?_⟩
 dsimp only[bE,Cx.nox]
 cases r with
 |bun x cs ds=>
  obtain⟨N,n,len,hx,A⟩:=ok
  have e1:dU ((mz (.bun x cs ds)).map sv) (some 1) (some 2)=([dg 0]:List (List Nat)).map sv:=Fu _ 1 2 (by decide) (by simp[mz])
  refine bK (cL (aN (fV [dg 0] (aa rfl) zU zU D e1 fun l1 H1 s1 w1=>dG aq ⟨l1,[0],1,rfl,w1,by simp,rfl,by decide,fun J H2 s2 b=>?_⟩)))
  try dsimp only
  refine eO (σ':=[some (.ref l),some (.ref J),none,none,none]) (by kernel_rfl) ?_
  have s:=s1.trans s2
  have Y:dU ((mz (.bun x cs ds)).map sv) (some 2) none=(cs.map eN++L "to" ::ds.map eN).map sv:=iT _ 2 (by simp[mz])
  have m:ss (L "to")=Str.ofString "to" :=(qu (Ff "to")).symm
  refine pj (G8 (gT (aa rfl)) rfl (yf (dM (AD (fV _ (aa rfl) zU so (s _ _ D) Y fun l2 H3 W X=>⟨.inl ⟨rfl,_,aH.of X⟩,dG aq ⟨l2,_,_,rfl,rfl,by rw[<-s_];exact X,b9 aq ⟨rfl,_,rfl,?_⟩⟩⟩)))))
  rw[Fe N n]
  refine gM ?_
  have o:=s.trans W
  have e3:(cs.map eN++L "to" ::ds.map eN).map sv=(((cs.map eN).map ss)++Str.ofString "to" ::((ds.map eN).map ss)).map V.str:=by rw[s_,Jl,Jr,m]
  refine bK (dM (AD (fV _ (aa rfl) zU so (o _ _ D) Y fun l3 H4 s4 T=>⟨.inl ⟨rfl,_,aH.of T⟩,dG aq ⟨l3,(cs.map eN).map ss,(ds.map eN).map ss,_,rfl,rfl,by rw[<-e3];exact T,fun hm=>?_,by rw[Jd,Jd];omega,b9 aq ⟨_,_,rfl,rfl,?_⟩⟩⟩)))
  ·obtain⟨w,Z,e⟩:=Jk.mp hm
   obtain⟨p,y,rfl⟩:=Jk.mp Z
   exact AQ (GK N p y) (AJ (e.trans m.symm))
  rw[Jd,Jd]
  have d:=o.trans s4
  try dsimp only
  refine eO (σ':=[some (.ref l),some (.ref J),some (.int ((cs.length+2:Nat):Int)),none,none]) (by kernel_rfl) ?_
  have e4:dU ((mz (.bun x cs ds)).map sv) (some 2) (some ((cs.length+2:Nat):Int))=(cs.map eN).map sv:=by
   rw[show(2:Int)=((2:Nat):Int) from rfl,Fu _ 2 (cs.length+2) (by omega) (by simp[mz])]
   simp[mz]
  refine bK (cL (aN (fV (cs.map eN) (aa rfl) zU (Jb rfl) (d _ _ D) e4 fun l4 H5 R w5=>⟨l4,cs,rfl,w5,N,by omega,fun p H6 U np al=>?_⟩)))
  try dsimp only
  refine eO (σ':=[some (.ref l),some (.ref J),some (.int ((cs.length+2:Nat):Int)),some (.ref p),none]) (by kernel_rfl) ?_
  have a:=d.trans (R.trans U)
  have e5:dU ((mz (.bun x cs ds)).map sv) (some (((cs.length+2:Nat):Int)+1)) none=(ds.map eN).map sv:=by
   rw[show((cs.length+2:Nat):Int)+1=((cs.length+3:Nat):Int) by omega,iT _ _ (by simp[mz])]
   simp[mz,List.drop_append]
  refine bK (cL (aN (fV (ds.map eN) (aa rfl) (IZ fun H=>br (g:=fun i j=> .int (i+j)) (aa rfl) aq) so (a _ _ D) e5 fun l5 H7 I w7=>⟨l5,ds,rfl,w7,n,by omega,fun u H8 S nu M=>?_⟩)))
  try dsimp only
  refine eO (σ':=[some (.ref l),some (.ref J),some (.int ((cs.length+2:Nat):Int)),some (.ref p),some (.ref u)]) (by kernel_rfl) ?_
  have f:=a.trans (I.trans S)
  have b:=(W.trans (s4.trans (R.trans (U.trans (I.trans S))))) _ _ b
  have v:=f _ _ D
  refine cU (iH (cC (c:=false) (fF (gT (aa rfl)) fun _=>gT (aa rfl)) rfl) (gM ?_))
  refine iI (vs:=[sv x,.int 0,.ref p,.ref u]) (af (bw (aa rfl) aq (aH.of v) GV) (af (d_ (aa rfl) aq (cn.of b) rfl) (af (aa rfl) (af (aa rfl) ao)))) (by show 4<=sizeLine;decide) fun t O=>?_
  exact q _ _ (f.trans ((ah.refl H8).upd O)) ⟨t,p,u,rfl,ae,(al.same (I.trans S)).same ((ah.refl H8).upd O),M.same ((ah.refl H8).upd O),g_ (d.trans R) np,g_ (a.trans I) nu⟩ fun z=>nomatch z
 |_=>cases hk
theorem Ck (c:az P w K mg base "numbers_told" 2 ["words", "many"] (gc K))(d:az P w K mg base "corners_told" 4 ["words"] jH)(f:az P w K mg base "toll_told" 5 ["words"] ux)(g:az P w K mg base "net_told" 4 ["words"] zN)(i:az P w K mg base "bundle_told" 4 ["words"] Ac):ff P w K mg base 6 "row_told" Ew ["kind", "words"] zu:=by
 refine rd ["kind", "words"] fun G _ _ _ _ _ H vs Q E hr h=>?_
 obtain⟨l,r,rfl,m,ok,q⟩:=h
 refine⟨_,(ai (cj (bN dq (aj 0) aL) (aw (aO c hr (ay (aj 1) ag)))) (ai (cj (bN dq (aj 0) aL) (aw (aO c hr (ay (aj 1) ag)))) (ai (cj (bN dq (aj 0) aL) (aw (aO c hr (ay (aj 1) ag)))) (ai (cj (bN dq (aj 0) aL) (aw (aO d hr (aB (aj 1))))) (ai (cj (bN dq (aj 0) aL) (aw (aO f hr (aB (aj 1))))) (ai (cj (bN dq (aj 0) aL) (aw (aO g hr (aB (aj 1))))) (aR (cj (bN dq (aj 0) aL) (aw (aO i hr (aB (aj 1))))) (aw bR)))))))),?_⟩
 refine fw (iy (j:=0) (aa rfl) (by decide)) (fun e=>?_) fun x=>?_
 ·cases r with
  |floor z=>
   obtain⟨u,b2,I⟩:=ok
   exact cU (aX (af (aa rfl) (af aq ao)) ⟨l,[z.1,z.2.1,z.2.2],3,rfl,m,fun n p=>by simp only[Jo,JM,or_false] at p;lia,rfl,show 3<=10 by decide,fun t H' s o=>q _ H' s ⟨t,rfl,o⟩ fun z=>nomatch z⟩)
  |_=>cases e
 refine fw (iy (j:=1) (aa rfl) (by decide)) (fun e=>?_) fun A=>?_
 ·cases r with
  |layer a b=>
   obtain⟨u,b2⟩:=ok
   exact cU (aX (af (aa rfl) (af aq ao)) ⟨l,[a,b],2,rfl,m,fun n p=>by simp only[Jo,JM,or_false] at p;lia,rfl,show 2<=10 by decide,fun t H' s o=>q _ H' s ⟨t,rfl,o⟩ fun z=>nomatch z⟩)
  |_=>cases e
 refine fw (iy (j:=2) (aa rfl) (by decide)) (fun e=>?_) fun D=>?_
 ·cases r with
  |via a=>
   have u:a<10^14:=ok
   exact cU (aX (af (aa rfl) (af aq ao)) ⟨l,[a],1,rfl,m,fun n p=>by simp only[Jo,JM,or_false] at p;lia,rfl,show 1<=10 by decide,fun t H' s o=>q _ H' s ⟨t,rfl,o⟩ fun z=>nomatch z⟩)
  |_=>cases e
 refine fw (iy (j:=3) (aa rfl) (by decide)) (fun e=>?_) fun y=>?_
 ·cases r with
  |rock cs=>exact cU (aX (af (aa rfl) ao) ⟨l,cs,rfl,m,ok.1,ok.2,fun v H' s pt=>q v H' s pt fun z=>by obtain⟨t,_,_,e,_⟩:=pt;rw[z] at e;cases e⟩)
  |_=>cases e
 refine fw (iy (j:=4) (aa rfl) (by decide)) (fun e=>cU (aX (af (aa rfl) ao) ⟨l,r,rfl,e,m,ok,q⟩)) fun C=>?_
 refine fw (iy (j:=5) (aa rfl) (by decide)) (fun e=>cU (aX (af (aa rfl) ao) ⟨l,r,rfl,e,m,ok,q⟩)) fun B=>?_
 refine fw (iy (j:=6) (aa rfl) (by decide)) (fun e=>cU (aX (af (aa rfl) ao) ⟨l,r,rfl,e,m,ok,q⟩)) fun F=>?_
 have:=qc r
 have:=of_decide_eq_false x
 have:=of_decide_eq_false A
 have:=of_decide_eq_false D
 have:=of_decide_eq_false y
 have:=of_decide_eq_false C
 have:=of_decide_eq_false B
 have:=of_decide_eq_false F
 lia
theorem C6:ff P w K mg base 1 "_law_next" El ["mixed"] A7:=by
 refine rd ["mixed"] fun a _ _ _ _ _ H vs Q E hr h=>?_
 obtain⟨m,rfl,q⟩:=h
 refine⟨_,(aD (aw (au bF (au aZ (au gw (aj 0) ag) ag) ag))),?_⟩
 exact eB (bJ (br (bJ (aa rfl) aq (by first|exact Cq (by lia) (by lia)|exact cmL (by lia) (by lia))) aq) aq (by first|(show(0:Int)<_;lia)|(show(0:Int)<_;decide))) (q _ (K3 _ (by decide)) (Lg _ (by decide)))
theorem Dc:ff P w K mg base 1 "_law_word" Ea ["spot"] oX:=by
 refine rd ["spot"] fun r _ _ _ _ _ H vs Q E hr h=>?_
 obtain⟨t,p,rfl,s,ht,q⟩:=h
 refine⟨_,(aD (aw (cY Ls PySem.F.slot_str_join PySem.F.type_str_join uP aL (aB (fW ["number"] [] [] (F4 (aj 0)) (c_ 0) cg (dR dC (by exact T.str_) (aB (aj 0)))))))),?_⟩
 dsimp only[bE,Cx.nox]
 have b:sizeLine=2^24:=rfl
 have a:∀(J:It) (D:Addr),H D=none->((J=pM K t/\H t=some (.lst (([p.1,p.2.1,p.2.2]:List Nat).map fun n=>V.int (n:Nat))))\/(J=Gw K t/\H t=some (.tup (([p.1,p.2.1,p.2.2]:List Nat).map fun n=>V.int (n:Nat)))))->sI [none] (cT 0) rV (oC (fun xs H Q=>∃i:Int,xs=[.int i]/\i.natAbs.log2<1920/\Q (.str (Str.ofString (toString i))) H) (b_ (dE 0) eG)) J H D fun H'=>∃z l ts,V.str (Str.ofString ".")=.str z/\[V.ref D]=[.ref l]/\aH K H' l (ts.map V.str)/\JoinOk z ts=true/\Q (.str (Txt.join z ts)) H':=fun J D c o=>by
  refine oA (rest:=[]) [p.1,p.2.1,p.2.2] (fun n=>V.int (n:Nat)) (fun _ v n=>v=sv (dg n)) (fun h _ _=>h) o c (show 3<=1000 by decide) (fun n d H' _ _ Qv g=>fU (af (aa rfl) ao) ⟨_,rfl,?_,?_⟩) fun vs H' j f m=>?_
  ·simp only[Jo,JM,or_false] at d
   exact HK (by omega)
  ·rw[pB];exact g _ H' (ah.refl H') rfl
  ·cases EZ m
   refine⟨_,D,_,rfl,rfl,aH.of f,pW (fun w e=>?_) (by decide) (show 3<=1000 by decide),?_⟩
   ·obtain⟨n,d,rfl⟩:=Jk.mp e
    rw[<-c9,dF]
    simp only[Jo,JM,or_false] at d
    exact Jn (cW (k:=18) (by decide) (by omega)) (by decide)
   ·have:=q H' j
    rw[show sv (eN p)=V.str (Txt.join (Str.ofString ".") ([p.1,p.2.1,p.2.2].map fun n=>ss (dg n))) from congrArg V.str (qu (by
     rw[IE,rW,Jt]
     unfold eN
     show jl 46 [cp (ss _),cp (ss _),cp (ss _)]=_
     rw[dF,dF,dF])).symm] at this
    exact this
 refine fD aq rfl (aN ?_)
 rcases ht with ht|ht
 ·exact .inr ⟨_,rfl,t,rfl,⟨_,cn.of ht⟩,fun D c=>a _ D c (.inr ⟨rfl,ht⟩)⟩
 ·exact .inl ⟨_,rfl,t,rfl,⟨_,aH.of ht⟩,fun D c=>a _ D c (.inl ⟨rfl,ht⟩)⟩
theorem tj:ff P w K mg base 1 "words_in" qp ["row"] mG:=by
 refine rd ["row"] fun T _ _ _ _ _ H vs Q E hr h=>?_
 obtain⟨x,ws,rfl,g,q⟩:=h
 refine⟨_,(aD (aw (fW ["piece"] [] [] (aK (cY Ls PySem.F.slot_str_split PySem.F.type_str_split lK (aG aF (cY Ls PySem.F.slot_str_partition PySem.F.type_str_partition pq (aj 0) (aB aL)) ag) (aB aL))) (c_ 0) (jy (bN fQ (aj 0) aL)) (aj 0)))),?_⟩
 dsimp only[bE,Cx.nox]
 obtain⟨y,z,ex,c,f,I,j,d⟩:=g
 have l:x.length<=100:=by rw[<-c9];exact d
 refine⟨_,rfl,rfl,_,_,rfl,rfl,(by decide+kernel),Ky (eL (by lia)),fun P R=>?_⟩
 have N:cp (Txt.partition x (Str.ofString ";")).1=y:=by rw[Iv];exact BX ex f I
 have U:=(PyProof.Rows.fact_partition x (Str.ofString ";")).1
 refine⟨P,_,_,.str (Txt.partition x (Str.ofString ";")).1,rfl,rfl,cn.of ae,rfl,rfl,_,_,rfl,rfl,(by decide+kernel),?_,fun S O=>?_⟩
 ·have:=eL (n:=(Txt.partition x (Str.ofString ";")).1.length+2) (by lia)
  lia
 refine⟨S,rfl,⟨_,aH.of ae⟩,fun D r=>?_⟩
 have es:(Txt.split (Txt.partition x (Str.ofString ";")).1 (Str.ofString " ")).map cp=jQ 32 y:=by rw[Hj,qU,N]
 have A:=((ah.refl H).upd R (o:=.tup [.str (Txt.partition x (Str.ofString ";")).1,.str (Txt.partition x (Str.ofString ";")).2.1,.str (Txt.partition x (Str.ofString ";")).2.2])).upd O (o:=.lst ((Txt.split (Txt.partition x (Str.ofString ";")).1 (Str.ofString " ")).map V.str))
 have u:upd (upd H P (.tup [.str (Txt.partition x (Str.ofString ";")).1,.str (Txt.partition x (Str.ofString ";")).2.1,.str (Txt.partition x (Str.ofString ";")).2.2])) S (.lst ((Txt.split (Txt.partition x (Str.ofString ";")).1 (Str.ofString " ")).map V.str)) S=some (.lst ((Txt.split (Txt.partition x (Str.ofString ";")).1 (Str.ofString " ")).map V.str)):=ae
 have b:(Txt.split (Txt.partition x (Str.ofString ";")).1 (Str.ofString " ")).length<=1000:=by
  have:=PyProof.Rows.split_le (Txt.partition x (Str.ofString ";")).1 (Str.ofString " ")
  lia
 revert r A u
 generalize upd (upd H P (.tup [.str (Txt.partition x (Str.ofString ";")).1,.str (Txt.partition x (Str.ofString ";")).2.1,.str (Txt.partition x (Str.ofString ";")).2.2])) S (.lst ((Txt.split (Txt.partition x (Str.ofString ";")).1 (Str.ofString " ")).map V.str))=H3
 intro r A u
 generalize Txt.split (Txt.partition x (Str.ofString ";")).1 (Str.ofString " ")=ps at es u b
 refine cm (K:=K) (xs:=ps.map V.str) (fun i B H'=>∃C,B=[C]/\H'=upd H3 D (.lst (((ps.take i).filter fun s=>l_ (cp s)).map V.str))) ⟨none,rfl,rfl⟩ (fun i B H' _ ⟨_,_,e⟩=>e▸((ah.refl H3).upd r).seq (aH.of u)) ?_ ?_
 ·rintro i v B H' m ⟨C,rfl,rfl⟩
  obtain⟨s,G,rfl⟩:∃s,ps[i]?=some s/\V.str s=v:=by
   rw[JG] at m
   cases e:ps[i]? with
   |none=>rw[e] at m;cases m
   |some s=>rw[e] at m;exact⟨s,rfl,Option.some.inj m⟩
  refine gn ?_
  refine(aE (L2.ev_neS (aa rfl) aq)) _ ?_
  refine DR (fun e=>?_) (fun e=>?_)
  ·have a:s≠Str.ofString "" :=by simpa using e
   refine⟨_,rfl,_,ae,?_,_,rfl,?_⟩
   ·rw[Jd]
    have h1:=LP (fun s=>l_ (cp s)) (ps.take i)
    rw[JB] at h1
    exact eL (by lia)
   ·rw[gC,KY,G,Kl,Jl]
    show _=upd H3 D (.lst (_++(List.filter (fun s=>l_ (cp s)) [s]).map V.str))
    rw[LF (p:=fun s=>l_ (cp s)) (zY a)];rfl
  ·have M:s=Str.ofString "" :=by simpa using e
   refine⟨_,rfl,?_⟩
   rw[KY,G,Kl]
   show _=upd H3 D (.lst ((_++List.filter (fun s=>l_ (cp s)) [s]).map V.str))
   rw[LG (p:=fun s=>l_ (cp s)) (by rw[M,Dk];exact Ju)]
   simp
 ·rintro B H' ⟨C,rfl,rfl⟩
  have J:((ps.take (ps.map V.str).length).filter fun s=>l_ (cp s))=ws:=by
   rw[Jd,JI]
   refine kO ?_
   rw[<-c]
   unfold wf
   rw[<-es,List.filter_map];rfl
  rw[J]
  exact q D _ (A.upd r) (A.free r) ae
theorem xT (U:az P w K mg base "words_in" 1 ["row"] mG):ff P w K mg base 2 "rows_of" uT ["page"] p7:=by
 refine rd ["page", "rows"] fun nd _ _ _ _ _ H vs Q E hr h=>?_
 obtain⟨x,M,rfl,C,J,hx,f,j,q⟩:=h
 refine⟨_,(aR (md 1 ["number", "row"] [] [] nd (Bw (by rfl) T.enumerate_ jd (aB (cY Ls PySem.F.slot_str_split PySem.F.type_str_split lK (aj 0) (aB aL)))) (ie (K:=K) (n:=2) rfl rfl (ax (c_ 0) (ax (c_ 1) cf)) rfl rfl) cg (cE (ay (aj 0) (aO (by exact U) (by exact hr) (aB (aj 1)))))) (aw (fW ["number", "words"] [] [] (aK (aj 1)) (ie (K:=K) (n:=2) rfl rfl (ax (c_ 0) (ax (c_ 1) cf)) rfl rfl) (jy (bN qF (a9 (wA (K:=K) rfl) (by exact T.len_) (aB (aj 1))) ag)) (cE (ay (aj 0) (aj 1)))))),?_⟩
 dsimp only[bE,Cx.nox]
 have I:Txt.split x (Str.ofString "\n")=M.map (·.2):=by
  refine kO ?_
  rw[nl,qK x 10 (P:=M.map fun p=>cp p.2) (by simpa using C) (fun p hp=>?_) hx,Jt]
  ·rfl
  ·obtain⟨r,hr,rfl⟩:=Jk.mp hp
   obtain⟨y,z,_,_,_,_,B,_⟩:=f r hr
   exact fun z=>(B 10 z).1 rfl
 have G:x.length+2<=sizeLine:=by
  rw[c9] at j
  exact Jn (Nat.add_le_add_right j 2) (by decide)
 refine Ik (fun σ H'=>∃(R:Addr) (vs:List V),σ=[some (.str x),some (.ref R)]/\ah H H'/\H' R=some (.lst vs)/\eT H' [R] (M.map (·.1)).zipIdx vs) (fun Rk hR=>?_) ?_
 ·refine⟨_,rfl,rfl,_,_,rfl,rfl,(by decide+kernel),G,fun S nS=>?_⟩
  rw[I]
  refine⟨S,rfl,⟨_,aH.of ae⟩,fun D Z=>?_⟩
  have s1:=(ah.refl H).upd nS (o:=.lst ((M.map (·.2)).map V.str))
  have e1:upd H S (.lst ((M.map (·.2)).map V.str)) S=some (.lst ((M.map (·.2)).map V.str)):=ae
  revert Z s1 e1
  generalize upd H S (.lst ((M.map (·.2)).map V.str))=H1
  intro Z s1 e1
  refine yW (K:=K) (xs:=(M.map (·.2)).map V.str) (fun i X H'=>∃(x0 x1:Option V) (vs:List V),X=[x0,x1]/\ah H1 H'/\H' D=some (.lst vs)/\eT H' [D] ((M.map (·.1)).take i).zipIdx vs/\vs.length=i)
   ⟨none,none,[],rfl,(ah.refl H1).upd Z,ae,eT.nil _ _,rfl⟩ (fun i X H' _ ⟨_,_,_,_,s,_⟩=>s.seq (aH.of e1)) ?_ ?_
  ·rintro i y p X H' hy ⟨x0,x1,vs,rfl,W,O,Y,l⟩ np
   obtain⟨pr,ab,rfl⟩:∃pr,M[i]?=some pr/\V.str pr.2=y:=by
    rw[JG,JG] at hy
    cases e:M[i]? with
    |none=>rw[e] at hy;cases hy
    |some s=>rw[e] at hy;exact⟨s,rfl,Option.some.inj hy⟩
   have hi:i<M.length:=(JE.mp ab).1
   have hW:(M.map (·.1))[i]?=some pr.1:=by rw[JG,ab];rfl
   refine⟨p,_,rfl,cn.of ae,rfl,?_⟩
   refine⟨_,_,rfl,gn ?_⟩
   refine⟨_,_,rfl,gn ?_⟩
   refine⟨rfl,fK ?_⟩
   refine⟨_,rfl,_,rfl,pr.2,pr.1,rfl,f pr (Jy ab),fun wl H6 s6 ad a6=>⟨(by show 2<=sizeLine;decide),fun tp N=>?_⟩⟩
   have d:ah H' H6:=((ah.refl H').upd np).trans s6
   have F:wl≠D:=fun z=>by
    rw[z] at ad
    rw[((ah.refl H').upd np) _ _ O] at ad;cases ad
   have g:tp≠D:=fun z=>by rw[z,d _ _ O] at N;cases N
   refine⟨vs,(by rw[ak (JH g)];exact d _ _ O),eL (by lia),_,_,vs++[.ref tp],rfl,fun b u e=>?_,ae,?_,by simp[l]⟩
   ·have c:b≠D:=ar e Z
    have e6:=d _ _ (W b u e)
    rw[ak c,ak (ar e6 N)];exact e6
   ·rw[yy hW]
    exact Y.more O d N a6 F rfl
  ·rintro X H' ⟨x0,x1,vs,rfl,W,O,Y,l⟩
   rw[Jd,Jd] at Y
   rw[show M.length=(M.map (·.1)).length from(Jd _).symm,JI] at Y
   exact hR _ _ ⟨D,vs,rfl,s1.trans W,O,Y⟩
 rintro σ H5 ⟨R,vs,rfl,s5,eR,Y⟩
 refine⟨_,rfl,R,rfl,⟨_,aH.of eR⟩,fun D Z=>?_⟩
 have m:vs.length=M.length:=by rw[Y.1,List.length_zipIdx,Jd]
 refine cm (K:=K) (xs:=vs) (fun i X H'=>∃(x0 x1:Option V) (us:List V),X=[x0,x1]/\ah H5 H'/\H' D=some (.lst us)/\eT H' [D] (g9 ((M.map (·.1)).take i)) us/\us.length<=i)
  ⟨none,none,[],rfl,(ah.refl H5).upd Z,ae,eT.nil _ _,Jg _⟩ (fun i X H' _ ⟨_,_,_,_,s,_⟩=>s.seq (aH.of eR)) ?_ ?_
 ·rintro i v X H' hv ⟨x0,x1,us,rfl,W,O,hu,A⟩
  have hi:i<M.length:=by rw[<-m];exact(JE.mp hv).1
  have hW:(M.map (·.1))[i]?=some M[i].1:=by simp[hi]
  obtain⟨v',ev,a,b,rfl,ea,eb,hb⟩:=Y.2 i (M[i].1,i) (by rw[List.getElem?_zipIdx,hW];simp)
  rw[hv] at ev
  cases ev
  have c:b≠D:=ar eb Z
  refine⟨a,_,rfl,cn.of (W _ _ ea),rfl,?_⟩
  refine⟨_,_,rfl,gn ?_⟩
  refine⟨_,_,rfl,gn ?_⟩
  refine⟨rfl,?_⟩
  refine(aE (br (cZ (af (aa rfl) ao) fun Q' q'=>⟨_,_,rfl,.inl ⟨_,aH.of (W _ _ eb),rfl⟩,q'⟩) aq)) _ ?_
  refine DR (fun e=>?_) (fun e=>?_)
  ·have hp:(0:Int)<(((M[i].1.map V.str).length:Nat):Int):=of_decide_eq_true e
   refine⟨_,rfl,_,rfl,(by show 2<=sizeLine;decide),fun tp N=>?_⟩
   have g:tp≠D:=fun z=>by rw[z,O] at N;cases N
   refine⟨us,(by rw[ak (JH g)];exact O),eL (by lia),_,_,us++[.ref tp],rfl,fun b u e=>?_,ae,?_,by simp[A]⟩
   ·have c:b≠D:=ar e Z
    have e6:=W b u e
    rw[ak c,ak (ar e6 N)];exact e6
   ·rw[mZ hW,if_neg (fun z=>by rw[Jd] at hp;rw[List.isEmpty_iff.mp z] at hp;simp at hp)]
    exact hu.more O (ah.refl _) N (W _ _ eb) c rfl
  ·have hp:¬(0:Int)<(((M[i].1.map V.str).length:Nat):Int):=of_decide_eq_false e
   refine⟨_,_,us,rfl,W,O,?_,by lia⟩
   rw[mZ hW,if_pos (List.isEmpty_iff.mpr (LD (by rw[Jd] at hp;lia))),JK]
   exact hu
 ·rintro X H' ⟨x0,x1,us,rfl,W,O,hu,A⟩
  rw[m,show M.length=(M.map (·.1)).length from(Jd _).symm,JI] at hu
  exact q D us H' (s5.trans W) O hu
theorem Bg:ff P w K mg base 1 "_law_loose" yp ["words", "mixed"] vD:=by
 refine rd ["words", "mixed", "row", "k"] fun M _ _ _ _ _ H vs Q E hr h=>?_
 obtain⟨l,ws,m,rfl,m0,hl,⟨hw,f⟩,q⟩:=h
 refine⟨_,(ai (bj 2 M (au uN aL (au bF (aj 1) ag))) (aR (dB (oJ T.range_ (aB (a9 aV T.len_ (aB (aj 0))))) (bh 3 M) (aR (cj (bN qF (aj 3) ag) (bj 2 M (au iC (aj 2) (au uN aL (au aZ ag (au bF (au bG (aj 1) (au aZ (aj 3) ag)) ag)))))) (bj 2 M (au iC (aj 2) (aG aC (aj 0) (aj 3)))))) (aw (au iC (aj 2) (aG aC (aW (aA aL (aA aL (aA aL (ay aL aL))))) (au bF (au bG (aj 1) ag) ag)))))),?_⟩
 dsimp only[bE,Cx.nox]
 have F:sizeLine=2^24:=rfl
 have z1:(Str.ofString " ").length<=100:=by decide+kernel
 have C:ws.length<=80:=by
  have:∀l:List (List Nat),l.length<=(l.map fun w=>w.length+3).sum:=fun l=>by
   induction l with
   |nil=>exact JA _
   |cons a r ih=>simp only[JC,Jr,J9];lia
  exact Jn (this ws) f
 refine bK (dM (b9 aq (b9 (v:=.int (m%3)) (bJ (aa rfl) aq (by show(0:Int)<3;decide)) ⟨_,m%3,rfl,rfl,by lia,by lia,z1,fun X G=>?_⟩)))
 rw[tV] at G
 try dsimp only
 refine eO (σ':=[some (.ref l),some (.int m),some (.str X),none]) (by kernel_rfl) ?_
 refine jc (j:=(ws.length:Int)) (af (bg (eV (K:=K) (aa rfl) hl) (by rw[Jd])) ao) (by lia) (by lia) ?_
 refine cK (n:=ws.length) (fun j σ H'=>∃(S:Option V) (y:Str),σ=[some (.ref l),some (.int m),some (.str y),S]/\H'=H/\wf (cp y)=ws.take j/\Cl (cp y)/\(cp y).length<=2+((ws.take j).map fun w=>w.length+3).sum/\(j=0->∃n,cp y=List.replicate n 32))
  ⟨none,X,rfl,rfl,by rw[G,lU];rfl,by rw[G];exact Cl.rep _,by rw[G,Ks];lia,fun _=>⟨_,G⟩⟩ ?_ ?_
 ·rintro j σ H5 I ⟨S,y,rfl,rfl,h1,h2,Z,Y⟩
  have I:j<ws.length:=I
  have p:ws[j]?=some ws[j]:=JL I
  obtain⟨g,u⟩:=hw ws[j] (List.getElem_mem I)
  have c:32∉ws[j]:=fun z=>by have:=u 32 z;lia
  have D:((ws.take j).map fun w=>w.length+3).sum+(ws[j].length+3)<=80:=by
   refine Jn ?_ f
   have e:ws=ws.take j++ws[j]::ws.drop (j+1):=by rw[<-LK I,Kw]
   conv=>rhs;rw[e]
   rw[Jl,LQ,Jr,J9];lia
  refine gn ?_
  refine yB (fun σ H'=>∃(N:Str) (n:Nat),σ=[some (.ref l),some (.int m),some (.str N),some (.int (0+(j:Int)))]/\H'=H5/\cp N=cp y++List.replicate n 32/\((j=0/\n=0)\/(0<j/\1<=n))/\n<=3) (fun R W=>?_) ?_
  ·refine i9 (aE (zw (aa rfl) aq)) (fun e=>?_) fun e=>?_
   ·have x:=of_decide_eq_true e
    have g5:=K3 (m/(0+(j:Int)+3)) (b:=3) (by decide)
    have g6:=Lg (m/(0+(j:Int)+3)) (b:=3) (by decide)
    refine dM (b9 (aa rfl) (dM (b9 aq (b9 (v:=.int (1+m/(0+(j:Int)+3)%3)) (br aq (bJ (bJ (aa rfl) (br (aa rfl) aq) (mL (by lia) (by lia))) aq (by show(0:Int)<3;decide))) ⟨_,_,rfl,rfl,by lia,by lia,z1,fun r U=>?_⟩))))
    rw[tV] at U
    refine⟨_,_,rfl,rfl,ua (by rw[U,Ks];lia),?_⟩
    exact W _ _ ⟨y++r,_,rfl,rfl,by rw[fX,U],.inr ⟨by lia,by lia⟩,by lia⟩
   ·have x:=of_decide_eq_false e
    exact W _ _ ⟨y,0,rfl,rfl,by simp,.inl ⟨by lia,rfl⟩,by lia⟩
  rintro σ H6 ⟨N,n,rfl,rfl,J,O,Iu⟩
  have lw:(cp (ss ws[j])).length=ws[j].length:=by rw[dF]
  refine dM (b9 (aa rfl) (b9 (v:=sv ws[j]) (bw (aa rfl) (aa rfl) (aH.of hl) (by rw[Int.zero_add];exact bI (by rw[JG,p];rfl))) ⟨_,_,rfl,rfl,ua (by rw[J,lw,Js,Ks];lia),?_⟩))
  refine⟨_,N++ss ws[j],rfl,rfl,?_,?_,?_,fun z=>absurd z (by lia)⟩
  ·rw[fX,J,dF,aT p,<-h1]
   rcases O with ⟨rfl,rfl⟩|⟨a1,a3⟩
   ·obtain⟨n,en⟩:=Y rfl
    rw[en,lU]
    simp only[List.replicate_zero,JK]
    rw[v9 g c];rfl
   ·obtain⟨n,rfl⟩:∃n',n=n'+1:=⟨n - 1,by lia⟩
    rw[Do g c]
  ·rw[fX,J,dF];exact(h2.app (Cl.rep _)).app fun d hd=>by have:=u d hd;lia
  ·rw[fX,J,dF,aT p,Jl,LQ]
   simp only[Js,Ks,Jr,KR,J9,List.sum_nil];lia
 ·rintro σ H5 ⟨S,y,rfl,rfl,h1,h2,Z,Y⟩
  rw[JI] at h1 Z
  refine st ?_
  obtain⟨s,hs,B,A⟩:=Dw (i:=m/7)
  refine cU (dM (b9 (aa rfl) (jS (af aq (af aq (af aq (af aq (af aq ao))))) (by show 5<=sizeLine;decide) (fun H' _=>(bJ (bJ (aa rfl) aq (mL (by lia) (by lia))) aq (by first|(show(0:Int)<_;lia)|(show(0:Int)<_;decide)))) hs fun H6 s6=>⟨_,_,rfl,rfl,ua (by lia),q _ H6 s6 ?_⟩)))
  have O:(ws.map ss).map cp=ws:=by rw[Jt];exact(Lf fun w _=>dF w).trans (List.map_id _)
  have o:(cp (y++s)).length<=100:=by rw[fX,Js];lia
  rcases A with ⟨n,e⟩|⟨n,z,e,hz⟩
  ·exact mR.plain (by rw[fX,e,Eb,h1,O]) (by rw[fX,e];exact h2.app (Cl.rep _)) o
  ·exact mR.tail (y:=cp y++List.replicate n 32) (z:=z) (by rw[fX,e,JJ]) (by rw[Eb,h1,O]) (h2.app (Cl.rep _)) hz o
theorem Ca (dl:az P w K mg base "_law_next" 1 ["mixed"] A7)(cr:az P w K mg base "_law_loose" 1 ["words", "mixed"] vD):ff P w K mg base 2 "_law_page" DO ["queues", "mixed"] AH:=by
 refine rd ["queues", "mixed", "rows", "at"] fun nd _ _ _ _ _ H vs Q E hr h=>?_
 obtain⟨l,m,z,qs,rfl,m0,⟨qv,hl,hq⟩,sz,bW,dj,ca,q⟩:=h
 refine⟨_,(ai (bj 2 nd (au fA (bz bU (aW (aA aL (aA aL (ay aL aL)))) cR (bu (au bF (aj 1) ag))) (aW (aB (aO cr hr (ay (aG aC (aG aC (aj 0) ag) ag) (aj 1))))))) (ai (md 0 ["queue"] [] [] nd (aK (bz bU (aj 0) (bu ag) cR)) (c_ 0) cg (dR (mj (K:=K) rfl) T.list_ (aB (aj 0)))) (aR (Bt PassesOwn.never (bN (Fj hr) (aj 0) (aW dv)) (ai (bj 1 nd (aO dl hr (aB (aj 1)))) (ai (cj (bN dq (au bF (au bG (aj 1) ag) ag) ag) (aM (cY JP J4 J5 bP (aj 2) (aB (aO cr hr (ay (aW dv) (aj 1))))))) (aR (bj 3 nd (au bF (au bG (aj 1) ag) (a9 aV T.len_ (aB (aj 0))))) (ji (bN (sW hr) (aG aC (aj 0) (aj 3)) (aW dv)) (aD (aM (cY JP PySem.F.slot_list_pop PySem.F.type_list_pop p_ (aj 0) (aB (aj 3))))) (aD (aM (cY JP J4 J5 bP (aj 2) (aB (aO cr hr (ay (cY JP PySem.F.slot_list_pop PySem.F.type_list_pop p_ (aG aC (aj 0) (aj 3)) (aB ag)) (aj 1)))))))))))) (aw (cY Ls PySem.F.slot_str_join PySem.F.type_str_join uP aL (aB (aj 2))))))),?_⟩
 dsimp only[bE,Cx.nox]
 have bm:sizeLine=2^24:=rfl
 cases hq with
 | @cons v0 _ qv _ h0 hq=>
 obtain⟨a0,ck,rfl,bi,b8⟩:=h0
 cases b8 with
 |cons hr0 t0=>
 cases t0
 obtain⟨b0,rfl,b3⟩:=hr0
 have co:qs.length<=40:=by
  have:∀l:List (List Rw),l.length<=(l.map fun q=>q.length+1).sum:=fun l=>by
   induction l with
   |nil=>exact JA _
   |cons a r ih=>simp only[JC,Jr,J9];lia
  exact Jn (this qs) ca
 obtain⟨k,hk⟩:=Lr (show 0<=m%5 by lia)
 have be:k<=4:=by lia
 refine c8 fun R hR=>dM (FY (gH (vs:=gG.map V.str) (af aq (af aq (af aq (af aq ao)))) (by show 4<=sizeLine;decide) fun p np=>b9 (v:=.int (k:Nat)) (bg (bJ (aa rfl) aq (by show(0:Int)<5;decide)) (by show V.int _=_;rw[hk])) ⟨_,rfl,p,_,rfl,aH.of ae,fun u nu=>?_⟩))
 rw[tX (gG.map V.str) k be,<-KI]
 have s1:ah H (upd (upd H p (.lst (gG.map V.str))) u (.lst ((gG.take k).map V.str))):=((ah.refl H).upd np).upd nu
 have hu:upd (upd H p (.lst (gG.map V.str))) u (.lst ((gG.take k).map V.str)) u=some (.lst ((gG.take k).map V.str)):=ae
 revert s1 hu
 generalize upd (upd H p _) u _=H1
 intro s1 hu
 refine i5 (aN (aX (af (bw (v:=.ref b0) (bw (v:=.ref a0) (aa rfl) aq (aH.of (s1 _ _ hl)) GV) aq (aH.of (s1 _ _ bi)) GV) (af (aa rfl) ao)) ⟨b0,iM (.floor z),m,rfl,m0,s1 _ _ b3,DV (r:=.floor z) sz,fun x0 H2 s2 ej=>⟨(by show 1<=sizeLine;decide),fun w nw=>?_⟩⟩))
 have s3:ah H2 (upd H2 w (.lst [.str x0])):=(ah.refl H2).upd nw
 have hw:upd H2 w (.lst [.str x0]) w=some (.lst [.str x0]):=ae
 revert s3 hw
 generalize upd H2 w _=H3
 intro s3 hw
 refine⟨u,w,_,_,rfl,rfl,s3 _ _ (s2 _ _ hu),hw,by rw[Jd,JB,bm];show _+1<=_;lia,fun Rr nR=>hR _ _ ?_⟩
 have av:=s1.trans (s2.trans s3)
 have s4:ah H (upd H3 Rr (.lst ((gG.take k).map V.str++[.str x0]))):=av.trans ((ah.refl H3).upd nR)
 have F:upd H3 Rr (.lst ((gG.take k).map V.str++[.str x0])) Rr=some (.lst ((gG.take k++[x0]).map V.str)):=by rw[ae,Jl];rfl
 have nR:=g_ av nR
 revert s4 F
 generalize upd H3 Rr _=H4
 intro s4 F
 clear hR R hw s3 hu s1 s2 av
 have Z:CB z ((gG.take k).map (fun s=>([],s))++[((iM (.floor z)).map ss,x0)]) []:=by
  have e:((gG.take k).map fun s=>(([],s):List Str×Str)).map (·.1)=List.replicate (gG.take k).length []:=by rw[Jt];exact List.map_const' ..
  refine⟨fun p hp=>?_,?_⟩
  ·rcases Jz.mp hp with w|w
   ·obtain⟨s,hs,rfl⟩:=Jk.mp w
    exact AX s (LM hs)
   ·rw[Jv.mp w];exact ej
  ·rw[Jl,Kl,e,List.filter_replicate]
   simp[kW]
 have bl:((gG.take k).map (fun s=>(([],s):List Str×Str))++[((iM (.floor z)).map ss,x0)]).map (·.2)=gG.take k++[x0]:=by rw[Jl,Jt];simp[Function.comp_def]
 have am:((gG.take k).map (fun s=>(([],s):List Str×Str))++[((iM (.floor z)).map ss,x0)]).length<=5:=by rw[Js,Jd,JB];show _+1<=_;lia
 rw[<-bl] at F
 revert Z am F
 generalize (gG.take k).map (fun s=>(([],s):List Str×Str))++[((iM (.floor z)).map ss,x0)]=dx
 intro F Z am
 refine eO (σ':=[some (.ref l),some (.int m),some (.ref Rr),none]) (by kernel_rfl) ?_
 refine⟨_,rfl,1,rfl,l,_,rfl,aH.of (s4 _ _ hl),fun p1 ds=>⟨p1,rfl,⟨_,aH.of ae⟩,fun D nD=>?_⟩⟩
 rw[show dU (V.ref a0::qv) (some 1) none=(V.ref a0::qv).drop 1 from oZ (V.ref a0::qv) 1 (by simp)] at nD|-
 have s5:ah H (upd H4 p1 (.lst ((V.ref a0::qv).drop 1))):=s4.trans ((ah.refl H4).upd ds)
 have U:upd H4 p1 (.lst ((V.ref a0::qv).drop 1)) p1=some (.lst qv):=ae
 have J:=((ah.refl H4).upd ds (o:=.lst ((V.ref a0::qv).drop 1))) _ _ F
 revert s5 U J nD
 generalize upd H4 p1 _=H5
 intro nD s5 U J
 have ad:=g_ s5 nD
 have M:D≠Rr:=fun z=>by rw[z,J] at nD;cases nD
 have b4:=Paired.length hq
 refine cm (K:=K) (xs:=qv) (fun i τ H'=>∃(x0:Option V) (cs:List Addr),τ=[x0]/\ah H5 H'/\wx H D Rr cs (qs.take i) (dx.map (·.2)) H') ⟨none,[],rfl,(ah.refl H5).upd nD,⟨bf s5 ad,ae,by rw[ak M.symm];exact J,Lk,(fun _ h=>nomatch h),.nil⟩⟩ (fun i τ H' _ ⟨_,_,_,s,_⟩=>aH.of (s _ _ U)) ?_ ?_
 ·rintro i x τ H6 hx ⟨b7,cs,rfl,s6,x6⟩
  obtain⟨qq,Y,a,vs,rfl,ha,an⟩:=aU hq hx
  refine gn (fK (fU (af (aa rfl) ao) ⟨a,vs,rfl,.inl (aH.of (x6.sm _ _ ha)),fun c nc=>⟨_,by rw[ak (dD x6.hD nc)];exact x6.hD,?_,?_⟩⟩))
  ·have:=Paired.length x6.cq
   have hi:=bO hx
   rw[JB] at this
   rw[Jd];lia
  ·have bt:=g_ x6.sm nc
   have a3:c≠D:=(dD x6.hD nc).symm
   have bv:c≠Rr:=(dD x6.hR nc).symm
   have up:∀{b o},b≠D->H6 b=some o->upd (upd H6 c (.lst vs)) D (.lst (cs.map V.ref++[.ref c])) b=some o:=fun h e=>by rw[ak h,ak (dD e nc)];exact e
   refine⟨_,cs++[c],rfl,bf (s6.trans ((ah.refl H6).upd nc)) nD,bf (x6.sm.trans ((ah.refl H6).upd nc)) ad,by rw[ae,Jl];rfl,up M.symm x6.hR,?_,?_,?_⟩
   ·rw[K1]
    refine⟨x6.nd,by simp,fun b hb d hd e=>?_⟩
    rw[e,Jv.mp hd] at hb
    obtain⟨i',bA⟩:=List.getElem?_of_mem hb
    obtain⟨_,_,us,h1,_⟩:=aU x6.cq bA
    rw[nc] at h1;cases h1
   ·intro b hb
    rcases Jz.mp hb with w|w
    ·exact x6.nw b w
    ·rw[Jv.mp w];exact⟨bt,a3,bv⟩
   ·rw[aT Y]
    exact bL ⟨vs,by rw[ak a3,ae],an⟩ (BW x6.cq fun b hb _ ⟨us,h1,h2⟩=>⟨us,up (x6.nw b hb).2.1 h1,h2⟩)
 rintro τ H6 ⟨b7,cs,rfl,s6,x6⟩
 rw[b4,JI] at x6
 refine eO (σ':=[some (.ref D),some (.int m),some (.ref Rr),none]) (by kernel_rfl) ?_
 refine⟨II H D Rr z qs,⟨_,m,none,cs,qs,dx,[],m0,x6,Z,dj,fun _=>rfl,bW,(fun _ h=>nomatch h),rfl,by lia⟩,?_⟩
 clear x6 s6 nD U J Z am F
 rintro n σ H7 ⟨m1,x3,y,S,rs,W,cq,x7,G,N,B,A,O,hn,ce⟩
 refine(EW (K:=K) (ta:=dE 0) (fun H1 s=>aa rfl) x7.hD) H7 (ah.refl H7) _ fun H8 s8=>rN (fun e=>?_) fun e=>?_
 ·have bD:y≠[]:=fun z=>by rw[z] at e;cases e
  have x8:=x7.same s8
  have lc:=Paired.length x8.cq
  have cd:S.length<=45:=by
   have:∀l:List (List Rw),l.length<=(l.map fun q=>q.length+1).sum:=fun l=>by
    induction l with
    |nil=>exact JA _
    |cons a r ih=>simp only[JC,Jr,J9];lia
   have:=this S
   lia
  refine⟨_,fun _ _ h=>h,?_⟩
  refine bK (aX (af (aa rfl) ao) ⟨m1,rfl,fun m2 a1 a2=>?_⟩)
  refine eO (σ':=[some (.ref D),some (.int m2),some (.ref Rr),x3]) (by kernel_rfl) ?_
  refine yB (fun σ H'=>∃C:List (List Str×Str),σ=[some (.ref D),some (.int m2),some (.ref Rr),x3]/\wx H D Rr y S (C.map (·.2)) H'/\CB z C W/\C.length<=rs.length+1) (fun R hR=>?_) ?_
  ·refine i9 (aE (gS (bJ (bJ (aa rfl) aq (mL (by lia) (by lia))) aq (by first|(show(0:Int)<_;lia)|(show(0:Int)<_;decide))) aq)) (fun _=>?_) fun _=>hR _ _ ⟨rs,rfl,x8,G,by lia⟩
   refine fM (fD (aa rfl) (.inl ⟨rfl,_,aH.of x8.hR⟩) (aN (cL (aN (gH (vs:=[]) ao (by show 0<=sizeLine;decide) fun e0 el=>dG (aa rfl) ⟨e0,[],m2,rfl,a1,ae,⟨(fun _ h=>nomatch h),by decide⟩,fun t H9 s9 cB=>?_⟩)))))
   have x9:=x8.same (((ah.refl H8).upd el).trans s9)
   refine⟨Rr,_,_,rfl,rfl,x9.hR,by rw[Jd,Jd];lia,hR _ _ ⟨rs++[([],t)],rfl,?_,G.none cB,by rw[Js];exact Jg _⟩⟩
   rw[Jl]
   exact x9.row1 nR M t
  rintro σ H9 ⟨C,rfl,x9,ap,ch⟩
  have cc:0<y.length:=List.length_pos_iff.mpr bD
  obtain⟨i,hi⟩:=Lr (show 0<=m2/101%(y.length:Int) from K3 _ (by lia))
  have a6:i<y.length:=by have:=Lg (m2/101) (show(0:Int)<y.length by lia);lia
  refine fI (v:=.int (i:Nat)) (bg (bJ (g:=fun i j=> .int (i%j)) (bJ (aa rfl) aq (mL (by lia) (by lia))) (eV (K:=K) (aa rfl) x9.hD) (by rw[Jd];lia)) (by show V.int _=_;rw[Jd,hi])) ?_
  refine eO (σ':=[some (.ref D),some (.int m2),some (.ref Rr),some (.int (i:Nat))]) (by kernel_rfl) ?_
  have I:y[i]?=some y[i]:=JL a6
  generalize y[i]=c at I
  have ab:=Jy I
  have a5:jW (y.map V.ref) (i:Int)=some (.ref c):=bI (by rw[JG,I];rfl)
  obtain⟨qq,Y,vs,hc,an⟩:=aU x9.cq I
  refine iL (tQ (fun H1 s=>bw (v:=.ref c) (aa rfl) (aa rfl) (aH.of (s _ _ x9.hD)) a5) hc) (fun e H10 cz=>?_) fun e H10 cz=>?_
  ·have f:=x9.same cz
   obtain⟨l',b,r',e1,e2,⟨ci,bb,bd⟩,e4,_⟩:=qf f.cq I
   have hb:b=[]:=by
    rw[cz _ _ hc] at bb
    cases bb
    cases vs with
    |nil=>cases bd;rfl
    |cons _ _=>cases e
   subst hb
   refine fM (fD (aa rfl) (.inl ⟨rfl,_,aH.of f.hD⟩) (dG (aa rfl) ⟨D,_,_,i,.ref c,rfl,rfl,f.hD,by lia,by lia,?_,by rw[JG,I];rfl,?_⟩))
   ·rw[Jd];exact G6 a6
   rw[u9]
   have hs:=F1 (l:=l') (r:=r') (b:=[])
   rw[e1] at hn N B A
   refine⟨_,by rw[hn,hs];exact Nat.lt_succ_of_le (Jg _),m2,_,y.eraseIdx i,l'++r',C,W,a1,⟨bf f.sm ad,ae,by rw[ak M.symm];exact f.hR,f.nd.sublist (List.eraseIdx_sublist ..),fun d hd=>f.nw d (List.mem_of_mem_eraseIdx hd),BW e4 fun d hd _ ⟨us,h1,h2⟩=>⟨us,by rw[ak (f.nw d (List.mem_of_mem_eraseIdx hd)).2.1];exact h1,h2⟩⟩,ap,FN N,fun k=>?_,fun q' db=>A q' ?_,O,rfl,by lia⟩
   ·rw[<-B k];simp
   ·rcases Jz.mp db with w|w
    ·exact K4 _ w
    ·exact J_ _ (Jq _ w)
  ·have f:=x9.same cz
   have ac:=cz _ _ hc
   cases an with
   |nil=>cases e
   | @cons v0 xr vt qt hr ht=>
   obtain⟨a,rfl,b6⟩:=hr
   obtain⟨l',b,r',e1,e2,_,e4⟩:=qY (o:=.lst vt) rfl ht f.cq f.nd I
   have hb:b=xr::qt:=by
    rw[e1,Kq (by lia),e2,Nat.sub_self] at Y
    exact Option.some.inj Y
   subst hb
   rw[e1] at hn N B A
   have a4:=A (xr::qt) (by simp) xr Jp
   refine fM (fD (aa rfl) (.inl ⟨rfl,_,aH.of f.hR⟩) (aN (cL (aN (fD (bw (v:=.ref c) (aa rfl) (aa rfl) (aH.of f.hD) a5) (.inl ⟨rfl,_,aH.of ac⟩) (dG aq ⟨c,_,0,0,_,rfl,rfl,ac,by decide,by decide,by unfold seqIndex?;simp,rfl,?_⟩))))))
   have X:wx H D Rr y (l'++qt::r') (C.map (·.2)) (upd H10 c (.lst vt)):=⟨bf f.sm (f.nw c ab).1,by rw[ak (f.nw c ab).2.1.symm];exact f.hD,by rw[ak (f.nw c ab).2.2.symm];exact f.hR,f.nd,f.nw,e4⟩
   have hv:(V.ref a::vt).eraseIdx 0=vt:=rfl
   rw[hv]
   revert X
   generalize upd H10 c _=f4
   intro X
   refine dG (aa rfl) ⟨a,iM xr,m2,rfl,a1,X.sm _ _ b6,DV a4.1,fun t H12 en cB=>?_⟩
   have a7:=X.same en
   refine⟨Rr,_,_,rfl,rfl,a7.hR,by rw[Jd,Jd];lia,?_⟩
   have bc:=F1 (l:=l') (r:=r') (b:=xr::qt)
   have b5:=F1 (l:=l') (r:=r') (b:=qt)
   simp only[JC] at bc
   refine⟨_,by rw[hn,bc,b5];lia,m2,_,y,l'++qt::r',C++[((iM xr).map ss,t)],W++[xr],a1,?_,ap.one cB,(yN N 0).2,fun k=>?_,fun q' db=>?_,fun r hr=>?_,rfl,?_⟩
   ·rw[Jl]
    exact a7.row1 nR M t
   ·rw[<-B k,(yN N k).1,jw,JJ]
   ·rcases Jz.mp db with w|w
    ·exact A q' (K4 _ w)
    ·rcases Jo.mp w with rfl|w
     ·exact fun r hr=>A (xr::q') (by simp) r (Jq _ hr)
     ·exact A q' (J_ _ (Jq _ w))
   ·rcases Jz.mp hr with w|w
    ·exact O r w
    ·rw[Jv.mp w];exact a4
   ·rw[Js];show _+1+_<=_;lia
 ·have bo:y=[]:=by cases y with|nil=>rfl|cons _ _=>cases e
  have b1:S=[]:=LD (by rw[<-Paired.length x7.cq,bo];rfl)
  subst b1
  have x8:=x7.same s8
  have B:∀k,fq k W=fq k qs.flatten:=fun k=>by rw[<-B k];simp[fq]
  refine st ?_
  have jo:JoinOk (Str.ofString "\n") (rs.map (·.2))=true:=pW (fun t ht=>by
   obtain⟨p,hp,rfl⟩:=Jk.mp ht
   exact(G.row p hp).len) (by decide) (by rw[Jd];lia)
  have ec:cp (Txt.join (Str.ofString "\n") (rs.map (·.2)))=jl 10 (rs.map fun p=>cp p.2):=by rw[nl,rW,Jt];rfl
  refine cU (fD aq rfl (dG (aa rfl) ⟨_,Rr,_,rfl,rfl,aH.of x8.hR,jo,q _ W H8 x8.sm ⟨rs,fun e=>?_,by lia,ec,G.row,?_,G.w⟩ B O⟩))
  ·have:=G.w;rw[e] at this;cases this
  ·rw[ec]
   refine Jn (AV fun p hp=>?_) (by rw[Jd];lia)
   obtain⟨r,hr,rfl⟩:=Jk.mp hp
   obtain⟨_,_,_,_,_,_,_,h⟩:=G.row r hr
   exact h
theorem zV (hB:K.In base)(S:az P w K mg base "rows_of" 2 ["page"] p7)(X:az P w K mg base "row_told" 6 ["kind", "words"] zu):ff P w K mg base 7 "rows_told" A0 ["page"] vU:=by
 refine rd ["page", "rows", "told", "number", "words", "parts"] fun nd _ _ _ _ _ H vs Q E hr h=>?_
 obtain⟨x,z,W,rfl,⟨U,h1,h2,h3,h4,h5,h6⟩,sz,J,q⟩:=h
 refine⟨_,(ai (bj 1 nd (aO S hr (aB (aj 0)))) (ai (cj (bN dq (a9 aV T.len_ (aB (aj 1))) ag) bX) (ai (bj 2 nd (aW dv)) (aR (dB (aK (aj 1)) (dS rfl (ax (bh 3 nd) (ax (bh 4 nd) cf))) (ai (bj 5 nd (aO X hr (ay (aG aC (aj 4) ag) (bz bU (aj 4) (bu ag) cR)))) (aR (cj (eU (bN fB (aj 5) bR) (dr (bN fQ (w6 dq (aG aC (aj 4) ag) aL) (w6 dq (a9 aV T.len_ (aB (aj 2))) ag)))).pt bX) (aM (cY JP J4 J5 bP (aj 2) (aB (cE (ay (aG aC (aj 4) ag) (aj 5))))))))) (aw (aj 2)))))),?_⟩
 dsimp only[bE,Cx.nox]
 have R:sizeLine=2^24:=rfl
 refine bK (aX (af (aa rfl) ao) ⟨x,U,rfl,h1,h2,h3,h4,h5,fun l vs H1 s1 hl hc=>?_⟩)
 try dsimp only
 have hd:=Br (U.map (·.1))
 rw[h6] at hd
 have M:(g9 (U.map (·.1))).length=W.length+1:=by rw[<-Jd (f:=fun p:List Str×Nat=>p.1),hd,Jd];rfl
 have G:=Cw (U.map (·.1))
 rw[Jd] at G
 have u:vs.length=W.length+1:=by rw[hc.1,M]
 refine eO (σ':=[some (.str x),some (.ref l),none,none,none,none]) (by kernel_rfl) ?_
 refine c6 (b:=false) (cC (aE (gS (eV (K:=K) (aa rfl) hl) aq)) (by rw[u];exact decide_eq_false (by lia))) rfl ?_
 refine oy (vs:=[]) ao (by show 0<=sizeLine;decide) fun D nD=>?_
 have s2:ah H1 (upd H1 D (.lst [])):=(ah.refl H1).upd nD
 have j:upd H1 D (.lst []) D=some (.lst []):=ae
 revert s2 j
 generalize upd H1 D _=H2
 intro s2 j
 refine eO (σ':=[some (.str x),some (.ref l),some (.ref D),none,none,none]) (by kernel_rfl) ?_
 refine vw (b9 (aa rfl) ⟨l,rfl,⟨_,aH.of (s2 _ _ hl)⟩,?_⟩)
 refine cG (K:=K) (xs:=vs) (fun i σ H'=>∃(x3 x4 x5:Option V) (us:List V),σ=[some (.str x),some (.ref l),some (.ref D),x3,x4,x5]/\ah H1 H'/\H' D=some (.lst us)/\Paired (TD (fun b=>b≠D) H') us ((.floor z::W:List Rw).take i)) ⟨none,none,none,[],rfl,s2,j,.nil⟩ (fun i σ H' _ ⟨_,_,_,_,_,s,_⟩=>aH.of (s _ _ hl)) ?_ ?_
 ·rintro i y σ H3 hy ⟨x3,x4,x5,us,rfl,Y,d,hp⟩
  have hi:=bO hy
  have N:i<(.floor z::W:List Rw).length:=by rw[JC];lia
  have hr:(.floor z::W:List Rw)[i]?=some (.floor z::W:List Rw)[i]:=JL N
  generalize (.floor z::W:List Rw)[i]=r at hr
  have A:iG r/\(kd r=0↔i=0):=by
   cases i with
   |zero=>cases hr;exact⟨sz,by simp[kd]⟩
   |succ i=>have:=J r (Jy (by simpa using hr));exact⟨this.1,by simp[this.2]⟩
  have F:i<(g9 (U.map (·.1))).length:=by lia
  have m:(g9 (U.map (·.1)))[i]?=some (g9 (U.map (·.1)))[i]:=JL F
  generalize (g9 (U.map (·.1)))[i]=Z at m
  have C:Z.1=(iM r).map ss:=by
   have e1:((g9 (U.map (·.1))).map (·.1))[i]?=some Z.1:=by rw[JG,m];rfl
   rw[hd,JG,hr] at e1
   exact(Option.some.inj e1).symm
  obtain⟨v,hv,a,b,rfl,ha,hb,_⟩:=hc.2 i Z m
  rw[hy] at hv
  cases hv
  have o:WL H3 b (iM r):=by unfold WL;rw[Y _ _ hb,C,s_]
  have I:=Paired.length hp
  rw[JB] at I
  refine⟨a,_,rfl,cn.of (Y _ _ ha),rfl,_,_,rfl,gn ⟨_,_,rfl,gn ⟨rfl,?_⟩⟩⟩
  have ew:∀{σ:St} {H':Hp},σ[4]?=some (some (.ref b))->WL H' b (iM r)->Ev (fZ (lD K) (dE 4) (tC (.int 0))) σ H' (.str (kS (kd r))):=fun h e=>bw (aa h) aq (aH.of e) (by rw[<-m4];exact GV)
  try dsimp only
  refine eO (σ':=[some (.str x),some (.ref l),some (.ref D),some (.int ((Z.2+1:Nat):Int)),some (.ref b),x5]) (by kernel_rfl) ?_
  refine bK (cL (dG (ew rfl o) (aN (fV (mz r) (aa rfl) zU so o (iT _ 1 (by simp[iM])) fun w H4 s4 hw=>⟨w,r,rfl,hw,A.1,fun v H5 s5 pt vn=>?_⟩))))
  have g:=s4.trans s5
  have c:=g _ _ d
  have B:WL H5 b (iM r):=g _ _ o
  try dsimp only
  refine eO (σ':=[some (.str x),some (.ref l),some (.ref D),some (.int ((Z.2+1:Nat):Int)),some (.ref b),some v]) (by kernel_rfl) ?_
  refine c6 (b:=false) (cC (fF (a:=false) (b:=false) (cC (aE (ou (aa rfl) aq)) (decide_eq_false vn)) fun _=>aE fun Q' q'=>(jA (ew rfl B) aq) _ ((gS (eV (K:=K) (aa rfl) c) aq) _ ⟨rfl,?_⟩)) rfl) rfl ?_
  ·have:decide (kS (kd r)=Str.ofString "floor")=decide (((us.length:Nat):Int)=0):=by
    rw[show Str.ofString "floor" =kS 0 from rfl,zm _ (qc r) 0 (by decide),decide_eq_decide,A.2]
    lia
   rw[this]
   simpa using q'
  refine fM (fD (aa rfl) (.inl ⟨rfl,_,aH.of c⟩) (aN (iI (vs:=[.str (kS (kd r)),v]) (af (ew rfl B) (af (aa rfl) ao)) (by show 2<=sizeLine;decide) fun t nt=>⟨D,us,_,rfl,rfl,((ah.refl H5).upd nt) _ _ c,by lia,?_⟩)))
  have O:=nD
  refine⟨_,_,_,us++[.ref t],rfl,bf (Y.trans (g.trans ((ah.refl H5).upd nt))) nD,ae,?_⟩
  rw[aT hr]
  have tp:∀b xs,H5 b=some (.tup xs)->upd (upd H5 t (.tup [.str (kS (kd r)),v])) D (.lst (us++[.ref t])) b=some (.tup xs):=fun b xs e=>by rw[ak (iD e c fun z=>nomatch z),ak (dD e nt)];exact e
  have lp:∀b xs,b≠D->H5 b=some (.lst xs)->upd (upd H5 t (.tup [.str (kS (kd r)),v])) D (.lst (us++[.ref t])) b=some (.lst xs):=fun b xs n e=>by rw[ak n,ak (dD e nt)];exact e
  refine bL ⟨t,v,rfl,by rw[ak (dD c nt).symm,ae],pt.up tp (fun b xs a e=>lp b xs (fun z=>by rw[z,s4 _ _ d] at a;cases a) e) fun b xs a _ z=>by rw[z,s4 _ _ d] at a;cases a⟩ (Paired.mapP hp fun _ _ h=>(h.same g).up tp lp fun _ _ a _=>a)
 ·rintro σ H3 ⟨x3,x4,x5,us,rfl,Y,d,hp⟩
  rw[u,<-JC (a:=Rw.floor z) (as:=W),JI] at hp
  exact eB (aa rfl) (q D us H3 (s1.trans Y) d (Paired.mapP hp fun _ _ h=>h.up (fun _ _ e=>e) (fun _ _ _ e=>e) fun _ _ _ _=>trivial))
theorem wF:ff P w K mg base 1 "parts_of" vB ["told", "kind"] qR:=by
 refine rd ["told", "kind"] fun J _ _ _ _ _ H vs Q E hr h=>?_
 obtain⟨l,us,W,k,rfl,F,A,B,M,q⟩:=h
 refine⟨_,(aD (aw (fW ["one", "parts"] ["kind"] [1] (aK (aj 0)) (ie (K:=K) (n:=2) rfl rfl (ax (c_ 0) (ax (c_ 1) cf)) rfl rfl) (jy (bN dq (aj 0) (aj 2))) (aj 1)))),?_⟩
 dsimp only[bE,Cx.nox]
 have f:sizeLine=2^24:=rfl
 refine cU ⟨_,rfl,l,rfl,⟨_,aH.of A⟩,fun D p=>?_⟩
 have b:=Paired.length B
 refine cm (K:=K) (xs:=us) (fun i o H'=>∃(v x:Option V) (g:List V),o=[v,x,some (.str (kS k))]/\ah H H'/\H' D=some (.lst g)/\Paired (Pt (fun _=>True) H) g (fk k (W.take i))) ⟨none,none,[],rfl,(ah.refl H).upd p,ae,.nil⟩ (fun i o H' _ ⟨_,_,_,_,s,_⟩=>aH.of (s _ _ A)) ?_ ?_
 ·rintro i y o H' I ⟨v,x,g,rfl,j,m,a⟩
  obtain⟨r,hr,t,u,rfl,C,G⟩:=aU B I
  refine⟨t,_,rfl,cn.of (j _ _ C),rfl,_,_,rfl,gn ⟨_,_,rfl,gn ⟨rfl,?_⟩⟩⟩
  have c:=Paired.length a
  have d:(fk k (W.take i)).length<=W.length:=Jn (LP _ _) (by rw[JB];lia)
  have z:fk k (W.take (i+1))=fk k (W.take i)++fk k [r]:=by rw[aT hr,EL]
  refine iH (cC (aE (jA (aa rfl) (aa rfl))) (zm _ (qc r) k F)) (rN (fun e=>?_) fun e=>?_)
  ·have e:=of_decide_eq_true e
   refine(aa rfl:Ev (dE 1) _ _ _) _ ⟨g,m,?_,_,_,g++[u],rfl,bf j p,ae,?_⟩
   ·lia
   ·rw[z,show fk k [r]=[r] by simp[fk,e]];exact bL G a
  ·have e:=of_decide_eq_false e
   exact⟨_,_,g,rfl,j,m,by rw[z,show fk k [r]=[] by simp[fk,e],JK];exact a⟩
 ·rintro o H' ⟨v,x,g,rfl,j,m,a⟩
  rw[b,JI] at a
  exact q D g H' j p m (Paired.mapP a fun _ _ h=>h.same j)
theorem FJ:ff P w K mg base 1 "between" GB ["one", "two"] D5:=by
 refine rd ["one", "two"] fun c _ _ _ _ _ H vs Q E hr h=>?_
 obtain⟨a,b,rfl,ha,d,q⟩:=h
 refine⟨_,(aD (aw (dR (mv rfl) T.list_ (aB (dR rL T.range_ (ay (a9 (dz rfl) T.min_ (ay (aj 0) (aj 1))) (au aZ (a9 (dA rfl) T.max_ (ay (aj 0) (aj 1))) ag))))))),?_⟩
 refine⟨_,rfl,_,rfl,_,_,rfl,_,rfl,_,rfl,_,_,rfl,_,1,rfl,rfl,_,_,rfl,fun p np=>?_⟩
 rw[A4,Eg]
 refine⟨p,min (a:Int) b,max (a:Int) b+1,rfl,ae,by omega,by omega,fun l nl=>?_⟩
 refine q l _ (((ah.refl H).upd np).upd nl) (nw nl).2 ?_
 rw[ae]
 unfold iu
 rw[List.range'_eq_map_range,Jt,show(max (a:Int) b+1 - min (a:Int) b).toNat=max a b - min a b+1 by omega]
 refine congrArg (fun l=>some (HO.lst l)) (Lf fun k _=>?_)
 show V.int _=V.int _
 congr 1
 show min (a:Int) b+(k:Nat)=((min a b+k:Nat):Int)
 omega
theorem E5 (S:az P w K mg base "between" 1 ["one", "two"] D5):ff P w K mg base 2 "box" Gz ["one", "two"] Be:=by
 refine rd ["one", "two", "spots", "layer", "row"] fun nd _ _ _ _ _ H vs Q E hr h=>?_
 obtain⟨b,c,f,s,rfl,hb,hc,⟨f1,f2,f3⟩,⟨g1,g2,g3⟩,q⟩:=h
 refine⟨_,(ai (bj 2 nd (aW dv)) (aR (dB (aK (aO S hr (ay (aG aF (aj 0) ag) (aG aF (aj 1) ag)))) (bh 3 nd) (aD (dB (aK (aO S hr (ay (aG aF (aj 0) ag) (aG aF (aj 1) ag)))) (bh 4 nd) (aD (aM (cY JP PySem.F.slot_list_extend PySem.F.type_list_extend mB (aj 2) (aB (fW ["column"] ["layer", "row"] [3,4] (aK (aO S hr (ay (aG aF (aj 0) ag) (aG aF (aj 1) ag)))) (c_ 0) cg (cE (aA (aj 1) (ay (aj 2) (aj 0)))))))))))) (aw (aj 2)))),?_⟩
 dsimp only[bE,Cx.nox]
 have R:sizeLine=2^24:=rfl
 refine oy (vs:=[]) ao (by show 0<=sizeLine;decide) fun l nl=>?_
 have W:ah H (upd H l (.lst [])):=(ah.refl H).upd nl
 have l0:upd H l (.lst []) l=some (.lst []):=ae
 revert W l0
 generalize upd H l (.lst [])=H1
 intro W l0
 refine eO (σ':=[some (.ref b),some (.ref c),some (.ref l),none,none]) (by kernel_rfl) ?_
 have e1:=pH f1 g1
 have e2:=pH f2 g2
 have e3:=pH f3 g3
 refine BU (af (cy rfl (W _ _ hb) rfl) (af (cy rfl (W _ _ hc) rfl) ao)) ⟨f.1,s.1,rfl,f1,g1,fun la H2 s2 X Y=>?_⟩
 have N:la≠l:=fun e=>by rw[e,l0] at X;cases X
 refine⟨la,rfl,⟨_,aH.of Y⟩,cG (K:=K) (a:=la) (xs:=(iu f.1 s.1).map fun n=>V.int (n:Nat)) (fun i σ H'=>∃(x3 U:Option V) (bs:List Addr),σ=[some (.ref b),some (.ref c),some (.ref l),x3,U]/\Sb l H2 H'/\H' l=some (.lst (bs.map V.ref))/\bB H' bs ((((iu f.1 s.1).take i).flatMap fun a=>rC f s a).map t3)/\bs.length<=64*i)
  ⟨none,none,[],rfl,Sb.refl l H2,s2 _ _ l0,.nil,by simp⟩ (fun i σ H' _ ⟨_,_,_,_,sb,_⟩=>aH.of (sb _ _ N Y)) ?_ ?_⟩
 ·rintro i v σ H3 hi ⟨x3,U,bs,rfl,d,u,m,O⟩
  obtain⟨y,hy,rfl⟩:=gD hi
  have li:=bO hy
  refine gn ?_
  have T:∀{H':Hp} {p:Addr} {g:P3},Sb l H2 H'->A3 H p g->A3 H' p g:=fun z e=>z _ _ (ar e nl) (s2 _ _ (W _ _ e))
  refine ki (af (cy rfl (T d hb) rfl) (af (cy rfl (T d hc) rfl) ao)) ⟨f.2.1,s.2.1,rfl,f2,g2,fun lb H4 s4 Z ac=>?_⟩
  have M:lb≠l:=fun e=>by rw[e,u] at Z;cases Z
  refine⟨lb,rfl,⟨_,aH.of ac⟩,cG (K:=K) (a:=lb) (xs:=(iu f.2.1 s.2.1).map fun n=>V.int (n:Nat)) (fun j σ H'=>∃(U:Option V) (bs:List Addr),σ=[some (.ref b),some (.ref c),some (.ref l),some (.int (y:Nat)),U]/\Sb l H4 H'/\H' l=some (.lst (bs.map V.ref))/\bB H' bs (((((iu f.1 s.1).take i).flatMap fun a=>rC f s a)++((iu f.2.1 s.2.1).take j).flatMap fun b=>om f s y b).map t3)/\bs.length<=64*i+8*j)
   ⟨_,bs,rfl,Sb.refl l H4,s4 _ _ u,by rw[LL,List.flatMap_nil,JK];exact m.same s4,by lia⟩ (fun i σ H' _ ⟨_,_,_,sb,_⟩=>aH.of (sb _ _ M ac)) ?_ ?_⟩
  ·rintro j v σ H5 hj ⟨U,bs,rfl,o,r,x,G⟩
   obtain⟨z,hz,rfl⟩:=gD hj
   have lj:=bO hz
   have A:=(d.trans (Sb.of s4)).trans o
   refine gn ?_
   refine⟨_,rfl,.inl ⟨rfl,_,aH.of r⟩,?_⟩
   refine aX (af (cy rfl (T A hb) rfl) (af (cy rfl (T A hc) rfl) ao)) ⟨f.2.2,s.2.2,rfl,f3,g3,fun lc H6 s6 bm ab=>?_⟩
   refine⟨lc,rfl,⟨_,aH.of ab⟩,fun D nD=>?_⟩
   refine k_ (K:=K) (rest:=[some (.int (y:Nat)),some (.int (z:Nat))]) (iu f.2.2 s.2.2) (fun n=>V.int (n:Nat)) (fun H v n=>∃t,v=.ref t/\A3 H t (y,z,n)) (fun⟨t,e,h⟩ s e'=>⟨t,e,zi h s e'⟩) ab nD (by lia) (fun n hn H' _ _ Qv qv=>iI (vs:=[.int (y:Nat),.int (z:Nat),.int (n:Nat)]) (af (aa rfl) (af (aa rfl) (af (aa rfl) ao))) (by show 3<=sizeLine;decide) fun p np=>qv _ _ ((ah.refl H').upd np) ⟨p,rfl,ae⟩) fun vs H7 s7 hD hv=>?_
   obtain⟨rs,rfl,J⟩:=vC (ps:=om f s y z) (A9 (g:=fun c=>(y,z,c)) hv)
   have F:=Paired.length J
   rw[Jd] at F
   unfold om at F
   rw[Jd] at F
   have B:=s6.trans s7
   have C:=B _ _ r
   refine⟨l,D,_,_,rfl,rfl,C,hD,(by rw[Jd,Jd];lia),_,bs++rs,rfl,(o.trans (Sb.of B)).set,?_,?_,?_⟩
   ·rw[ae,Jl]
   ·rw[aT hz,L_,List.flatMap_singleton,<-JJ,Jl]
    have I:Sb l H7 (upd H7 l (.lst (bs.map V.ref++rs.map V.ref))):=(Sb.refl l H7).set
    exact f6 (I.tups C (x.same B)) (I.tups C J)
   ·rw[Js];lia
  ·rintro σ H5 ⟨U,bs,rfl,o,r,x,G⟩
   rw[Jd,JI] at x
   rw[Jd] at G
   refine⟨_,_,bs,rfl,(d.trans (Sb.of s4)).trans o,r,?_,by lia⟩
   rw[aT hy,L_,List.flatMap_singleton]
   exact x
 ·rintro σ H3 ⟨x3,U,bs,rfl,d,u,m,O⟩
  rw[Jd,JI] at m
  exact⟨_,rfl,q l H3 (((Sb.of (W.trans s2)).trans d).same nl) nl ⟨bs,u,m⟩⟩
theorem wK:ff P w K mg base 1 "_law_spot_at" u5 ["sizes", "number"] kN:=by
 refine rd ["sizes", "number"] fun l _ _ _ _ _ H vs Q E hr h=>?_
 obtain⟨a,z,n,rfl,ha,⟨m,g,j⟩,i,b,q⟩:=h
 refine⟨_,(aD (aw (cE (aA (au bG (aj 1) (au gw (aG aF (aj 0) ag) (aG aF (aj 0) ag))) (ay (au bF (au bG (aj 1) (aG aF (aj 0) ag)) (aG aF (aj 0) ag)) (au bF (aj 1) (aG aF (aj 0) ag))))))),?_⟩
 dsimp only[bE,Cx.nox]
 obtain⟨n,rfl⟩:=Lr i
 have b:n<z.1*z.2.1*z.2.2:=by exact_mod_cast b
 have d:0<z.2.2:=by omega
 have c:0<z.2.1:=by omega
 refine ui (vs:=[.int ((n/(z.2.1*z.2.2):Nat):Int),.int ((n/z.2.2%z.2.1:Nat):Int),.int ((n%z.2.2:Nat):Int)]) (af (bg (bJ (aa rfl) (bJ (cy rfl ha rfl) (cy rfl ha rfl) (Cq (by omega) (by omega))) (mL ?_ ?_)) (by push_cast;rfl)) (af (bg (bJ (bJ (aa rfl) (cy rfl ha rfl) (mL (by omega) (by omega))) (cy rfl ha rfl) (by show(0:Int)<_;omega)) (by push_cast;rfl)) (af (bg (bJ (aa rfl) (cy rfl ha rfl) (by show(0:Int)<_;omega)) (by push_cast;rfl)) ao))) (by show 3<=sizeLine;decide) fun t f=>?_
 ·exact_mod_cast Nat.mul_pos c d
 ·have:z.2.1*z.2.2<=5*7:=Lm g.2 j.2
  have:((z.2.1*z.2.2:Nat):Int)<=35:=by omega
  have e:((z.2.1:Nat):Int)*((z.2.2:Nat):Int)=((z.2.1*z.2.2:Nat):Int):=by push_cast;rfl
  rw[e];omega
 ·have h1:n/(z.2.1*z.2.2)=n/z.2.2/z.2.1:=by rw[Nat.mul_comm,Nat.div_div_eq_div_mul]
  refine q t (n/(z.2.1*z.2.2),n/z.2.2%z.2.1,n%z.2.2) _ ((ah.refl H).upd f) ae ⟨?_,Nat.mod_lt _ c,Nat.mod_lt _ d⟩ ?_
  ·exact Nat.div_lt_of_lt_mul (by rw[Nat.mul_assoc] at b;rw[Nat.mul_comm];exact b)
  ·show(((n/(z.2.1*z.2.2)*z.2.1+n/z.2.2%z.2.1)*z.2.2+n%z.2.2:Nat):Int)=(n:Nat)
   rw[h1,Nat.mul_comm (n/z.2.2/z.2.1),Nat.div_add_mod,Nat.mul_comm (n/z.2.2),Nat.div_add_mod]
theorem DB:ff P w K mg base 1 "_law_box" DZ ["one", "two"] y7:=by
 refine rd ["one", "two", "spots", "layer", "row", "column"] fun O _ _ _ _ _ H vs Q E hr h=>?_
 obtain⟨b,c,f,s,rfl,I,J,⟨f1,Y,Z⟩,⟨g1,X,g3⟩,q⟩:=h
 refine⟨_,(ai (bj 2 O (aW dv)) (aR (dB (f9 (by rfl) T.range_ (ay (a9 (dz rfl) T.min_ (ay (aG aF (aj 0) ag) (aG aF (aj 1) ag))) (au aZ (a9 (dA rfl) T.max_ (ay (aG aF (aj 0) ag) (aG aF (aj 1) ag))) ag))) (bh 3 O) (aD (dB (f9 (by rfl) T.range_ (ay (a9 (dz rfl) T.min_ (ay (aG aF (aj 0) ag) (aG aF (aj 1) ag))) (au aZ (a9 (dA rfl) T.max_ (ay (aG aF (aj 0) ag) (aG aF (aj 1) ag))) ag))) (bh 4 O) (aD (dB (f9 (by rfl) T.range_ (ay (a9 (dz rfl) T.min_ (ay (aG aF (aj 0) ag) (aG aF (aj 1) ag))) (au aZ (a9 (dA rfl) T.max_ (ay (aG aF (aj 0) ag) (aG aF (aj 1) ag))) ag))) (bh 5 O) (aD (aM (cY JP J4 J5 bP (aj 2) (aB (cE (aA (aj 3) (ay (aj 4) (aj 5))))))))))))) (aw (aj 2)))),?_⟩
 dsimp only[bE,Cx.nox]
 have A:sizeLine=2^24:=rfl
 refine oy (vs:=[]) ao (by show 0<=sizeLine;decide) fun l nl=>?_
 have G:ah H (upd H l (.lst [])):=(ah.refl H).upd nl
 have U:upd H l (.lst []) l=some (.lst []):=ae
 revert G U
 generalize upd H l (.lst [])=H1
 intro G U
 refine eO (σ':=[some (.ref b),some (.ref c),some (.ref l),none,none,none]) (by kernel_rfl) ?_
 have e1:=pH f1 g1
 have e2:=pH Y X
 have e3:=pH Z g3
 have fl:∀{us:List Nat} {i:Nat} {x:Nat} {h:Nat->List P3},us[i]?=some x->(us.take (i+1)).flatMap h=(us.take i).flatMap h++h x:=fun M=>by rw[aT M,L_,List.flatMap_singleton]
 refine kf fun R hR=>tH (K:=K) (cy rfl (G _ _ I) rfl) (cy rfl (G _ _ J) rfl) (cy rfl (G _ _ I) rfl) (cy rfl (G _ _ J) rfl) f1 g1 ?_
 refine cK (fun i σ H'=>∃(S C B:Option V) (bs:List Addr),σ=[some (.ref b),some (.ref c),some (.ref l),S,C,B]/\ah H H'/\H' l=some (.lst (bs.map V.ref))/\bB H' bs ((((iu f.1 s.1).take i).flatMap fun a=>rC f s a).map t3)/\bs.length<=64*i) ⟨none,none,none,[],rfl,G,U,.nil,by simp⟩ ?_ ?_
 ·rintro i σ H2 hi ⟨S,C,B,bs,rfl,F,p,m,u⟩
  refine gn ?_
  have M:=o_ hi
  refine eO (σ':=[some (.ref b),some (.ref c),some (.ref l),some (.int ((min f.1 s.1+i:Nat):Int)),C,B]) (by rw[Int.natCast_add];rfl) ?_
  generalize min f.1 s.1+i=x at M
  refine tH (K:=K) (cy rfl (F _ _ I) rfl) (cy rfl (F _ _ J) rfl) (cy rfl (F _ _ I) rfl) (cy rfl (F _ _ J) rfl) Y X ?_
  refine cK (fun j σ H'=>∃(C B:Option V) (bs:List Addr),σ=[some (.ref b),some (.ref c),some (.ref l),some (.int (x:Nat)),C,B]/\ah H H'/\H' l=some (.lst (bs.map V.ref))/\bB H' bs (((((iu f.1 s.1).take i).flatMap fun a=>rC f s a)++((iu f.2.1 s.2.1).take j).flatMap fun b=>om f s x b).map t3)/\bs.length<=64*i+8*j) ⟨_,_,bs,rfl,F,p,by rw[LL,List.flatMap_nil,JK];exact m,by omega⟩ ?_ ?_
  ·rintro j σ H3 hj ⟨C,B,bs,rfl,D,o,n,v⟩
   refine gn ?_
   have hy:=o_ hj
   refine eO (σ':=[some (.ref b),some (.ref c),some (.ref l),some (.int (x:Nat)),some (.int ((min f.2.1 s.2.1+j:Nat):Int)),B]) (by rw[Int.natCast_add];rfl) ?_
   generalize min f.2.1 s.2.1+j=y at hy
   refine tH (K:=K) (cy rfl (D _ _ I) rfl) (cy rfl (D _ _ J) rfl) (cy rfl (D _ _ I) rfl) (cy rfl (D _ _ J) rfl) Z g3 ?_
   refine cK (fun k σ H'=>∃(B:Option V) (bs:List Addr),σ=[some (.ref b),some (.ref c),some (.ref l),some (.int (x:Nat)),some (.int (y:Nat)),B]/\ah H H'/\H' l=some (.lst (bs.map V.ref))/\bB H' bs ((((((iu f.1 s.1).take i).flatMap fun a=>rC f s a)++((iu f.2.1 s.2.1).take j).flatMap fun b=>om f s x b)++((iu f.2.2 s.2.2).take k).map fun c=>(x,y,c)).map t3)/\bs.length<=64*i+8*j+k) ⟨_,bs,rfl,D,o,by rw[LL,KR,JK];exact n,by omega⟩ ?_ ?_
   ·rintro k σ H4 hk ⟨B,bs,rfl,s4,d,g,r⟩
    refine gn ?_
    have W:=o_ hk
    refine eO (σ':=[some (.ref b),some (.ref c),some (.ref l),some (.int (x:Nat)),some (.int (y:Nat)),some (.int ((min f.2.2 s.2.2+k:Nat):Int))]) (by rw[Int.natCast_add];rfl) ?_
    generalize min f.2.2 s.2.2+k=z at W
    refine fD (aa rfl) (.inl ⟨rfl,_,aH.of d⟩) (aN (iI (vs:=[.int (x:Nat),.int (y:Nat),.int (z:Nat)]) (af (aa rfl) (af (aa rfl) (af (aa rfl) ao))) (by show 3<=sizeLine;decide) fun t N=>⟨l,_,_,rfl,rfl,((ah.refl H4).upd N) _ _ d,by rw[Jd];omega,?_⟩))
    refine⟨_,bs++[t],rfl,bf (s4.trans ((ah.refl H4).upd N)) nl,by rw[ae,Jl];rfl,?_,by rw[Js];show _+1<=_;omega⟩
    rw[aT W,Jl (f:=fun c=>(x,y,c)),<-JJ,Jl]
    have up:∀{a' ys},H4 a'=some (.tup ys)->upd (upd H4 t (.tup [.int (x:Nat),.int (y:Nat),.int (z:Nat)])) l (.lst (bs.map V.ref++[.ref t])) a'=some (.tup ys):=fun e=>by rw[ak (iD e d fun z=>nomatch z),ak (dD e N)];exact e
    exact f6 (Paired.mapP g fun _ _ e=>up e) (.cons (by rw[ak (dD d N).symm];exact ae) .nil)
   ·rintro σ H4 ⟨B,bs,rfl,s4,d,g,r⟩
    rw[JI] at g
    refine⟨_,_,bs,rfl,s4,d,?_,by omega⟩
    rw[fl hy,<-JJ];exact g
  ·rintro σ H3 ⟨C,B,bs,rfl,D,o,n,v⟩
   rw[JI] at n
   refine⟨_,_,_,bs,rfl,D,o,?_,by omega⟩
   rw[fl M];exact n
 ·rintro σ H2 ⟨S,C,B,bs,rfl,F,p,m,u⟩
  rw[JI] at m
  refine hR _ _ ?_
  exact eB (aa rfl) (q l H2 F nl ⟨bs,p,m⟩)
theorem xX (C:az P w K mg base "box" 2 ["one", "two"] Be):ff P w K mg base 3 "marked" vV ["boxes"] p5:=by
 refine rd ["boxes", "marks", "mark", "one", "two", "spot"] fun r _ _ _ _ _ H vs Q E hr h=>?_
 obtain⟨l,us,bs,rfl,S,T,a,n,q⟩:=h
 refine⟨_,(ai (bj 1 r gW) (aR (dB (aK (aj 0)) (dS rfl (ax (bh 2 r) (ax (bh 3 r) (ax (bh 4 r) cf)))) (aD (dB (aK (aO C hr (ay (aj 3) (aj 4)))) (bh 5 r) (aD (jV (bT.one hr) (aj 1) (aj 5) (aj 2) (by rfl)))))) (aw (aj 1)))),?_⟩
 dsimp only[bE,Cx.nox]
 have p:sizeLine=2^24:=rfl
 refine bK fun d r=>?_
 have D:ah H (upd H d (.dT [])):=(ah.refl H).upd r
 have hd:upd H d (.dT []) d=some (.dT []):=ae
 revert D hd
 generalize upd H d _=H1
 intro D hd
 try dsimp only
 refine eO (σ':=[some (.ref l),some (.ref d),none,none,none,none]) (by kernel_rfl) ?_
 have j:=Paired.length T
 refine vw (b9 (aa rfl) ⟨l,rfl,⟨_,aH.of (D _ _ S)⟩,?_⟩)
 refine cG (K:=K) (xs:=us) (fun i σ H'=>∃O I J F:Option V,σ=[some (.ref l),some (.ref d),O,I,J,F]/\ah H H'/\H' d=some (.dT (mk (bs.take i)))) ⟨none,none,none,none,rfl,D,hd⟩ (fun i σ H' _ ⟨_,_,_,_,_,s,_⟩=>aH.of (s _ _ S)) ?_ ?_
 ·rintro i x σ H2 W ⟨O,I,J,F,rfl,u,e⟩
  obtain⟨b,G,t,y,z,rfl,Y,hy,U⟩:=aU T W
  have f:=Jy G
  have m:=BC (bs:=bs.take i) fun b G=>a b (LM G)
  rw[JB] at m
  have o:=pI (a b f).1 (a b f).2
  refine⟨t,_,rfl,cn.of (u _ _ Y),rfl,_,_,rfl,gn ⟨_,_,rfl,gn ⟨_,_,rfl,gn ⟨rfl,?_⟩⟩⟩⟩
  try dsimp only
  refine eO (σ':=[some (.ref l),some (.ref d),some b.1,some (.ref y),some (.ref z),F]) (by kernel_rfl) ?_
  refine ki (af (aa rfl) (af (aa rfl) ao)) ⟨y,z,b.2.1,b.2.2,rfl,u _ _ hy,u _ _ U,(a b f).1,(a b f).2,fun X H3 R Z ⟨as,B,M⟩=>⟨X,rfl,⟨_,aH.of B⟩,?_⟩⟩
  refine oQ B M (R _ _ e) (by lia) (fun _=>rfl) (fun _=>rfl) (fun _ _=>aa rfl) fun A H4 N s4 c=>?_
  have c:H4 d=some (.dT (mk (bs.take (i+1)))):=by rw[aT G,jT];exact c
  have g:=(((Sb.of (u.trans R)).trans s4).same r)
  rcases N with rfl|⟨v,rfl⟩
  ·exact⟨_,_,_,_,rfl,g,c⟩
  ·exact⟨_,_,_,_,rfl,g,c⟩
 ·rintro σ H2 ⟨O,I,J,F,rfl,u,e⟩
  rw[j,JI] at e
  exact eB (aa rfl) (q d H2 u r e)
theorem CY (ad:az P w K mg base "_law_word" 1 ["spot"] oX):ff P w K mg base 2 "_law_corners" D7 ["one", "two", "turn"] yZ:=by
 refine rd ["one", "two", "turn", "ends", "k", "kept"] fun nd _ _ _ _ _ H vs Q E hr h=>?_
 obtain⟨a,b,f,s,t,rfl,ha,hb,hf,hs,q⟩:=h
 refine⟨_,(ai (bj 3 nd (aW (ay (dR cM T.list_ (aB (aj 0))) (dR cM T.list_ (aB (aj 1)))))) (ai (dB (oJ T.range_ (aB ag)) (bh 4 nd) (aD (ji (bN dq (au bF (au bG (aj 2) (aG aC (aW (aA ag (ay ag ag))) (aj 4))) ag) ag) (ai (bj 5 nd (aG aC (aG aC (aj 3) ag) (aj 4))) (aR (gA (aG aC (aG aC (aj 3) ag) (aj 4)) (yD (aG aC (aj 3) ag) (aj 4) qh)) (gA (aj 5) (yD (aG aC (aj 3) ag) (aj 4) qh)))) jg))) (aR (cj (ud (bN (Fg hr) (aj 0) (aj 1)) (oG (bN dq (au bF (au bG (aj 2) ag) ag) ag))).pt (aw (aW (aB (aO ad hr (aB (aj 0))))))) (aw (aW (ay (aO ad hr (aB (aG aC (aj 3) ag))) (aO ad hr (aB (aG aC (aj 3) ag))))))))),?_⟩
 dsimp only[bE,Cx.nox]
 have ac:sizeLine=2^24:=rfl
 refine bK (i5 (aN (fU (af (aa rfl) ao) ⟨a,_,rfl,.inr (cn.of ha),fun x nx=>aN (fU (af (aa rfl) ao) ⟨b,_,rfl,.inr (cn.of (((ah.refl H).upd nx) _ _ hb)),fun y ny=>⟨(by show 2<=sizeLine;decide),fun e ne=>?_⟩⟩)⟩)))
 have M:y≠x:=(nw ny).1
 have W:e≠x:=(nw (nw ne).2).1
 have S:e≠y:=(nw ne).1
 have Y:=nx
 have Z:H y=none:=(nw ny).2
 have s1:ah H (upd (upd (upd H x (.lst ((t3 f).map V.int))) y (.lst ((t3 s).map V.int))) e (.lst [.ref x,.ref y])):=(((ah.refl H).upd nx).upd ny).upd ne
 have O:upd (upd (upd H x (.lst ((t3 f).map V.int))) y (.lst ((t3 s).map V.int))) e (.lst [.ref x,.ref y]) x=some (.lst ((t3 f).map V.int)):=by rw[ak W.symm,ak M.symm,ae]
 have C:upd (upd (upd H x (.lst ((t3 f).map V.int))) y (.lst ((t3 s).map V.int))) e (.lst [.ref x,.ref y]) y=some (.lst ((t3 s).map V.int)):=by rw[ak S.symm,ae]
 have F:upd (upd (upd H x (.lst ((t3 f).map V.int))) y (.lst ((t3 s).map V.int))) e (.lst [.ref x,.ref y]) e=some (.lst [.ref x,.ref y]):=ae
 revert s1 O C F
 generalize upd (upd (upd H x _) y _) e _=H1
 intro s1 O C F
 try dsimp only
 refine eO (σ':=[some (.ref a),some (.ref b),some (.int t),some (.ref e),none,none]) (by kernel_rfl) ?_
 refine jc (j:=3) (af aq ao) (by decide) (by decide) ?_
 refine cK (n:=3) (fun i σ H'=>∃(x4 x5:Option V) (p r:P3),σ=[some (.ref a),some (.ref b),some (.int t),some (.ref e),x4,x5]/\ah H H'/\H' e=some (.lst [.ref x,.ref y])/\H' x=some (.lst ((t3 p).map V.int))/\H' y=some (.lst ((t3 r).map V.int))/\Sw p r f s) ⟨none,none,f,s,rfl,s1,F,O,C,⟨.inl ⟨rfl,rfl⟩,.inl ⟨rfl,rfl⟩,.inl ⟨rfl,rfl⟩⟩⟩ ?_ ?_
 ·rintro i σ H2 hi ⟨x4,x5,p,r,rfl,s2,o,D,G,sw⟩
  have hi:i<3:=hi
  refine gn ?_
  refine eO (σ':=[some (.ref a),some (.ref b),some (.int t),some (.ref e),some (.int (i:Nat)),x5]) (by rw[Int.zero_add];rfl) ?_
  have X:∃d:Int,jW [V.int 1,.int 2,.int 4] (i:Int)=some (.int d)/\0<d/\d<10:=by
   match i,hi with
   |0,_=>exact⟨1,rfl,by decide,by decide⟩
   |1,_=>exact⟨2,rfl,by decide,by decide⟩
   |2,_=>exact⟨4,rfl,by decide,by decide⟩
  obtain⟨d,hd,d0,d9⟩:=X
  refine BM (yf (dM (dM (dM (b9 (aa rfl) (jS (af aq (af aq (af aq ao))) (by show 3<=sizeLine;decide) (fun _ _=>aa rfl) hd fun H3 s3=>⟨_,_,rfl,rfl,mL d0 (by lia),b9 aq ⟨_,_,rfl,rfl,(by show(0:Int)<2;decide),b9 aq ⟨rfl,_,rfl,?_⟩⟩⟩))))))
  have R:=s2.trans s3
  have m:=s3 _ _ o
  have J:=s3 _ _ D
  have N:=s3 _ _ G
  refine rN (fun _=>?_) fun _=>⟨_,_,p,r,rfl,R,m,J,N,sw⟩
  obtain⟨u,v,p',r',hu,hv,a5,bb,hj,a4⟩:∃(u v:V) (p' r':P3),jW ((t3 p).map V.int) (i:Int)=some u/\jW ((t3 r).map V.int) (i:Int)=some v/\((t3 p).map V.int).set i v=(t3 p').map V.int/\((t3 r).map V.int).set i u=(t3 r').map V.int/\Em 3 (i:Int)=some i/\Sw p' r' f s:=by
   obtain⟨w1,w2,w3⟩:=sw
   match i,hi with
   |0,_=>exact⟨_,_,(r.1,p.2.1,p.2.2),(p.1,r.2.1,r.2.2),rfl,rfl,rfl,rfl,rfl,⟨w1.elim (fun h=> .inr ⟨h.2,h.1⟩) fun h=> .inl ⟨h.2,h.1⟩,w2,w3⟩⟩
   |1,_=>exact⟨_,_,(p.1,r.2.1,p.2.2),(r.1,p.2.1,r.2.2),rfl,rfl,rfl,rfl,rfl,⟨w1,w2.elim (fun h=> .inr ⟨h.2,h.1⟩) fun h=> .inl ⟨h.2,h.1⟩,w3⟩⟩
   |2,_=>exact⟨_,_,(p.1,p.2.1,r.2.2),(r.1,r.2.1,p.2.2),rfl,rfl,rfl,rfl,rfl,⟨w1,w2,w3.elim (fun h=> .inr ⟨h.2,h.1⟩) fun h=> .inl ⟨h.2,h.1⟩⟩⟩
  refine fI (v:=u) (bw (bw (v:=.ref x) (aa rfl) aq (aH.of m) rfl) (aa rfl) (aH.of J) hu) ?_
  refine eO (σ':=[some (.ref a),some (.ref b),some (.int t),some (.ref e),some (.int (i:Nat)),some u]) (by kernel_rfl) ?_
  refine b9 (v:=v) (bw (bw (v:=.ref y) (aa rfl) aq (aH.of m) rfl) (aa rfl) (aH.of N) hv) ?_
  refine(bw (v:=.ref x) (aa rfl) aq (aH.of m) rfl:Ev (fZ (lD K) (dE 3) (tC (.int 0))) _ _ _) _ ((aa rfl:Ev (dE 4) _ _ _) _ ⟨x,_,_,i,rfl,rfl,J,hj,?_⟩)
  rw[a5]
  have s4:ah H (upd H3 x (.lst ((t3 p').map V.int))):=bf R Y
  have A:upd H3 x (.lst ((t3 p').map V.int)) e=some (.lst [.ref x,.ref y]):=by rw[ak W];exact m
  have B:upd H3 x (.lst ((t3 p').map V.int)) y=some (.lst ((t3 r).map V.int)):=by rw[ak M];exact N
  have I:upd H3 x (.lst ((t3 p').map V.int)) x=some (.lst ((t3 p').map V.int)):=ae
  revert s4 A B I
  generalize upd H3 x _=H4
  intro s4 A B I
  try dsimp only
  refine(aa rfl:Ev (dE 5) _ _ _) _ ((bw (v:=.ref y) (aa rfl) aq (aH.of A) rfl:Ev (fZ (lD K) (dE 3) (tC (.int 1))) _ _ _) _ ((aa rfl:Ev (dE 4) _ _ _) _ ⟨y,_,_,i,rfl,rfl,B,hj,?_⟩))
  rw[bb]
  exact⟨_,_,p',r',rfl,bf s4 Z,by rw[ak S];exact A,by rw[ak M.symm];exact I,ae,a4⟩
 ·rintro σ H2 ⟨x4,x5,p,r,rfl,s2,o,D,G,sw⟩
  refine st ?_
  have sm:=sw.cor hf hs
  have sp:=sm.1 p (by simp)
  have sr:=sm.1 r (by simp)
  have dp:∀{u:Addr} {g:P3},A3 H u g->Dp K H2 (.ref u) (.tuple ((t3 g).map PyData.int)):=fun h=> .tup (cn.of (s2 _ _ h)) (qQ _)
  refine fw (o8 (aE (FG (aa rfl) (aa rfl) (dp ha) (dp hb) (Jn (qH _) (by decide)))) fun _=>(aE (gS (bJ (bJ (aa rfl) aq (mL (by lia) (by lia))) aq (by first|(show(0:Int)<_;lia)|(show(0:Int)<_;decide))) aq))) (fun e=>?_) fun _=>?_
  ·rw[Ki,wX,decide_eq_true_iff] at e
   have ab:=jz e.1
   subst ab
   refine v8 (aN (aX (af (aa rfl) ao) ⟨a,f,rfl,by have:=hf;unfold eo at this;lia,.inl (s2 _ _ ha),fun H3 s3=>⟨(by show 1<=sizeLine;decide),fun l nl=>?_⟩⟩))
   refine q l [f] _ ((s2.trans s3).trans ((ah.refl H3).upd nl)) (g_ (s2.trans s3) nl) ae ⟨fun c hc=>by rw[Jv.mp hc];exact hf,.inl rfl,rfl,fun z h _=>⟨h,h⟩⟩
  ·refine v8 (aN (aX (af (bw (v:=.ref x) (aa rfl) aq (aH.of o) rfl) ao) ⟨x,p,rfl,by lia,.inr D,fun H3 s3=>aN (aX (af (bw (v:=.ref y) (aa rfl) aq (aH.of (s3 _ _ o)) rfl) ao) ⟨y,r,rfl,by lia,.inr (s3 _ _ G),fun H4 s4=>⟨(by show 2<=sizeLine;decide),fun l nl=>?_⟩⟩)⟩))
   have U:=s2.trans (s3.trans s4)
   exact q l [p,r] _ (U.trans ((ah.refl H4).upd nl)) (g_ U nl) ae sm
theorem wB (bv:az P w K mg base "_law_cell_at" 1 ["script", "k"] (sR K))(a7:az P w K mg base "_law_spot_at" 1 ["sizes", "number"] kN)(bm:az P w K mg base "_law_box" 1 ["one", "two"] y7)(bo:az P w K mg base "_law_corners" 2 ["one", "two", "turn"] yZ):ff P w K mg base 3 "_law_boxes" uq ["cells", "sizes"] (rM K):=by
 refine rd ["cells", "sizes", "rocks", "tolls", "rows", "many", "k", "one", "by", "way", "two", "spot", "toll"] fun nd _ _ _ _ _ H vs Q E hr h=>?_
 obtain⟨cl,sa,cs,z,rfl,O,a3,B,sz,q⟩:=h
 refine⟨_,(ai (bj 2 nd gW) (ai (bj 3 nd gW) (ai (bj 4 nd (aW dv)) (ai (bj 5 nd (au gw (au gw (aG aF (aj 1) ag) (aG aF (aj 1) ag)) (aG aF (aj 1) ag))) (aR (dB (xo (by rfl) T.range_ (aA ag (ay (a9 aV T.len_ (aB (aj 0))) ag))) (bh 6 nd) (ai (bj 7 nd (aO a7 hr (ay (aj 1) (au bF (aG aC (aj 0) (aj 6)) (aj 5))))) (ai (bj 8 nd (aO bv hr (ay (aj 0) (au aZ (aj 6) ag)))) (aR (bj 9 nd (aO bv hr (ay (aj 0) (au aZ (aj 6) ag)))) (ji (bN dq (au bF (aj 9) ag) ag) (ai (bj 10 nd (aW (ay (a9 (dz rfl) T.min_ (ay (au eJ (aG aF (aj 1) ag) ag) (au aZ (aG aF (aj 7) ag) (au bF (au bG (aj 8) ag) ag)))) (a9 (dz rfl) T.min_ (ay (au eJ (aG aF (aj 1) ag) ag) (au aZ (aG aF (aj 7) ag) (au bF (aj 8) ag))))))) (ai (bj 10 nd (cE (aA (aG aC (aj 10) ag) (ay (aG aC (aj 10) ag) (a9 (dz rfl) T.min_ (ay (au eJ (aG aF (aj 1) ag) ag) (au aZ (aG aF (aj 7) ag) (au bF (au bG (aj 8) ag) ag)))))))) (aR (aM (cY JP J4 J5 bP (aj 4) (aB (au fA (aW (aB aL)) (aO bo hr (aA (aj 7) (ay (aj 10) (au bG (aj 9) ag)))))))) (dB (aK (aO bm hr (ay (aj 7) (aj 10)))) (bh 11 nd) (aD (jV (bT.one hr) (aj 2) (aj 11) dH (by rfl))))))) (ai (bj 10 nd (aO a7 hr (ay (aj 1) (au bF (aj 8) (aj 5))))) (ai (bj 12 nd (au bF (au gw (au bG (aj 9) ag) ag) (au aZ (au n_ ag ag) ag))) (ai (cj (bN dq (au bF (au bG (aj 9) ag) ag) ag) (bj 12 nd ag)) (aR (aM (cY JP J4 J5 bP (aj 4) (aB (au fA (aW (ay aL (dR dC T.str_ (aB (aj 12))))) (aO bo hr (aA (aj 7) (ay (aj 10) (au bG (aj 9) ag)))))))) (dB (aK (aO bm hr (ay (aj 7) (aj 10)))) (bh 11 nd) (aD (jV (bT.one hr) (aj 3) (aj 11) (aj 12) (by rfl))))))))))))) (aw (cE (aA (aj 2) (ay (aj 3) (aj 4)))))))))),?_⟩
 dsimp only[bE,Cx.nox]
 have ac:sizeLine=2^24:=rfl
 obtain⟨z1,z2,z3⟩:=id sz
 refine bK fun rd cc=>?_
 refine bK fun td b4=>?_
 refine oy (vs:=[]) ao (by show 0<=sizeLine;decide) fun rl bA=>?_
 have Y:H rl=none:=(nw (nw bA).2).2
 have a0:H td=none:=(nw b4).2
 have X:td≠rd:=(nw b4).1
 have S:rl≠td:=(nw bA).1
 have U:rl≠rd:=(nw (nw bA).2).1
 have i0:DK H z rd td rl [] [] (upd (upd (upd H rd (.dT [])) td (.dT [])) rl (.lst [])):=⟨(((ah.refl H).upd cc).upd b4).upd bA,by rw[ak U.symm,ak X.symm];exact ae,by rw[ak S.symm];exact ae,ae,.nil,⟨(fun _ h=>nomatch h),JA _⟩⟩
 revert i0
 generalize upd (upd (upd H rd _) td _) rl _=H1
 intro i0
 try dsimp only
 refine eO (σ':=[some (.ref cl),some (.ref sa),some (.ref rd),some (.ref td),some (.ref rl),none,none,none,none,none,none,none,none]) (by kernel_rfl) ?_
 have m1:1<=z.1*z.2.1*z.2.2:=Nat.mul_pos (Nat.mul_pos (by lia) (by lia)) (by lia)
 have m2:z.1*z.2.1*z.2.2<=105:=Lm (Lm z1.2 z2.2) z3.2
 refine fI (v:=.int ((z.1*z.2.1*z.2.2:Nat):Int)) (bg (bJ (bJ (cy rfl (i0.sm _ _ B) rfl) (cy rfl (i0.sm _ _ B) rfl) (Cq (by lia) (by lia))) (cy rfl (i0.sm _ _ B) rfl) (Cq (by lia) (by lia))) (by push_cast;rfl)) ?_
 generalize hM:z.1*z.2.1*z.2.2=M at m1 m2
 refine eO (σ':=bS cl sa rd td rl (M:Nat) none none none none none none none) (by kernel_rfl) ?_
 refine BS (i:=0) (j:=(cs.length:Int)) (k:=3) (af aq (af (cZ (af (aa rfl) ao) fun _ q'=>⟨_,_,rfl,.inl ⟨_,gb O i0.sm,by rw[Jd]⟩,q'⟩) (af aq ao))) (by lia) ?_
 refine sV (Ia H z cl sa rd td rl (M:Nat)) ⟨none,none,none,none,none,none,none,[],[],i0,rfl⟩ ?_ ?_
 ·rintro i σ H2 hi ⟨x6,x7,x8,x9,F,A,C,us,W,x2,hW⟩
  have h3:3*i<cs.length:=by
   unfold mr at hi
   split at hi<;>lia
  refine gn ?_
  refine eO (σ':=bS cl sa rd td rl (M:Nat) (some (.int ((3*i:Nat):Int))) x7 x8 x9 F A C) (by rw[show(0:Int)+(i:Nat)*3=((3*i:Nat):Int) by lia];rfl) ?_
  obtain⟨c,hc,a2⟩:=zp h3
  have a4:us.length=W.length:=Paired.length x2.rw
  refine bK (aX (af (aa rfl) (af (bJ (bw (v:=.int c) (aa rfl) (aa rfl) (gb O x2.sm) a2) (aa rfl) (by show(0:Int)<_;lia)) ao)) ⟨sa,z,_,rfl,x2.sm _ _ B,sz,K3 _ (by lia),by rw[hM];exact Lg _ (by lia),fun o f H3 s3 ho hf _=>?_⟩)
  have n:=x2.same s3
  refine bK (aX (af (aa rfl) (af (br (aa rfl) aq) ao)) ⟨cl,cs,_,rfl,gb O n.sm,by lia,fun u=>?_⟩)
  refine bK (aX (af (aa rfl) (af (br (aa rfl) aq) ao)) ⟨cl,cs,_,rfl,gb O n.sm,by lia,fun w=>?_⟩)
  try dsimp only
  refine eO (σ':=bS cl sa rd td rl (M:Nat) (some (.int ((3*i:Nat):Int))) (some (.ref o)) (some (.int u)) (some (.int w)) F A C) (by kernel_rfl) ?_
  have sf:=kE sz hf
  have Z:W.length<21:=by lia
  have am:∀{g:Rw->Option (V×P3×P3)},(∀r b,g r=some b->b.2.1∈jM r/\b.2.2∈jM r)->(mk (W.filterMap g)).length<=512*21:=fun hg=>Jn (BC (ya x2.ok.ok sz hg)) (Nat.mul_le_mul_left _ (Jn (List.length_filterMap_le _ _) (by lia)))
  have done:∀(a6:St) (H':Hp) (F C:Option V) (r:Rw) (v:Addr),(a6=bS cl sa rd td rl (M:Nat) (some (.int ((3*i:Nat):Int))) (some (.ref o)) (some (.int u)) (some (.int w)) F A C\/∃y,a6=(bS cl sa rd td rl (M:Nat) (some (.int ((3*i:Nat):Int))) (some (.ref o)) (some (.int u)) (some (.int w)) F A C).set 11 (some y))->DK H z rd td rl (us++[.ref v]) (W++[r]) H'->Ia H z cl sa rd td rl (M:Nat) (i+1) a6 H':=fun a6 H' a b r v bt hx=>by
   rcases bt with rfl|⟨y,rfl⟩
   ·exact⟨_,_,_,_,_,_,_,_,_,hx,by rw[Js,hW];rfl⟩
   ·exact⟨_,_,_,_,_,_,_,_,_,hx,by rw[Js,hW];rfl⟩
  refine i9 (aE (gS (bJ (aa rfl) aq (by first|(show(0:Int)<_;lia)|(show(0:Int)<_;decide))) aq)) (fun _=>?_) fun _=>?_
  ·obtain⟨s,es,G⟩:∃s:P3,s=(min (z.1 - 1) (f.1+(u/4%2).toNat),min (z.2.1 - 1) (f.2.1+(u%2).toNat),min (z.2.2 - 1) (f.2.2+(u/2%2).toNat))/\In z s:=⟨_,rfl,by show min _ _<_;lia,by show min _ _<_;lia,by show min _ _<_;lia⟩
   refine c8 fun R9 h9=>fh [.int ((s.1:Nat):Int),.int ((s.2.1:Nat):Int)] (af (bg (zd (cy rfl (n.sm _ _ B) rfl) (cy rfl ho rfl) (bJ (bJ (aa rfl) aq (mL (by lia) (by lia))) aq (by first|(show(0:Int)<_;lia)|(show(0:Int)<_;decide))) (by lia) (by lia)) (by rw[es])) (af (bg (zd (cy rfl (n.sm _ _ B) rfl) (cy rfl ho rfl) (bJ (aa rfl) aq (by first|(show(0:Int)<_;lia)|(show(0:Int)<_;decide))) (by lia) (by lia)) (by rw[es])) ao)) (by show 2<=1000;decide) fun tl H4 s4 dV ch=>h9 _ _ ?_
   clear h9 R9
   refine eO (σ':=bS cl sa rd td rl (M:Nat) (some (.int ((3*i:Nat):Int))) (some (.ref o)) (some (.int u)) (some (.int w)) (some (.ref tl)) A C) (by kernel_rfl) ?_
   have I:=n.same s4
   refine c8 fun R9 h9=>ox ((t3 s).map V.int) (af (bw (aa rfl) aq (aH.of ch) rfl) (af (bw (aa rfl) aq (aH.of ch) rfl) (af (bg (zd (cy rfl (I.sm _ _ B) rfl) (cy rfl (s4 _ _ ho) rfl) (bJ (bJ (aa rfl) aq (mL (by lia) (by lia))) aq (by first|(show(0:Int)<_;lia)|(show(0:Int)<_;decide))) (by lia) (by lia)) (by rw[es])) ao))) (by show 3<=1000;decide) fun t H5 s5 nt ht=>h9 _ _ ?_
   clear h9 R9
   refine eO (σ':=bS cl sa rd td rl (M:Nat) (some (.int ((3*i:Nat):Int))) (some (.ref o)) (some (.int u)) (some (.int w)) (some (.ref t)) A C) (by kernel_rfl) ?_
   have ab:=I.same s5
   have ss:=kE sz G
   refine gr (fD (aa rfl) (.inl ⟨rfl,_,aH.of ab.hl⟩) (aN (dM (gH (vs:=[.str (kS 3)]) (af aq ao) (by show 1<=sizeLine;decide) fun p np=>aX (af (aa rfl) (af (aa rfl) (af (bJ (aa rfl) aq (mL (by lia) (by lia))) ao))) ⟨o,t,f,s,_,rfl,((ah.refl H5).upd np) _ _ (s5 _ _ (s4 _ _ ho)),((ah.refl H5).upd np) _ _ ht,sf,ss,fun l a5 H6 s6 nl hl cor=>⟨p,l,_,_,rfl,rfl,s6 _ _ ae,hl,by have:=cor.2.1;rw[Jd,Jd,ac];show 1+_<=_;lia,fun v nv=>?_⟩⟩))))
   have D:ah H5 H6:=((ah.refl H5).upd np).trans s6
   have N:=ab.same D
   have hv:upd H6 v (.lst ([.str (kS 3)]++(a5.map eN).map sv)) v=some (.lst ((iM (.rock a5)).map sv)):=by rw[ae];show _=some (HO.lst (sv (cp (kS 3))::_));rw[m4];rfl
   have s7:ah H6 (upd H6 v (.lst ([.str (kS 3)]++(a5.map eN).map sv))):=(ah.refl H6).upd nv
   have J:v≠rl:=(dD N.hl nv).symm
   revert hv s7
   generalize upd H6 v _=H7
   intro hv s7
   have m:=N.same s7
   refine⟨rl,us,_,rfl,rfl,m.hl,by lia,?_⟩
   try dsimp only
   have o7:=s7 _ _ (D _ _ (s5 _ _ (s4 _ _ ho)))
   have t7:=s7 _ _ (D _ _ ht)
   have x:∀{b o},b≠rl->H7 b=some o->upd H7 rl (.lst (us++[.ref v])) b=some o:=fun h e=>by rw[ak h];exact e
   refine ki (af (aa rfl) (af (aa rfl) ao)) ⟨o,t,f,s,rfl,x (iD o7 m.hl fun z=>nomatch z) o7,x (iD t7 m.hl fun z=>nomatch z) t7,sf,ss,fun la H8 s8 ct ⟨as,bd,b5⟩=>⟨la,rfl,⟨_,aH.of bd⟩,?_⟩⟩
   have a1:=s8 _ _ (x U.symm m.hr)
   refine oQ bd b5 a1 (by have:=am Cd;have:=pI sf ss;lia) (fun _=>rfl) (fun _=>rfl) (fun _ _=>aq) fun a6 H9 bt s9 b1=>done a6 H9 _ _ _ v bt (m.add (d:=rd) (r:=.rock a5) Y cc m.hr (fun b o n1 n2 e=>s9 _ _ n2 (s8 _ _ (x n1 e))) (s9 _ _ U (s8 _ _ ae)) (s9 _ _ (iD hv m.hr fun z=>nomatch z) (s8 _ _ (x J hv))) J ?_ ?_ ⟨⟨cor.1,cor.2.1⟩,.inl rfl,fun c hc=>?_⟩ Z)
   ·rw[KL,show [Rw.rock a5].filterMap de=[(.bl true,hd a5,ls a5)] from rfl,jT]
    show _=some (HO.dT ((bx (hd a5) (ls a5)).foldl (kK (.bl true)) _))
    rw[cor.2.2.1];exact b1
   ·rw[KL,show [Rw.rock a5].filterMap dX=[] from rfl,JK]
    exact s9 _ _ X (s8 _ _ (x S.symm m.ht))
   ·have:=cor.2.2.2 z hf G
    simp only[jM,Jo,JM,or_false] at hc
    rcases hc with rfl|rfl
    ·exact this.1
    ·exact this.2
  ·refine bK (aX (af (aa rfl) (af (bJ (aa rfl) (aa rfl) (by show(0:Int)<_;lia)) ao)) ⟨sa,z,_,rfl,n.sm _ _ B,sz,K3 _ (by lia),by rw[hM];exact Lg _ (by lia),fun t s H4 s4 ht G _=>?_⟩)
   have I:=n.same s4
   have ad:(10:Int)^(12:Int).toNat=1000000000000:=by decide
   obtain⟨p0,an⟩:=Lr (show 0<=w/2*7919%((10:Int)^(12:Int).toNat+1) by rw[ad];lia)
   have ap:p0<=1000000000000:=by rw[ad] at an;lia
   refine fI (v:=.int (p0:Nat)) (bg (bJ (bJ (bJ (aa rfl) aq (mL (by decide) (by decide))) aq (Cq (by decide) (by decide))) (br (bJ aq aq (Ii (by decide) (by decide) (by decide))) aq) (by show(0:Int)<_;decide)) (by show V.int _=_;rw[<-an])) ?_
   try dsimp only
   refine eO (σ':=bS cl sa rd td rl (M:Nat) (some (.int ((3*i:Nat):Int))) (some (.ref o)) (some (.int u)) (some (.int w)) (some (.ref t)) A (some (.int (p0:Nat)))) (by kernel_rfl) ?_
   refine yB (fun σ H'=>∃p:Nat,p<=1000000000000/\σ=bS cl sa rd td rl (M:Nat) (some (.int ((3*i:Nat):Int))) (some (.ref o)) (some (.int u)) (some (.int w)) (some (.ref t)) A (some (.int (p:Nat)))/\H'=H4) (fun R hR=>?_) ?_
   ·exact i9 (aE (gS (bJ (bJ (aa rfl) aq (mL (by lia) (by lia))) aq (by first|(show(0:Int)<_;lia)|(show(0:Int)<_;decide))) aq)) (fun _=>aq _ (hR _ _ ⟨0,by decide,by kernel_rfl,rfl⟩)) fun _=>hR _ _ ⟨p0,ap,rfl,rfl⟩
   rintro σ H5 ⟨p,hp,rfl,rfl⟩
   have ss:=kE sz G
   refine gr (fD (aa rfl) (.inl ⟨rfl,_,aH.of I.hl⟩) (aN (dM (gH (vs:=[.str (kS 4),sv (dg p)]) (af aq (af (bg (cZ (v:=.str (Str.ofString (toString ((p:Nat):Int)))) (af (aa rfl) ao) fun Q' q'=>⟨_,rfl,HK (by lia),q'⟩) (by rw[pB];rfl)) ao)) (by show 2<=sizeLine;decide) fun p1 np=>aX (af (aa rfl) (af (aa rfl) (af (bJ (aa rfl) aq (mL (by lia) (by lia))) ao))) ⟨o,t,f,s,_,rfl,((ah.refl H5).upd np) _ _ (s4 _ _ ho),((ah.refl H5).upd np) _ _ ht,sf,ss,fun l a5 H6 s6 nl hl cor=>⟨p1,l,_,_,rfl,rfl,s6 _ _ ae,hl,by have:=cor.2.1;rw[Jd,Jd,ac];show 2+_<=_;lia,fun v nv=>?_⟩⟩))))
   have D:ah H5 H6:=((ah.refl H5).upd np).trans s6
   have N:=I.same D
   have hv:upd H6 v (.lst ([.str (kS 4),sv (dg p)]++(a5.map eN).map sv)) v=some (.lst ((iM (.toll p a5)).map sv)):=by rw[ae];show _=some (HO.lst (sv (cp (kS 4))::_));rw[m4];rfl
   have s7:ah H6 (upd H6 v (.lst ([.str (kS 4),sv (dg p)]++(a5.map eN).map sv))):=(ah.refl H6).upd nv
   have J:v≠rl:=(dD N.hl nv).symm
   revert hv s7
   generalize upd H6 v _=H7
   intro hv s7
   have m:=N.same s7
   refine⟨rl,us,_,rfl,rfl,m.hl,by lia,?_⟩
   try dsimp only
   have o7:=s7 _ _ (D _ _ (s4 _ _ ho))
   have t7:=s7 _ _ (D _ _ ht)
   have x:∀{b o},b≠rl->H7 b=some o->upd H7 rl (.lst (us++[.ref v])) b=some o:=fun h e=>by rw[ak h];exact e
   refine ki (af (aa rfl) (af (aa rfl) ao)) ⟨o,t,f,s,rfl,x (iD o7 m.hl fun z=>nomatch z) o7,x (iD t7 m.hl fun z=>nomatch z) t7,sf,ss,fun la H8 s8 ct ⟨as,bd,b5⟩=>⟨la,rfl,⟨_,aH.of bd⟩,?_⟩⟩
   have av:=s8 _ _ (x S.symm m.ht)
   refine oQ bd b5 av (by have:=am BV;have:=pI sf ss;lia) (fun _=>rfl) (fun _=>rfl) (fun _ _=>aa rfl) fun a6 H9 bt s9 b1=>done a6 H9 _ _ _ v bt (m.add (d:=td) (r:=.toll p a5) Y a0 m.ht (fun b o n1 n2 e=>s9 _ _ n2 (s8 _ _ (x n1 e))) (s9 _ _ S (s8 _ _ ae)) (s9 _ _ (iD hv m.ht fun z=>nomatch z) (s8 _ _ (x J hv))) J ?_ ?_ ⟨⟨hp,cor.1,cor.2.1⟩,.inr rfl,fun c hc=>?_⟩ Z)
   ·rw[KL,show [Rw.toll p a5].filterMap de=[] from rfl,JK]
    exact s9 _ _ X.symm (s8 _ _ (x U.symm m.hr))
   ·rw[KL,show [Rw.toll p a5].filterMap dX=[(.int (p:Nat),hd a5,ls a5)] from rfl,jT]
    show _=some (HO.dT ((bx (hd a5) (ls a5)).foldl (kK (.int (p:Nat))) _))
    rw[cor.2.2.1];exact b1
   ·have:=cor.2.2.2 z hf G
    simp only[jM,Jo,JM,or_false] at hc
    rcases hc with rfl|rfl
    ·exact this.1
    ·exact this.2
 ·rintro σ H2 ⟨x6,x7,x8,x9,F,A,C,us,W,x2,hW⟩
  refine ui (vs:=[.ref rd,.ref td,.ref rl]) (af (aa rfl) (af (aa rfl) (af (aa rfl) ao))) (by show 3<=sizeLine;decide) fun t nt=>?_
  have n:=x2.same ((ah.refl H2).upd nt (o:=.tup [.ref rd,.ref td,.ref rl]))
  exact q t rd td rl us W _ n.sm ae n.hr n.ht n.hl (Paired.mapP n.rw fun _ _ h=>h.1) n.ok
theorem wy:ff P w K mg base 1 "inside" vj ["sizes", "spot"] kD:=by
 refine rd ["sizes", "spot", "layers", "rows", "columns", "layer", "row", "column"] fun c _ _ _ _ _ H vs Q E hr h=>?_
 obtain⟨a,b,z,p,rfl,ha,f,⟨h1,h2,e⟩,q⟩:=h
 refine⟨_,(ai (gA (aj 0) (dS rfl (ax (bh 2 c) (ax (bh 3 c) (ax (bh 4 c) cf))))) (aR (gA (aj 1) (dS rfl (ax (bh 5 c) (ax (bh 6 c) (ax (bh 7 c) cf))))) (aw (jE (lO di vo ag (aj 5) (aj 2)) (jE (lO di vo ag (aj 6) (aj 3)) (kx (lO di vo ag (aj 7) (aj 4)))))))),?_⟩
 dsimp only[bE,Cx.nox]
 refine nW (aa rfl) (cn.of ha) ?_
 refine nW (aa rfl) (cn.of f) ?_
 have d:∀{x y:Nat},x<y->(decide ((0:Int)<=(x:Nat))&&decide (((x:Nat):Int)<(y:Nat)))=true:=fun h=>by rw[decide_eq_true (by omega),decide_eq_true (by omega)];rfl
 exact eB (bg (iF (cD aq (aa rfl) (aa rfl)) fun _=>iF (cD aq (aa rfl) (aa rfl)) fun _=>cD aq (aa rfl) (aa rfl)) (by rw[d h1,d h2,d e];rfl)) q
theorem sq (g:K.In base)(c:az P w K mg base "inside" 1 ["sizes", "spot"] kD):ff P w K mg base 2 "check_inside" p6 ["sizes", "spot"] hZ:=by
 refine rd ["sizes", "spot"] fun f _ _ _ _ _ H vs Q E hr h=>?_
 obtain⟨a,b,z,p,rfl,ha,e,h1,q⟩:=h
 refine⟨_,(aD (cj (bY (cJ (aO c hr (ay (aj 0) (aj 1))))) bX)),?_⟩
 exact lG (b:=false) (eQ (jm (Fb (af (aa rfl) (af (aa rfl) ao)) fun Q' d=>⟨a,b,z,p,rfl,ha,e,h1,d⟩))) rfl q
theorem xD (b:K.In base):ff P w K mg base 1 "check_price" uV ["price", "least"] kR:=by
 refine rd ["price", "least"] fun a _ _ _ _ _ H vs Q E hr h=>?_
 obtain⟨x,m,rfl,h1,h2,q⟩:=h
 refine⟨_,(aD (cj (bY (dI di di (aj 1) (aj 0) (cV (by rfl) (by exact T.g_MOST_PRICE)))) bX)),?_⟩
 exact lG (eQ (cC (aE (cD (aa rfl) (aa rfl) aq)) (by rw[decide_eq_true h1,decide_eq_true h2];rfl))) rfl q
theorem xa (I:K.In base):ff P w K mg base 1 "check_sizes" uM ["sizes", "prices", "vias"] lz:=by
 refine rd ["sizes", "prices", "vias", "size", "most"] fun u _ _ _ _ _ H vs Q E hr h=>?_
 obtain⟨z,v,A,g,us,G,rfl,l,⟨N,M,J⟩,F,a,B,c,q⟩:=h
 refine⟨_,(ai (dB (Cc (by rfl) T.zip_ (ay (aj 0) (cV (by rfl) (by exact T.g_MOST_SIZES)))) (dS rfl (ax (bh 3 u) (ax (bh 4 u) cf))) (aD (cj (bY (dI di di ag (aj 3) (aj 4))) bX))) (aR (cj (bN fQ (a9 aV T.len_ (aB (aj 1))) (aG aF (aj 0) ag)) bX) (cj (bN fQ (a9 aV T.len_ (aB (aj 2))) (au eJ (aG aF (aj 0) ag) ag)) bX))),?_⟩
 dsimp only[bE,Cx.nox]
 refine⟨_,rfl,z,cMS,rfl,⟨_,cn.of l⟩,⟨_,T.t_MOST_SIZES _⟩,?_⟩
 refine Bf (K:=K) (xs:=(t3 g).map V.int) (ys:=[.int 4,.int 16,.int 16]) rfl (fun i σ H'=>∃o r:Option V,σ=[some (.ref z),some (.ref v),some (.ref A),o,r]/\ah H H') ⟨none,none,rfl,ah.refl H⟩ (fun i σ H' _ ⟨_,_,_,s⟩=>⟨cn.of (s _ _ l),T.t_MOST_SIZES _⟩) ?_ ?_
 ·rintro i x y p σ H2 d f np ⟨o,r,rfl,e⟩
  obtain⟨n,m,rfl,rfl,D,C⟩:∃n m:Int,x=.int n/\y=.int m/\1<=n/\n<=m:=by
   match i,d,f with
   |0,d,f=>exact⟨_,4,(Option.some.inj d).symm,(Option.some.inj f).symm,by lia,by lia⟩
   |1,d,f=>exact⟨_,16,(Option.some.inj d).symm,(Option.some.inj f).symm,by lia,by lia⟩
   |2,d,f=>exact⟨_,16,(Option.some.inj d).symm,(Option.some.inj f).symm,by lia,by lia⟩
  refine⟨p,_,rfl,cn.of ae,rfl,_,_,rfl,_,_,rfl,rfl,?_⟩
  exact lG (eQ (cC (aE (cD aq (aa rfl) (aa rfl))) (by rw[decide_eq_true D,decide_eq_true C];rfl))) rfl ⟨_,_,rfl,e.upd np⟩
 ·rintro σ H2 ⟨o,r,rfl,e⟩
  refine st ?_
  refine c6 (b:=false) (cC (aE (gR (eV (K:=K) (aa rfl) (e _ _ F)) (cy rfl (e _ _ l) rfl))) (by rw[a,decide_eq_true rfl];rfl)) rfl ?_
  exact lG (b:=false) (cC (aE (gR (eV (K:=K) (aa rfl) (e _ _ B)) (br (g:=fun i j=> .int (i - j)) (cy rfl (e _ _ l) rfl) aq))) (by rw[decide_eq_true (by lia)];rfl)) rfl (q _ e)
theorem sO (p:az P w K mg base "check_price" 1 ["price", "least"] kR):ff P w K mg base 2 "check_prices" pX ["prices", "vias", "tolls"] jC:=by
 refine rd ["prices", "vias", "tolls", "ahead", "across", "price", "toll"] fun D _ _ _ _ _ H vs Q E hr h=>?_
 obtain⟨z,A,d,ps,ns,f,rfl,⟨as,J,N⟩,m,I,l,hd,n,q⟩:=h
 refine⟨_,(ai (dB (aK (aj 0)) (dS rfl (ax (bh 3 D) (ax (bh 4 D) cf))) (aR (aM (aO p hr (ay (aj 3) ag))) (aM (aO p hr (ay (aj 4) ag))))) (aR (dB (aK (aj 1)) (bh 5 D) (aD (aM (aO p hr (ay (aj 5) ag))))) (zb (dB (xu (aj 2)) (bh 6 D) (aD (aM (aO p hr (ay (aj 6) ag)))))))),?_⟩
 dsimp only[bE,Cx.nox]
 refine⟨_,rfl,z,rfl,⟨_,aH.of J⟩,?_⟩
 refine cG (K:=K) (xs:=as.map V.ref) (fun i σ H'=>∃r y:Option V,σ=[some (.ref z),some (.ref A),some (.ref d),r,y,none,none]/\ah H H') ⟨none,none,rfl,ah.refl H⟩ (fun i σ H' _ ⟨_,_,_,s⟩=>aH.of (s _ _ J)) ?_ ?_
 ·rintro i x σ H2 F ⟨r,y,rfl,u⟩
  obtain⟨a,ha,rfl⟩:=gD F
  obtain⟨c,M,e⟩:=aU N ha
  obtain⟨⟨W,X⟩,T,U⟩:=m c (Jy M)
  refine⟨a,_,rfl,cn.of (u _ _ e),rfl,_,_,rfl,_,_,rfl,rfl,?_⟩
  refine⟨_,rfl,_,1,rfl,by omega,by omega,?_⟩
  exact⟨_,rfl,_,1,rfl,by omega,by omega,_,_,rfl,u⟩
 ·rintro σ H2 ⟨r,y,rfl,u⟩
  refine st ?_
  refine⟨_,rfl,A,rfl,⟨_,aH.of (u _ _ I)⟩,?_⟩
  refine cG (K:=K) (xs:=ni ns) (fun i σ H'=>∃B:Option V,σ=[some (.ref z),some (.ref A),some (.ref d),r,y,B,none]/\ah H H') ⟨none,rfl,u⟩ (fun i σ H' _ ⟨_,_,s⟩=>aH.of (s _ _ I)) ?_ ?_
  ·rintro i x σ H3 F ⟨B,rfl,C⟩
   obtain⟨j,O,rfl⟩:=gD F
   obtain⟨Y,S⟩:=l j (Jy O)
   refine gn ?_
   exact⟨_,rfl,_,1,rfl,by omega,by omega,_,rfl,C⟩
  ·rintro σ H3 ⟨B,rfl,C⟩
   have g:=C _ _ hd
   refine⟨d,.dT f,g,trivial,fun o=>?_⟩
   refine⟨_,rfl,d,o,.dT f,rfl,ae,trivial,?_⟩
   refine zv (fun i σ H'=>∃G:Option V,σ=[some (.ref z),some (.ref A),some (.ref d),r,y,B,G]/\H'=upd H3 d (.frz o (.dT f))) ⟨none,rfl,rfl⟩ (fun i σ H' _ ⟨_,_,e⟩=>e▸ae) ?_ ?_
   ·rintro i x v σ H' ⟨k,b,R,rfl,_⟩ hi ⟨G,rfl,rfl⟩
    obtain⟨j,e,S⟩:=n _ (Jy R)
    have e:v=.int (j:Nat):=e
    subst e
    refine gn ?_
    exact⟨_,rfl,_,0,rfl,by omega,by omega,_,rfl,rfl⟩
   ·rintro σ H' ⟨G,rfl,rfl⟩
    exact⟨ae,q _ (C.trans (mU g))⟩
theorem xA (a:az P w K mg base "check_inside" 2 ["sizes", "spot"] hZ):pL P w K mg base 3 "is_rock" "Floor.is_rock" vI ["self", "spot"] (qx cFloor):=by
 refine rd ["self", "spot"] fun e _ _ _ _ _ H vs Q E hr h=>?_
 obtain⟨p,b,g,s,rfl,⟨dx,fs,d,i,va,f,ta,x⟩,c,hi,q⟩:=h
 refine⟨_,(aR (aM (aO a hr (ay (bC (aj 0) rfl) (aj 1)))) (aw (FB (Ai (bT.one hr) (aj 1) (bC (aj 0) rfl))))),?_⟩
 dsimp only[bE,Cx.nox]
 refine gr (aX (af (f_ (aa rfl) x.ha T.cl_Floor T.na_Floor_sizes x.f1) (af (aa rfl) ao)) ⟨d,b,g.z,s,rfl,x.z,c,hi,?_⟩)
 exact eB (bg (Ce (aa rfl) (f_ (aa rfl) x.ha T.cl_Floor T.na_Floor_rocks x.f4) (vh x.rd c)) (by rw[C2])) q
theorem zA:pL P w K mg base 1 "layer_prices" "Floor.layer_prices" y4 ["self"] (uS cFloor):=by
 refine rd ["self"] fun b _ _ _ _ _ H vs Q E hr h=>?_
 obtain⟨p,g,rfl,⟨dx,fs,c,a,va,d,ta,x⟩,q⟩:=h
 refine⟨_,(aD (aw (dR cM T.list_ (aB (bC (aj 0) rfl))))),?_⟩
 dsimp only[bE,Cx.nox]
 obtain⟨as,h1,h2⟩:=x.pr
 exact cU (fU (af (f_ (aa rfl) x.ha T.cl_Floor T.na_Floor_prices x.f2) ao) ⟨a,_,rfl,.inl (aH.of h1),fun l nl=>q l _ ((ah.refl H).upd nl) nl ⟨as,ae,Paired.mapP h2 fun _ _ e=>((ah.refl H).upd nl) _ _ e⟩⟩)
theorem FH:pL P w K mg base 1 "via_prices" "Floor.via_prices" GT ["self"] (Er cFloor):=by
 refine rd ["self"] fun a _ _ _ _ _ H vs Q E hr h=>?_
 obtain⟨p,g,rfl,⟨dx,fs,b,d,va,c,ta,x⟩,q⟩:=h
 refine⟨_,(aD (aw (dR cM T.list_ (aB (bC (aj 0) rfl))))),?_⟩
 dsimp only[bE,Cx.nox]
 exact cU (fU (af (f_ (aa rfl) x.ha T.cl_Floor T.na_Floor_vias x.f3) ao) ⟨va,_,rfl,.inl (aH.of x.vi),fun l nl=>q l _ ((ah.refl H).upd nl) nl ae⟩)
theorem zf:pL P w K mg base 1 "rocks_told" "Floor.rocks_told" Aq ["self"] (uX cFloor):=by
 refine rd ["self"] fun i _ _ _ _ _ H vs Q E hr h=>?_
 obtain⟨p,g,rfl,⟨dx,fs,j,m,va,d,ta,x⟩,e,q⟩:=h
 refine⟨_,(aD (aw (a9 (eY rfl) T.sorted_ (aB (bC (aj 0) rfl))))),?_⟩
 dsimp only[bE,Cx.nox]
 refine cU (fU (af (f_ (aa rfl) x.ha T.cl_Floor T.na_Floor_rocks x.f4) ao) ⟨d,_,g.rs.map t3,rfl,x.rd,?_,uG _,by rw[Jd];exact e,fun l bs ds nl c f a=>?_⟩)
 ·unfold ng;rw[Jt,Jt];rfl
 obtain⟨ss,rfl,b⟩:=nX f a
 have s:=(ah.refl H).upd (o:=.lst (bs.map V.ref)) nl
 exact q l ss _ s nl ⟨bs,ae,bB.same c s⟩ b
theorem BJ:pL P w K mg base 1 "tolls_told" "Floor.tolls_told" yO ["self"] (vX cFloor):=by
 refine rd ["self"] fun M _ _ _ _ _ H vs Q E hr h=>?_
 obtain⟨p,g,rfl,⟨dx,fs,N,J,va,I,ta,x⟩,F,q⟩:=h
 refine⟨_,(aD (aw (fW ["spot"] ["self"] [0] (aK (a9 (eY rfl) T.sorted_ (aB (bC (aj 0) rfl)))) (c_ 0) (jy (bN fQ (j_ (by exact(bT.one hr)) (jU (K:=K) rfl (aj 1) rfl) (aj 0) (fun _ _=>rfl)) ag)) (cE (ay (aj 0) (j_ (by exact(bT.one hr)) (jU (K:=K) rfl (aj 1) rfl) (aj 0) (fun _ _=>rfl))))))),?_⟩
 dsimp only[bE,Cx.nox]
 have n:(g.ts.map (·.1)).length<=1000:=by rw[Jd];exact F
 refine⟨_,rfl,p,cFloor,dx,fs,_,rfl,x.ha,T.cl_Floor,T.na_Floor_tolls,x.f5,ta,_,(g.ts.map (·.1)).map t3,rfl,x.td,?_,uG _,by rw[Jd];exact n,fun l bs ds nl z G v=>?_⟩
 ·unfold j4;rw[Jt,Jt,Jt];rfl
 obtain⟨ss,rfl,j⟩:=nX G v
 have i:=(ah.refl H).upd (o:=.lst (bs.map V.ref)) nl
 have f:upd H l (.lst (bs.map V.ref)) l=some (.lst (bs.map V.ref)):=ae
 have a:=bB.same z i
 revert i f a
 generalize upd H l (.lst (bs.map V.ref))=H1
 intro i f a
 have O:bs.length<=1000:=by rw[Paired.length a,Jd,j.1.length_eq];exact n
 refine⟨l,rfl,⟨_,aH.of f⟩,fun D u=>?_⟩
 refine rF (K:=K) (fun c=>decide (xm g.ts c≠0)) (fun c=>xm g.ts c) [some (.ref p)] u (fun H' s=>aH.of (s _ _ f)) a (by omega) (fun b c H' A e s=>?_) fun H' B s y C=>?_
 ·obtain⟨r,hr,rfl⟩:=Jk.mp A
  have m:=i.trans s
  have d:=vh (m _ _ x.td) (s _ _ e)
  rw[En (j.1.mem_iff.mp hr)] at d
  have get:Ev (uH (wD K (dE 1) "tolls") (dE 0)) [some (.ref b),some (.ref p)] H' (.int (xm g.ts (t3 r))):=vS (f_ (aa rfl) (m _ _ x.ha) T.cl_Floor T.na_Floor_tolls x.f5) (aa rfl) d
  refine⟨cC (aE (gR get aq)) ?_,fun _=>get⟩
  by_cases h0:xm g.ts (t3 r)=0<;>simp[h0]
 ·exact q D ss H' (i.trans s) (dJ i u) ⟨B,y,C⟩ j
theorem A1(F:xI K "__init__" "Floor.__init__" gE f fd)(ca:az P w K mg base "check_sizes" 1 ["sizes", "prices", "vias"] lz)(b7:az P w K mg base "check_prices" 2 ["prices", "vias", "tolls"] jC)(b5:az P w K mg base "check_inside" 2 ["sizes", "spot"] hZ):eW P w K mg base mq 3 f fd ["self", "sizes", "prices", "vias", "rocks", "tolls"] (pG cFloor):=by
 have sc:eZ ["self", "sizes", "prices", "vias", "rocks", "tolls", "told_rocks", "told_tolls", "spot"] ["self", "sizes", "prices", "vias", "rocks", "tolls"] (aP gE):=⟨rfl,rfl,rfl,by decide+kernel,rfl,by decide+kernel,by decide+kernel⟩
 have nd:=sc.nd
 refine F.ok sc (fun vs H Q E h=>by first|(cases h;subst_vars;rfl)|repeat (first|(obtain⟨rfl,_⟩:=h;rfl)|(obtain⟨_,h⟩:=h))) (fun ee A outer s H vs Q E hr h=>?_)
 obtain⟨p,dx,z,pr,vi,ro,td,g,rfl,hp,hg,b3,hz,B,M,U,I,q⟩:=h
 refine⟨_,(ai (bj 6 nd (fz (bN fB (aj 4) bR) (aW dv) (aj 4))) (ai (bj 7 nd (fz (bN fB (aj 5) bR) gW (aj 5))) (ai (aM (aO ca hr (aA (aj 1) (ay (aj 2) (aj 3))))) (ai (aM (aO b7 hr (aA (aj 2) (ay (aj 3) (aj 7))))) (ai (dB (aK (aj 6)) (bh 8 nd) (aD (aM (aO b5 hr (ay (aj 1) (aj 8)))))) (ai (zb (dB (C3 (aj 7)) (bh 8 nd) (aD (aM (aO b5 hr (ay (aj 1) (aj 8))))))) (ai (eM (aj 0) (aj 1) rfl) (ai (eM (aj 0) (fW ["ahead", "across"] [] [] (aK (aj 2)) (ie (K:=K) (n:=2) rfl rfl (ax (c_ 0) (ax (c_ 1) cf)) rfl rfl) cg (cE (ay (aj 0) (aj 1)))) rfl) (ai (eM (aj 0) (dR cM T.list_ (aB (aj 3))) rfl) (aR (eM (aj 0) (dR (lH rfl hr) T.dict_ (aB (fW ["spot"] [] [] (aK (aj 6)) (c_ 0) cg (cE (ay (aj 0) dH))))) rfl) (eM (aj 0) (dR wq T.dict_ (aB (aj 7))) rfl))))))))))),?_⟩
 dsimp only[bE,Cx.nox]
 have b0:sizeLine=2^24:=rfl
 refine uz (fun v H1=>v=.ref ro/\H=H1) (fun Q' hQ=>Hm (cC (aE (ou (aa rfl) aq)) (by rfl)) ⟨_,rfl,hQ _ _ ⟨rfl,rfl⟩⟩) ?_
 rintro _ _ ⟨rfl,rfl⟩
 refine uz (fun v H1=>v=.ref td/\H=H1) (fun Q' hQ=>Hm (cC (aE (ou (aa rfl) aq)) (by rfl)) ⟨_,rfl,hQ _ _ ⟨rfl,rfl⟩⟩) ?_
 rintro _ _ ⟨rfl,rfl⟩
 obtain⟨ps,h3,h4⟩:=B
 have B:lA H pr g.ps:=⟨ps,h3,h4⟩
 refine gr (aX (af (aa rfl) (af (aa rfl) (af (aa rfl) ao))) ⟨z,pr,vi,g.z,_,_,rfl,hz,hg.z,h3,by rw[Jd,Paired.length h4];exact hg.pl,M,by rw[Jd];exact hg.vl,fun H3 s3=>?_⟩)
 refine gr (aX (af (aa rfl) (af (aa rfl) (af (aa rfl) ao))) ⟨pr,vi,td,g.ps,g.vs,_,rfl,B.up (fun _ e=>s3 _ _ e) (fun _ _ e=>s3 _ _ e),hg.pp,s3 _ _ M,hg.vv,s3 _ _ I,?_,fun H4 dc=>?_⟩)
 ·intro x hx
  obtain⟨y,hy,rfl⟩:=Jk.mp hx
  exact⟨_,rfl,(hg.ti y hy).2⟩
 have s4:=s3.trans dc
 have C:=s4 _ _ I
 obtain⟨as,J,bv⟩:=U.same s4
 refine⟨_,rfl,ro,rfl,⟨_,aH.of J⟩,?_⟩
 refine cG (K:=K) (xs:=as.map V.ref) (fun i σ H'=>∃x8:Option V,σ=[some (.ref p),some (.ref z),some (.ref pr),some (.ref vi),some (.ref ro),some (.ref td),some (.ref ro),some (.ref td),x8]/\H4=H') ⟨none,rfl,rfl⟩ (fun i σ H' _ ⟨_,_,e⟩=>e▸aH.of J) ?_ ?_
 ·rintro i x σ H' hx ⟨x8,rfl,rfl⟩
  obtain⟨a,ha,rfl⟩:=dQ hx
  obtain⟨c,hc,j⟩:=gz bv ha
  obtain⟨n,hn,rfl⟩:=Jk.mp (Jy hc)
  refine gn ?_
  exact⟨_,rfl,_,rfl,z,a,g.z,n,rfl,s4 _ _ hz,j,hg.ri n hn,_,rfl,rfl⟩
 rintro σ H' ⟨x8,rfl,rfl⟩
 refine st ?_
 refine⟨td,.dT (j4 g.ts),C,trivial,fun o=>?_⟩
 refine⟨_,rfl,td,o,.dT (j4 g.ts),rfl,ae,trivial,?_⟩
 have be:z≠td:=jL (s4 _ _ hz) C (fun z=>nomatch z)
 refine AG (fun i σ H'=>∃x8:Option V,σ=[some (.ref p),some (.ref z),some (.ref pr),some (.ref vi),some (.ref ro),some (.ref td),some (.ref ro),some (.ref td),x8]/\H'=upd H4 td (.frz o (.dT (j4 g.ts)))) ⟨x8,rfl,rfl⟩ (fun i σ H' _ ⟨_,_,e⟩=>e▸ae) ?_ ?_
 ·rintro i x v σ H' ⟨k,b,hk,rfl,hb⟩ hi ⟨x8,rfl,rfl⟩
  obtain⟨y,hy,e⟩:=Jk.mp (Jy hk)
  have e:(iK (t3 y.1),V.int (y.2:Nat))=(k,v):=e
  cases e
  have hb:upd H4 td (.frz o (.dT (j4 g.ts))) b=some (.tup ((t3 y.1).map V.int)):=by
   have:=hb
   unfold iK at this
   rw[gB] at this
   exact this
  refine gn ?_
  exact⟨_,rfl,_,rfl,z,b,g.z,y.1,rfl,(by show upd H4 td _ z=_;rw[ak be];exact s4 _ _ hz),hb,(hg.ti y hy).1,_,rfl,rfl⟩
 rintro σ H5 ⟨x8,rfl,rfl⟩
 refine⟨ae,?_⟩
 generalize e5:upd (upd H4 td (.frz o (.dT (j4 g.ts)))) td (.dT (j4 g.ts))=H5
 have s5:ah H H5:=s4.trans (e5▸mU C)
 have d:=s5 _ _ hp
 have bo:=s5 _ _ I
 have ap:A3 H5 z g.z:=s5 _ _ hz
 have bd:=s5 _ _ M
 have bl:=U.same s5
 have ad:lA H5 pr g.ps:=B.up (fun _ e=>s5 _ _ e) (fun _ _ e=>s5 _ _ e)
 refine st ?_
 refine⟨_,rfl,_,rfl,p,cFloor,dx,[],rfl,d,T.cl_Floor,T.na_Floor_sizes,(by decide),?_⟩
 rw[IL]
 generalize e6:upd H5 p (.ins cFloor dx [("sizes",.ref z)])=H6
 have b6:bQ H5 H6 p:=e6▸(bQ.of (ah.refl H5)).up
 have av:H6 p=some (.ins cFloor dx [("sizes",.ref z)]):=e6▸ae
 obtain⟨bt,k6,t6⟩:=ad.bp b6 d
 refine st ?_
 refine⟨_,rfl,pr,rfl,⟨_,aH.of k6⟩,fun D nD=>?_⟩
 refine cm (K:=K) (xs:=bt.map V.ref) (fun i τ H'=>∃(x0 x1:Option V) (us:List Addr),τ=[x0,x1]/\ah H6 H'/\H' D=some (.lst (us.map V.ref))/\Paired (P2 H') us (g.ps.take i)/\us.length=i) ⟨none,none,[],rfl,(ah.refl H6).upd nD,ae,.nil,rfl⟩ (fun i τ H' _ ⟨_,_,_,_,s,_⟩=>aH.of (s _ _ k6)) ?_ ?_
 ·rintro i x τ H' hx ⟨x0,x1,us,rfl,s,hD,a5,bc⟩
  obtain⟨a,ha,rfl⟩:=dQ hx
  obtain⟨c,hc,j⟩:=aU t6 ha
  have hi:i<g.ps.length:=(JE.mp hc).1
  have b1:=hg.pl
  have:=hg.z.1
  refine⟨a,_,rfl,cn.of (s _ _ j),rfl,?_⟩
  refine⟨_,_,rfl,gn ?_⟩
  refine⟨_,_,rfl,gn ?_⟩
  refine⟨rfl,?_⟩
  refine fK ?_
  refine⟨_,rfl,_,rfl,(by show 2<=sizeLine;decide),fun t nt=>?_⟩
  have r:t≠D:=JH (ar hD nt)
  refine⟨us.map V.ref,(by rw[ak (JH r)];exact hD),by rw[Jd];lia,_,_,us++[t],rfl,bf (s.upd nt) nD,by rw[ae,Jl];rfl,?_,by simp[bc]⟩
  rw[aT hc]
  refine bL (R:=P2 _) ?_ (Paired.mapP a5 fun a c (e:H' a=some (.tup _))=>gh hD nt _ _ e)
  unfold P2;rw[ak r,ae]
 rintro τ H7 ⟨x0,x1,us,rfl,s7,a4,ab,_⟩
 rw[Jd,Paired.length t6,JI] at ab
 have an:lA H7 D g.ps:=⟨us,a4,ab⟩
 have Z:=s7 _ _ av
 refine⟨_,rfl,p,cFloor,dx,_,rfl,Z,T.cl_Floor,T.na_Floor_prices,(by simp),?_⟩
 rw[IU]
 generalize e8:upd H7 p (.ins cFloor dx [("sizes",.ref z),("prices",.ref D)])=H8
 have b8:bQ H7 H8 p:=e8▸(bQ.of (ah.refl H7)).up
 have a1:H8 p=some (.ins cFloor dx [("sizes",.ref z),("prices",.ref D)]):=e8▸ae
 have S:bQ H5 H8 p:=e8▸(b6.st s7).up
 refine st ?_
 refine⟨_,rfl,vi,_,rfl,.inl (aH.of (fY S d (fun z=>nomatch z) bd)),fun l nl=>?_⟩
 generalize e9:upd H8 l (.lst (ni g.vs))=H9
 have s9:ah H8 H9:=e9▸(ah.refl H8).upd nl
 have a2:H9 l=some (.lst (ni g.vs)):=e9▸ae
 have O:=s9 _ _ a1
 refine⟨_,rfl,p,cFloor,dx,_,rfl,O,T.cl_Floor,T.na_Floor_vias,(by simp),?_⟩
 rw[IM]
 generalize eA:upd H9 p (.ins cFloor dx [("sizes",.ref z),("prices",.ref D),("vias",.ref l)])=HA
 have bA:bQ H9 HA p:=eA▸(bQ.of (ah.refl H9)).up
 have bi:HA p=some (.ins cFloor dx [("sizes",.ref z),("prices",.ref D),("vias",.ref l)]):=eA▸ae
 have X:bQ H5 HA p:=eA▸(S.st s9).up
 have bm:bQ H7 HA p:=eA▸(b8.st s9).up
 obtain⟨G,kA,tA⟩:=bl.bp X d
 have am:G.length=g.rs.length:=by rw[Paired.length tA,Jd]
 refine st ?_
 refine⟨_,rfl,ro,rfl,⟨_,aH.of kA⟩,fun D2 c1=>?_⟩
 refine cm (K:=K) (xs:=G.map V.ref) (fun i τ H'=>∃(x0:Option V) (es:List Addr),τ=[x0]/\ah HA H'/\H' D2=some (.lst (es.map V.ref))/\B_ H' es (ng (g.rs.take i))/\es.length=i) ⟨none,[],rfl,(ah.refl HA).upd c1,ae,.nil,rfl⟩ (fun i τ H' _ ⟨_,_,_,s,_⟩=>aH.of (s _ _ kA)) ?_ ?_
 ·rintro i x τ H' hx ⟨x0,es,rfl,s,hD,u,ac⟩
  obtain⟨a,ha,rfl⟩:=dQ hx
  obtain⟨c,hc,j⟩:=gz tA ha
  rw[JG] at hc
  obtain⟨n,hn,rfl⟩:=K_.mp hc
  have hi:i<G.length:=(JE.mp ha).1
  refine gn (fK ?_)
  refine⟨_,rfl,(by show 2<=sizeLine;decide),fun t nt=>?_⟩
  have r:t≠D2:=JH (ar hD nt)
  refine⟨es.map V.ref,(by rw[ak (JH r)];exact hD),by rw[Jd];lia,_,es++[t],rfl,bf (s.upd nt) c1,by rw[ae,Jl];rfl,?_,by simp[ac]⟩
  rw[aT hn]
  unfold ng
  rw[Jl]
  exact C_ (B_.mono u (gh hD nt)) (.cons ⟨a,by rw[ak r,ae],gh hD nt _ _ (A2 (s _ _ j))⟩ .nil)
 rintro τ HB ⟨b4,es,rfl,sB,bW,u,ac⟩
 rw[Jd,am,JI] at u
 refine⟨D2,es,ng g.rs,rfl,bW,u,fun rd dl=>?_⟩
 rw[Fk _ (by unfold ng;rw[Jt];exact K2.mpr (hg.rn.imp fun n e=>n (jz (oW e))))]
 generalize eC:upd HB rd (.dT (ng g.rs))=HC
 have sC:ah HA HC:=sB.trans (eC▸(ah.refl HB).upd dl)
 have a6:HC rd=some (.dT (ng g.rs)):=eC▸ae
 have Y:=sC _ _ bi
 refine⟨_,rfl,p,cFloor,dx,_,rfl,Y,T.cl_Floor,T.na_Floor_rocks,(by simp),?_⟩
 rw[IX]
 generalize eD:upd HC p (.ins cFloor dx [("sizes",.ref z),("prices",.ref D),("vias",.ref l),("rocks",.ref rd)])=HD
 have bD:bQ HC HD p:=eD▸(bQ.of (ah.refl HC)).up
 have a3:HD p=some (.ins cFloor dx [("sizes",.ref z),("prices",.ref D),("vias",.ref l),("rocks",.ref rd)]):=eD▸ae
 have N:bQ H5 HD p:=eD▸(X.st sC).up
 have a0:bQ H7 HD p:=eD▸(bm.st sC).up
 have a7:bQ H9 HD p:=eD▸(bA.st sC).up
 refine⟨_,rfl,td,rfl,.inr ⟨_,.inl (fY N d (fun z=>nomatch z) bo),DF hg,fun t nt=>?_⟩⟩
 generalize eE:upd HD t (.dT (j4 g.ts))=HE
 have sE:ah HD HE:=eE▸(ah.refl HD).upd nt
 have bb:HE t=some (.dT (j4 g.ts)):=eE▸ae
 have W:=sE _ _ a3
 refine⟨_,rfl,p,cFloor,dx,_,rfl,W,T.cl_Floor,T.na_Floor_tolls,(by simp),?_⟩
 rw[IW]
 refine q _ ((bQ.of s5).tr (N.st sE).up) ⟨dx,_,z,D,l,rd,t,⟨ae,by kernel_rfl,by kernel_rfl,by kernel_rfl,by kernel_rfl,by kernel_rfl,?_,?_,?_,?_,?_,?_⟩⟩
 ·intro m hm
  simp only[HX,Jo,JM,or_false] at hm
  rcases hm with rfl|rfl|rfl|rfl|rfl<;>kernel_rfl
 ·exact fY (N.st sE).up d (fun z=>nomatch z) ap
 ·exact an.bp (a0.st sE).up Z
 ·exact fY (a7.st sE).up O (fun z=>nomatch z) a2
 ·exact fY (bD.st sE).up Y (fun z=>nomatch z) a6
 ·exact fY ((bQ.of (ah.refl HE)).up) W (fun z=>nomatch z) bb
theorem Du:ff P w K mg base 1 "is_name" D_ ["name"] yQ:=by
 refine rd ["name"] fun y _ _ _ _ _ H vs Q E hr h=>?_
 obtain⟨x,rfl,p,q⟩:=h
 refine⟨_,(aR (cj (eU (bY (dI di di ag (a9 nQ T.len_ (aB (aj 0))) (cV (by rfl) (by exact T.g_MOST_SIGNS)))) (dr (i4 iP (aG yJ (aj 0) ag) (cV (by rfl) (by exact T.g_LETTERS)) (by with_unfolding_all rfl)))).pt (aw dH)) (aw (a9 (BI rfl) T.all_ (aB (fW ["sign"] [] [] (yK (aj 0)) (c_ 0) cg (Hb (kh mJ (aj 0) (cV (by rfl) (by exact T.g_LETTERS)) (by with_unfolding_all rfl)) (kx (kh mJ (aj 0) (cV (by rfl) (by exact T.g_FIGURES)) (by with_unfolding_all rfl))))))))),?_⟩
 dsimp only[bE,Cx.nox]
 have l:sizeLine=2^24:=rfl
 have g:=p.2
 by_cases hn:1<=x.length/\x.length<=12
 ·obtain⟨c,r,f⟩:=Dg hn.1
  refine fw (b:=!decide (c∈i6)) (FQ (eQ (cC (aE (cD aq (v5 (aa rfl) (by lia)) aq)) ?_)) (aE (nH (uk (c:=c) (aa rfl) aq (by lia) (by rw[f];exact bI (j:=0) rfl)) aq))) (fun e=>?_) (fun e=>?_)
  ·rw[decide_eq_true (by lia),decide_eq_true (by lia)];rfl
  ·have m:=q H (ah.refl H)
   rw[pY f hn.2,show decide (c∈i6)=false by simpa using e] at m
   exact eB aq m
  have u:decide (c∈i6)=true:=by simpa using e
  refine⟨_,rfl,x,rfl,p.1,fun D s=>?_⟩
  refine zh (fun i o H'=>∃n:Option V,o=[n]/\H'=upd H D (.lst ((((cp x).take i).map fS).map V.bl))) ⟨none,rfl,rfl⟩ ?_ ?_
  ·rintro i d o H2 hd ⟨n,rfl,rfl⟩
   refine gn (fK ?_)
   refine(GI (zM (c:=d) (aa rfl) aq) fun _=>zM (c:=d) (aa rfl) aq) _ ⟨_,ae,by rw[Jd,Jd,JB,c9];lia,_,rfl,?_⟩
   rw[gC,aT hd,Jl,Jl];rfl
  ·rintro o H2 ⟨n,rfl,rfl⟩
   refine⟨D,((cp x).take x.length).map fS,rfl,aH.of ae,?_⟩
   have m:=q (upd H D (.lst ((((cp x).take x.length).map fS).map V.bl))) ((ah.refl H).upd s)
   rw[pY f hn.2,u] at m
   have v:(((cp x).take x.length).map fS).all id=(cp x).all fS:=by rw[<-c9,JI,List.all_map];rfl
   rw[v]
   exact m
 ·have m:=q H (ah.refl H)
  rw[xJ hn] at m
  refine fw (b:=true) (cC (fF (a:=true) (b:=true) (cC (gU (aE (cD aq (v5 (aa rfl) (by lia)) aq))) ?_) fun z=>nomatch z) rfl) (fun _=>eB aq m) (fun z=>nomatch z)
  by_cases h1:1<=x.length
  ·rw[decide_eq_true (by lia),decide_eq_false (by lia)];rfl
  ·rw[decide_eq_false (by lia)];rfl
theorem xk (j:K.In base):ff P w K mg base 1 "check_unlike" vR ["spots"] lB:=by
 refine rd ["spots"] fun g _ _ _ _ _ H vs Q E hr h=>?_
 obtain⟨l,ps,rfl,⟨as,c,d⟩,i,g,b,q⟩:=h
 refine⟨_,(aD (cj (bN fQ (a9 uf T.len_ (aB (dR (xR rfl hr) T.set_ (aB (aj 0))))) (a9 aV T.len_ (aB (aj 0)))) bX)),?_⟩
 dsimp only[bE,Cx.nox]
 have len:as.length=(ps.map t3).length:=Paired.length d
 have a:(ps.map t3).length<=18:=by rw[Jd];exact b
 refine uO ⟨_,rfl,l,as,ps.map t3,rfl,aH.of c,d,a,zr i g,fun p np=>⟨p,(ps.map t3).length,rfl,ae,by lia,_,rfl,_,_,rfl,.inl ⟨_,aH.of (by rw[ak (ar c np)];exact c),rfl⟩,rfl,_,rfl,?_⟩⟩
 have e:(!decide (V.int ((ps.map t3).length:Nat)=V.int ((as.map V.ref).length:Nat)))=false:=by
  rw[Jd (f:=V.ref),len];simp
 rw[e]
 exact gM (q _ ((ah.refl H).upd np))
theorem A8(F:DU K "__init__" "Thing.__init__" jG f fd)(u:K.In base)(cT:az P w K mg base "is_name" 1 ["name"] yQ):eW P w K mg base mq 2 f fd ["self", "name", "half", "room"] (jX cNet cBundle):=by
 have i:eZ ["self", "name", "half", "room"] ["self", "name", "half", "room"] (aP jG):=⟨rfl,rfl,rfl,by decide+kernel,rfl,by decide+kernel,by decide+kernel⟩
 have r:=i.nd
 refine F.ok i (fun vs H Q E h=>by first|(cases h;subst_vars;rfl)|repeat (first|(obtain⟨rfl,_⟩:=h;rfl)|(obtain⟨_,h⟩:=h))) (fun j A outer s H vs Q E hr h=>?_)
 obtain⟨p,C,dx,x,rfl,n,m,l,a,q⟩:=h
 refine⟨_,(ai (cj (bY (cJ (aO cT hr (aB (aj 1))))) bX) (ai (cj (bY (dI di di ag (aj 2) (cV (by rfl) (by exact T.g_MOST_HALF)))) bX) (ai (cj (bY (dI di di ag (aj 3) (cV (by rfl) (by exact T.g_MOST_ROOM)))) bX) (ai (eM (aj 0) (aj 1) rfl) (aR (eM (aj 0) (aj 2) rfl) (eM (aj 0) (aj 3) rfl)))))),?_⟩
 dsimp only[bE,Cx.nox]
 have c:jn K C/\a_ K C "name" /\a_ K C "half" /\a_ K C "room" :=by rcases m with rfl|rfl<;>first|exact⟨T.cl_Net,T.na_Net_name,T.na_Net_half,T.na_Net_room⟩|exact⟨T.cl_Bundle,T.na_Bundle_name,T.na_Bundle_half,T.na_Bundle_room⟩
 refine pj ⟨_,rfl,x,rfl,l,fun H1 g=>?_⟩
 rw[a]
 refine⟨_,rfl,?_⟩
 refine gM ?_
 refine c6 (eQ (cC (aE (cD aq (aa rfl) aq)) (by rfl))) rfl ?_
 refine c6 (eQ (cC (aE (cD aq (aa rfl) aq)) (by rfl))) rfl ?_
 refine⟨_,rfl,_,rfl,p,C,dx,[],rfl,g _ _ n,c.1,c.2.1,(by decide),?_⟩
 refine⟨_,rfl,_,rfl,p,C,dx,_,rfl,ae,c.1,c.2.2.1,Ll (bq _ _ _) (by decide),?_⟩
 refine⟨_,rfl,_,rfl,p,C,dx,_,rfl,ae,c.1,c.2.2.2,Ll (Jn (bq _ _ _) (KC (bq _ _ _))) (by decide),?_⟩
 refine q _ _ (fun b o d e=>?_) ae ⟨Jn (Jn (bq _ _ _) (KC (Jn (bq _ _ _) (KC (bq _ _ _))))) (by decide),?_,?_,?_,?_⟩ (Jn (bq _ _ _) (KC (Jn (bq _ _ _) (KC (bq _ _ _)))))
 ·rw[ak d,ak d,ak d];exact g _ _ e
 ·rw[aJ,if_neg (by decide+kernel),aJ,if_neg (by decide+kernel),aJ,if_pos rfl]
 ·rw[aJ,if_neg (by decide+kernel),aJ,if_pos rfl]
 ·rw[aJ,if_pos rfl]
 ·rw[aJ,if_neg (by decide+kernel),aJ,if_neg (by decide+kernel),aJ,if_neg (by decide+kernel)];rfl
theorem zt(F:xI K "__init__" "Net.__init__" gy f fd)(M:K.In base)(e:az P w K mg base "check_unlike" 1 ["spots"] lB)(g:hU P w K mg base cThing "__init__" 2 ["self", "name", "half", "room"] (jX cNet cBundle)):eW P w K mg base mq 3 f fd ["self", "name", "pins", "half", "room"] (pC cNet):=by
 have n:eZ ["self", "name", "pins", "half", "room"] ["self", "name", "pins", "half", "room"] (aP gy):=⟨rfl,rfl,rfl,by decide+kernel,rfl,by decide+kernel,by decide+kernel⟩
 have r:=n.nd
 refine F.ok n (fun vs H Q E h=>by first|(cases h;subst_vars;rfl)|repeat (first|(obtain⟨rfl,_⟩:=h;rfl)|(obtain⟨_,h⟩:=h))) (fun B A outer s H vs Q E hr h=>?_)
 obtain⟨p,dx,l,x,ps,rfl,v,J,G,r,O,N,I,d,q⟩:=h
 refine⟨_,(ai (aM (vF (jj (by rfl) T.mg_Thing) g (hr.mono (by decide)) (aA (aj 0) (aA (aj 1) (ay (aj 3) (aj 4)))))) (ai (cj (bY (dI di di ag (a9 aV T.len_ (aB (aj 2))) (cV (by rfl) (by exact T.g_MOST_PINS)))) bX) (aR (aM (aO e hr (aB (aj 2)))) (eM (aj 0) (dR cu T.tuple_ (aB (aj 2))) rfl)))),?_⟩
 dsimp only[bE,Cx.nox]
 refine⟨_,rfl,_,rfl,_,rfl,_,rfl,p,cNet,dx,x,rfl,v,.inl rfl,I,d,fun H1 fs u i bs C=>?_⟩
 have D:=J.bp u v
 obtain⟨as,b,a⟩:=D
 have len:as.length=ps.length:=by rw[Paired.length a,Jd]
 refine st ?_
 refine c6 (eQ (cC (aE (cD aq (cZ (af (aa rfl) ao) fun Q' y=>⟨_,_,rfl,.inl ⟨_,aH.of b,rfl⟩,y⟩) aq)) ?_)) rfl ?_
 ·rw[Jd,decide_eq_true (by omega),decide_eq_true (by omega)];rfl
 refine⟨_,rfl,l,ps,rfl,⟨as,b,a⟩,G,r,by omega,fun H2 j=>?_⟩
 refine⟨_,rfl,l,_,rfl,.inl ⟨aH.of (j _ _ b),fun t o=>?_⟩⟩
 have tt:=sN (l:=l) o (bB.same a j)
 generalize z:upd H2 t (.tup (as.map V.ref))=H3 at tt
 have m:ah H1 H3:=j.trans (z▸(ah.refl H2).upd o)
 have c:=m _ _ i
 refine⟨_,rfl,p,cNet,dx,fs,rfl,c,T.cl_Net,T.na_Net_pins,by have:=bs.few;omega,?_⟩
 exact q _ (u.st m).up ⟨dx,_,t,ae,bs.put (by omega) (by decide+kernel) (by decide+kernel) (by decide+kernel) (by decide+kernel),by rw[aJ,if_pos rfl],AK tt (bQ.of (ah.refl H3)).up c⟩
theorem y_(F:xI K "__init__" "Bundle.__init__" gx f fd)(hB:K.In base)(G:az P w K mg base "check_unlike" 1 ["spots"] lB)(I:hU P w K mg base cThing "__init__" 2 ["self", "name", "half", "room"] (jX cNet cBundle)):eW P w K mg base mq 3 f fd ["self", "name", "starts", "goals", "room"] (o6 cBundle):=by
 have sc:eZ ["self", "name", "starts", "goals", "room"] ["self", "name", "starts", "goals", "room"] (aP gx):=⟨rfl,rfl,rfl,by decide+kernel,rfl,by decide+kernel,by decide+kernel⟩
 have nd:=sc.nd
 refine F.ok sc (fun vs H Q E h=>by first|(cases h;subst_vars;rfl)|repeat (first|(obtain⟨rfl,_⟩:=h;rfl)|(obtain⟨_,h⟩:=h))) (fun a6 A outer s H vs Q E hr h=>?_)
 obtain⟨p,dx,l,m,x,ps,R,rfl,X,hl,hm,h7,nd,l1,lg,l6,hA,y,q⟩:=h
 refine⟨_,(ai (aM (vF (jj (by rfl) T.mg_Thing) I (hr.mono (by decide)) (aA (aj 0) (aA (aj 1) (ay ag (aj 4)))))) (ai (cj (bY (dI di di ag (a9 aV T.len_ (aB (aj 2))) (cV (by rfl) (by exact T.g_MOST_STARTS)))) bX) (ai (cj (bY (dI di di (a9 aV T.len_ (aB (aj 2))) (a9 aV T.len_ (aB (aj 3))) (cV (by rfl) (by exact T.g_MOST_GOALS)))) bX) (ai (aM (aO G hr (aB (au fA (aj 2) (aj 3))))) (aR (eM (aj 0) (dR cu T.tuple_ (aB (aj 2))) rfl) (eM (aj 0) (dR cu T.tuple_ (aB (aj 3))) rfl)))))),?_⟩
 dsimp only[bE,Cx.nox]
 have D:sizeLine=2^24:=rfl
 refine⟨_,rfl,_,rfl,_,rfl,p,cBundle,dx,x,rfl,X,.inr rfl,hA,y,fun H1 fs W J O a0=>?_⟩
 have a1:=hl.bp W X
 have a2:=hm.bp W X
 obtain⟨as,a,b⟩:=a1
 obtain⟨bs,i,g⟩:=a2
 have len:as.length=ps.length:=by rw[Paired.length b,Jd]
 have B:bs.length=R.length:=by rw[Paired.length g,Jd]
 refine st ?_
 refine c6 (eQ (cC (aE (cD aq (cZ (af (aa rfl) ao) fun Q' N=>⟨_,_,rfl,.inl ⟨_,aH.of a,rfl⟩,N⟩) aq)) ?_)) rfl ?_
 ·rw[Jd,decide_eq_true (by lia),decide_eq_true (by lia)];rfl
 refine c6 (eQ (cC (aE (cD (cZ (af (aa rfl) ao) fun Q' N=>⟨_,_,rfl,.inl ⟨_,aH.of a,rfl⟩,N⟩) (cZ (af (aa rfl) ao) fun Q' N=>⟨_,_,rfl,.inl ⟨_,aH.of i,rfl⟩,N⟩) aq)) ?_)) rfl ?_
 ·rw[Jd,Jd,decide_eq_true (by lia),decide_eq_true (by lia)];rfl
 refine⟨_,rfl,_,rfl,l,m,_,_,rfl,rfl,a,i,by rw[Jd,Jd];lia,fun c nc=>?_⟩
 have Y:ah H1 (upd H1 c (.lst (as.map V.ref++bs.map V.ref))):=(ah.refl H1).upd nc
 refine⟨c,ps++R,rfl,⟨as++bs,by rw[ae,Jl],by rw[Jl];exact bB.same (f6 b g) Y⟩,h7,nd,by rw[Js];lia,fun H2 s3=>?_⟩
 have d:=Y.trans s3
 refine⟨_,rfl,l,_,rfl,.inl ⟨aH.of (d _ _ a),fun t nt=>?_⟩⟩
 have tt:=sN (l:=l) nt (bB.same b d)
 generalize e3:upd H2 t (.tup (as.map V.ref))=H3 at tt
 have n:ah H1 H3:=d.trans (e3▸(ah.refl H2).upd nt)
 have r:=n _ _ J
 refine⟨_,rfl,p,cBundle,dx,fs,rfl,r,T.cl_Bundle,T.na_Bundle_starts,by have:=O.few;lia,?_⟩
 have C:=bq "starts" (.ref t) fs
 generalize U:upd H3 p (.ins cBundle dx (eF "starts" (.ref t) fs))=M
 have b4:bQ H3 M p:=U▸(bQ.of (ah.refl H3)).up
 have j:bQ H1 M p:=U▸(bQ.of n).up
 have v:M p=some (.ins cBundle dx (eF "starts" (.ref t) fs)):=U▸ae
 refine⟨_,rfl,m,_,rfl,.inl ⟨aH.of (fY j J (fun z=>nomatch z) i),fun u nu=>?_⟩⟩
 have Z:=sN (l:=m) (ps:=R) nu (fm g fun _ _ e=>fY j J (fun z=>nomatch z) e)
 generalize e5:upd M u (.tup (bs.map V.ref))=H5 at Z
 have S:ah M H5:=e5▸(ah.refl M).upd nu
 have o:=S _ _ v
 refine⟨_,rfl,p,cBundle,dx,_,rfl,o,T.cl_Bundle,T.na_Bundle_goals,by lia,?_⟩
 exact q _ (W.tr (j.st S).up) ⟨dx,_,t,u,ae,(O.put (by lia) (by decide+kernel) (by decide+kernel) (by decide+kernel) (by decide+kernel)).put (by lia) (by decide+kernel) (by decide+kernel) (by decide+kernel) (by decide+kernel),by rw[aJ,if_neg (by decide+kernel),aJ,if_pos rfl],by rw[aJ,if_pos rfl],AK tt (b4.st S).up r,AK Z (bQ.of (ah.refl H5)).up o⟩
theorem yS:pL P w K mg base 1 "ends" "Net.ends" x_ ["self"] (j8 cNet):=by
 refine rd ["self"] fun e _ _ _ _ _ H vs Q E hr h=>?_
 obtain⟨p,x,ps,rfl,⟨dx,fs,t,d,_,b,as,a,c⟩,q⟩:=h
 refine⟨_,(aD (aw (dR cM T.list_ (aB (bC (aj 0) rfl))))),?_⟩
 dsimp only[bE,Cx.nox]
 exact cU ((dh (aa rfl) d T.cl_Net T.na_Net_pins b) _ ⟨t,_,rfl,.inr (cn.of a),fun l nl=>q _ l ((ah.refl H).upd nl) nl ⟨as,ae,bB.same c ((ah.refl H).upd nl)⟩⟩)
theorem y9:pL P w K mg base 1 "ends" "Bundle.ends" BB ["self"] (kg cBundle):=by
 refine rd ["self"] fun r _ _ _ _ _ H vs Q E hr h=>?_
 obtain⟨p,x,ps,i,rfl,⟨dx,fs,t,u,f,_,m,hg,⟨as,j,ha⟩,bs,n,e⟩,o,q⟩:=h
 refine⟨_,(aD (aw (dR cM T.list_ (aB (au vc (bC (aj 0) rfl) (bC (aj 0) rfl)))))),?_⟩
 dsimp only[bE,Cx.nox]
 have b:sizeLine=2^24:=rfl
 have len:as.length=ps.length:=by rw[Paired.length ha,Jd]
 have a:bs.length=i.length:=by rw[Paired.length e,Jd]
 refine cU (Am (dM ((dh (aa rfl) f T.cl_Bundle T.na_Bundle_starts m) _ ((dh (aa rfl) f T.cl_Bundle T.na_Bundle_goals hg) _ ⟨t,u,_,_,rfl,rfl,j,n,by rw[Jd,Jd];lia,fun g H1 c d=>⟨g,_,rfl,.inr (cn.of d),fun l nl=>?_⟩⟩))))
 exact q _ l (c.upd nl) (dJ c nl) ⟨as++bs,by rw[ae,Jl],by rw[Jl];exact bB.same (f6 ha e) (c.upd nl)⟩
theorem A5:ff P w K mg base 1 "apart" zj ["one", "two"] vf:=by
 refine rd ["one", "two"] fun j _ _ _ _ _ H vs Q E hr h=>?_
 obtain⟨a,b,p,c,rfl,ha,d,g,q⟩:=h
 refine⟨_,(aR (cj (bN fQ (aG aF (aj 0) ag) (aG aF (aj 1) ag)) (aw bR)) (aw (a9 (dA rfl) T.max_ (ay (a9 qz T.abs_ (aB (au eJ (aG aF (aj 0) ag) (aG aF (aj 1) ag)))) (a9 qz T.abs_ (aB (au eJ (aG aF (aj 0) ag) (aG aF (aj 1) ag)))))))),?_⟩
 dsimp only[bE,Cx.nox]
 refine fw (aE (gR (cy (i:=0) rfl ha rfl) (cy (i:=0) rfl d rfl))) (fun e=>?_) (fun e=>?_)
 ·exact q _ (.inl rfl)
 ·have l:(p.1:Int)=c.1:=by simpa using e
  have f:p.1=c.1:=by lia
  have m:p.2.1≠c.2.1\/p.2.2≠c.2.2:=by
   by_cases h1:p.2.1=c.2.1
   ·exact .inr fun h2=>g (Prod.ext f (Prod.ext h1 h2))
   ·exact .inl h1
  refine eB (cZ (af (cZ (af (br (cy (i:=1) rfl ha rfl) (cy (i:=1) rfl d rfl)) ao) fun Q' c=>⟨_,rfl,c⟩) (af (cZ (af (br (cy (i:=2) rfl ha rfl) (cy (i:=2) rfl d rfl)) ao) fun Q' c=>⟨_,rfl,c⟩) ao)) fun Q' c=>⟨_,_,rfl,c⟩) (q _ (.inr ⟨_,?_,rfl⟩))
  split<;>split<;>split<;>lia
theorem BG:ff P w K mg base 1 "reach_of" AE ["thing", "other"] (uC cNet cBundle):=by
 refine rd ["thing", "other"] fun n _ _ _ _ _ H vs Q E hr h=>?_
 obtain⟨p,m,rfl,⟨C,dx,fs,c,i,l1,l⟩,⟨C',b,a,d,j,f,g⟩,q⟩:=h
 refine⟨_,(aD (aw (au aZ (au aZ (bC (aj 0) rfl) (bC (aj 1) rfl)) (a9 (dA rfl) T.max_ (ay (bC (aj 0) rfl) (bC (aj 1) rfl)))))),?_⟩
 dsimp only[bE,Cx.nox]
 have k1:jn K C/\a_ K C "half" /\a_ K C "room" :=by rcases i with rfl|rfl<;>first|exact⟨T.cl_Net,T.na_Net_half,T.na_Net_room⟩|exact⟨T.cl_Bundle,T.na_Bundle_half,T.na_Bundle_room⟩
 have k2:jn K C'/\a_ K C' "half" /\a_ K C' "room" :=by rcases j with rfl|rfl<;>first|exact⟨T.cl_Net,T.na_Net_half,T.na_Net_room⟩|exact⟨T.cl_Bundle,T.na_Bundle_half,T.na_Bundle_room⟩
 exact eB (bg (br (br (dh (aa rfl) c k1.1 k1.2.1 l1) (dh (aa rfl) d k2.1 k2.2.1 f)) (cZ (af (dh (aa rfl) c k1.1 k1.2.2 l) (af (dh (aa rfl) d k2.1 k2.2.2 g) ao)) fun Q' e=>⟨_,_,rfl,e⟩)) (by rfl)) q
theorem yl (e:az P w K mg base "apart" 1 ["one", "two"] vf)(c:az P w K mg base "reach_of" 1 ["thing", "other"] (uC cNet cBundle)):ff P w K mg base 2 "clash" yh ["thing", "spot", "other", "place"] (u4 cNet cBundle):=by
 refine rd ["thing", "spot", "other", "place", "distance"] fun i _ _ _ _ _ H vs Q E hr h=>?_
 obtain⟨p,a,g,b,u,v,rfl,n,l,ha,m,o,q⟩:=h
 refine⟨_,(aR (bj 4 i (aO e hr (ay (aj 1) (aj 3)))) (aw (jE (w6 C4 (aj 4) bR) (kx (w6 di (aj 4) (aO c hr (ay (aj 0) (aj 2)))))))),?_⟩
 refine bK (aX (af (aa rfl) (af (aa rfl) ao)) ⟨a,b,u,v,rfl,ha,m,o,fun w f=>?_⟩)
 rcases f with rfl|⟨d,hd,rfl⟩
 ·exact eB (bg (iF (a:=false) (b:=false) (bg (vm (aa rfl) aq) (by rfl)) fun z=>absurd z Ju) rfl) q
 ·exact eB (bg (iF (a:=true) (bg (vm (aa rfl) aq) (by rfl)) fun _=>br (aa rfl) (pA (af (aa rfl) (af (aa rfl) ao)) fun Q' j=>⟨p,g,rfl,n,l,j⟩)) (by rw[decide_eq_false (by lia)];rfl)) q
theorem xn (v:az P w K mg base "clash" 2 ["thing", "spot", "other", "place"] (u4 cNet cBundle)):ff P w K mg base 3 "clash_at_all" uE ["thing", "spots", "other", "places"] (qI cNet cBundle):=by
 refine rd ["thing", "spots", "other", "places", "spot"] fun Z _ _ _ _ _ H vs Q E hr h=>?_
 obtain⟨p,l,B,m,us,S,rfl,t1,t2,⟨as,O,Y⟩,⟨bs,J,N⟩,lw,X,q⟩:=h
 refine⟨_,(aR (dB (aK (aj 1)) (bh 4 Z) (aD (cj (cJ (a9 (kG rfl) T.any_ (aB (fW ["place"] ["thing", "spot", "other"] [0,4,2] (aK (aj 3)) (c_ 0) cg (aO (by exact v) (by exact hr) (aA (aj 1) (aA (aj 2) (ay (aj 3) (aj 0))))))))) (aw dH)))) (aw dH)),?_⟩
 dsimp only[bE,Cx.nox]
 have r:sizeLine=2^24:=rfl
 have lb:bs.length=S.length:=by rw[Paired.length N,Jd]
 refine⟨_,rfl,l,rfl,⟨_,aH.of O⟩,?_⟩
 refine cG (K:=K) (xs:=as.map V.ref) (fun i σ H'=>∃G:Option V,σ=[some (.ref p),some (.ref l),some (.ref B),some (.ref m),G]/\ah H H') ⟨none,rfl,ah.refl H⟩ (fun i σ H' _ ⟨_,_,s⟩=>aH.of (s _ _ O)) ?_ ?_
 ·rintro i x σ H1 C ⟨G,rfl,y⟩
  obtain⟨a,ha,rfl⟩:=dQ C
  obtain⟨c,W,e⟩:=gz Y ha
  obtain⟨u,g,rfl⟩:=Jk.mp (Jy W)
  refine gn ?_
  refine uO ⟨_,rfl,m,rfl,⟨_,aH.of (y _ _ J)⟩,fun D I=>?_⟩
  refine cm (K:=K) (xs:=bs.map V.ref) (fun j A H'=>∃F:Option V,A=[F,some (.ref p),some (.ref a),some (.ref B)]/\H'=upd H1 D (.lst ((List.replicate j false).map V.bl))) ⟨none,rfl,rfl⟩ (fun j A H' _ ⟨_,_,e⟩=>aH.of (by rw[e,ak (ar (y _ _ J) I)];exact y _ _ J)) ?_ ?_
  ·rintro j x A H' f ⟨F,rfl,rfl⟩
   obtain⟨b,M,rfl⟩:=dQ f
   obtain⟨d,hd,e'⟩:=gz N M
   obtain⟨R,n,rfl⟩:=Jk.mp (Jy hd)
   have hj:=bO M
   refine gn (fK ?_)
   have z:=y.upd (o:=.lst ((List.replicate j false).map V.bl)) I
   refine⟨_,rfl,_,rfl,_,rfl,_,rfl,p,a,B,b,u,R,rfl,t1.same z,t2.same z,z _ _ e,z _ _ e',X u g R n,?_⟩
   refine⟨_,ae,by rw[Jd,Ks];omega,_,rfl,?_⟩
   rw[gC,List.replicate_succ',Jl];rfl
  ·rintro A H' ⟨F,rfl,rfl⟩
   refine⟨D,List.replicate (bs.map V.ref).length false,rfl,aH.of ae,_,rfl,?_⟩
   have U:(List.replicate (bs.map V.ref).length false).any id=false:=by rw[LR];intro x C;rw[List.eq_of_mem_replicate C];decide
   rw[U]
   exact gM ⟨_,rfl,y.upd I⟩
 ·rintro σ H1 ⟨G,rfl,y⟩
  exact st (eB aq (q _ y))
theorem wJ:ff P w K mg base 1 "square" uU ["sizes", "spot", "reach"] (qw K):=by
 refine rd ["sizes", "spot", "reach", "layer", "row", "column", "top", "bottom", "left", "right", "spots", "one"] fun e _ _ _ _ _ H vs Q E hr h=>?_
 obtain⟨a,b,z,p,rfl,ha,⟨⟨_,_⟩,⟨_,_⟩,_,_⟩,M,⟨S,W,U⟩,q⟩:=h
 refine⟨_,(ai (gA (aj 1) (dS rfl (ax (bh 3 e) (ax (bh 4 e) (ax (bh 5 e) cf))))) (ai (bj 6 e (a9 (dA rfl) T.max_ (ay ag (au eJ (aj 4) (aj 2))))) (ai (bj 7 e (a9 (dz rfl) T.min_ (ay (au eJ (aG aF (aj 0) ag) ag) (au aZ (aj 4) (aj 2))))) (ai (bj 8 e (a9 (dA rfl) T.max_ (ay ag (au eJ (aj 5) (aj 2))))) (ai (bj 9 e (a9 (dz rfl) T.min_ (ay (au eJ (aG aF (aj 0) ag) ag) (au aZ (aj 5) (aj 2))))) (ai (bj 10 e (aW dv)) (aR (dB (f9 (by rfl) T.range_ (ay (aj 6) (au aZ (aj 7) ag))) (bh 11 e) (aD (aM (cY JP PySem.F.slot_list_extend PySem.F.type_list_extend mB (aj 10) (aB (fW ["two"] ["layer", "one"] [3,11] (f9 (by rfl) T.range_ (ay (aj 8) (au aZ (aj 9) ag))) (c_ 0) cg (cE (aA (aj 1) (ay (aj 2) (aj 0)))))))))) (aw (aj 10))))))))),?_⟩
 dsimp only[bE,Cx.nox]
 refine nW (aa rfl) (cn.of M) ?_
 refine fI (v:=.int p.2.1) (bg (cZ (af aq (af (br (aa rfl) (aa rfl)) ao)) fun Q' g=>⟨_,_,rfl,g⟩) (by split<;>congr 1<;>lia)) ?_
 refine fI (v:=.int p.2.1) (bg (cZ (af (br (cy (i:=1) rfl ha rfl) aq) (af (br (aa rfl) (aa rfl)) ao)) fun Q' g=>⟨_,_,rfl,g⟩) (by split<;>congr 1<;>lia)) ?_
 refine fI (v:=.int p.2.2) (bg (cZ (af aq (af (br (aa rfl) (aa rfl)) ao)) fun Q' g=>⟨_,_,rfl,g⟩) (by split<;>congr 1<;>lia)) ?_
 refine fI (v:=.int p.2.2) (bg (cZ (af (br (cy (i:=2) rfl ha rfl) aq) (af (br (aa rfl) (aa rfl)) ao)) fun Q' g=>⟨_,_,rfl,g⟩) (by split<;>congr 1<;>lia)) ?_
 refine⟨JA _,fun u C=>?_⟩
 have one:∀x:Int,(x+1 - x).toNat=1:=fun x=>by lia
 refine⟨_,rfl,_,rfl,_,_,rfl,rfl,_,_,rfl,⟨by lia,by lia,by lia,by lia⟩,?_⟩
 rw[one]
 refine cK (n:=1) (fun j σ H2=>∃(o:Option V) (ps:List Addr),σ=[some (.ref a),some (.ref b),some (.int 0),some (.int p.1),some (.int p.2.1),some (.int p.2.2),some (.int p.2.1),some (.int p.2.1),some (.int p.2.2),some (.int p.2.2),some (.ref u),o]/\ah H H2/\H2 u=some (.lst (ps.map V.ref))/\bB H2 ps (List.replicate j (t3 p))) ⟨none,[],rfl,(ah.refl H).upd C,ae,.nil⟩ ?_ ?_
 ·rintro j σ H2 R ⟨o,ps,rfl,B,y,hg⟩
  obtain rfl:j=0:=by lia
  cases hg
  refine⟨_,rfl,.inl ⟨rfl,_,aH.of y⟩,?_⟩
  refine⟨_,rfl,_,rfl,_,_,rfl,rfl,_,_,rfl,⟨by lia,by lia,by lia,by lia⟩,fun D I=>?_⟩
  rw[one]
  refine qe (n:=1) (fun i A H3=>∃(o:Option V) (l:List Addr),A=[o,some (.int p.1),some (.int p.2.1)]/\ah H2 H3/\H3 D=some (.lst (l.map V.ref))/\bB H3 l (List.replicate i (t3 p))) ⟨none,[],by rw[show((p.2.1:Int)+((0:Nat):Int))=p.2.1 by lia];rfl,(ah.refl H2).upd I,ae,.nil⟩ ?_ ?_
  ·rintro i A H3 hi ⟨J,l,rfl,s,m,hr⟩
   obtain rfl:i=0:=by lia
   cases hr
   refine⟨_,rfl,_,rfl,_,rfl,(by show 3<=sizeLine;decide),fun pt G=>?_⟩
   have c:D≠pt:=ar m G
   refine⟨[],(by rw[ak c];exact m),(by decide),_,[pt],rfl,bf (s.upd G) I,ae,.cons ?_ .nil⟩
   rw[ak (JH c),ae,show((p.2.2:Int)+((0:Nat):Int))=p.2.2 by lia];rfl
  ·rintro A H3 ⟨J,l,rfl,s,m,hr⟩
   have d:=s _ _ y
   have O:l.length=1:=Paired.length hr
   refine⟨u,D,_,_,rfl,rfl,d,m,(by rw[Jd (f:=V.ref) (as:=l),O];decide),?_⟩
   exact⟨_,l,rfl,bf (B.trans s) C,ae,fm hr (fj d)⟩
 ·rintro σ H2 ⟨o,ps,rfl,B,y,hg⟩
  obtain⟨t,rfl,N⟩:∃t,ps=[t]/\A3 H2 t p:=by
   cases hg with
   |cons h r=>cases r;exact⟨_,rfl,h⟩
  exact⟨_,rfl,q u t H2 B C y N⟩
theorem Cm (r:az P w K mg base "inside" 1 ["sizes", "spot"] kD)(s:az P w K mg base "square" 1 ["sizes", "spot", "reach"] (qw K))(v:cS P w K mg base cFloor "is_rock" 3 ["self", "spot"] (qx cFloor)):ff P w K mg base 4 "fits" Ef ["floor", "thing", "spot"] (yj cNet cBundle cFloor):=by
 refine rd ["floor", "thing", "spot", "layer", "row", "column", "first", "last"] fun C _ _ _ _ _ H vs Q E hr h=>?_
 obtain⟨p,t,b,g,u,rfl,hf,sz,⟨C',m,f,B,c1,l1,m1⟩,Y,hi,hn,q⟩:=h
 refine⟨_,(ai (gA (aj 2) (dS rfl (ax (bh 3 C) (ax (bh 4 C) (ax (bh 5 C) cf))))) (ai (bj 6 C (cE (aA (aj 3) (ay (au eJ (aj 4) (bC (aj 1) rfl)) (au eJ (aj 5) (bC (aj 1) rfl)))))) (ai (bj 7 C (cE (aA (aj 3) (ay (au aZ (aj 4) (bC (aj 1) rfl)) (au aZ (aj 5) (bC (aj 1) rfl)))))) (aR (cj (eU (bY (cJ (aO r hr (ay (bC (aj 0) rfl) (aj 6))))) (dr (bY (cJ (aO r hr (ay (bC (aj 0) rfl) (aj 7))))))).pt (aw dH)) (aw (Af (a9 (kG rfl) T.any_ (aB (fW ["near"] ["floor"] [0] (aK (aO s hr (aA (bC (aj 0) rfl) (ay (aj 2) (bC (aj 1) rfl))))) (c_ 0) cg (FE (aj 1) (by exact T.cl_Floor) (by exact v) (by exact(hr.mono (by decide))) (aB (aj 0)))))))))))),?_⟩
 dsimp only[bE,Cx.nox]
 have A:jn K C'/\a_ K C' "half" :=by rcases c1 with rfl|rfl<;>first|exact⟨T.cl_Net,T.na_Net_half⟩|exact⟨T.cl_Bundle,T.na_Bundle_half⟩
 refine nW (aa rfl) (cn.of Y) ?_
 refine yH (vs:=(t3 u).map V.int) (af (aa rfl) (af (bg (br (aa rfl) (dh (aa rfl) B A.1 A.2 l1)) (by rw[Int.sub_zero])) (af (bg (br (aa rfl) (dh (aa rfl) B A.1 A.2 l1)) (by rw[Int.sub_zero])) ao))) (by show 3<=sizeLine;decide) fun N n1=>?_
 generalize k1:upd H N (.tup ((t3 u).map V.int))=H1
 have I:ah H H1:=k1▸(ah.refl H).upd n1
 have j:A3 H1 N u:=k1▸ae
 refine yH (vs:=(t3 u).map V.int) (af (aa rfl) (af (bg (br (aa rfl) (dh (aa rfl) (I _ _ B) A.1 A.2 l1)) (by rw[Int.add_zero])) (af (bg (br (aa rfl) (dh (aa rfl) (I _ _ B) A.1 A.2 l1)) (by rw[Int.add_zero])) ao))) (by show 3<=sizeLine;decide) fun S n2=>?_
 generalize k2:upd H1 S (.tup ((t3 u).map V.int))=H2
 have s2:ah H1 H2:=k2▸(ah.refl H1).upd n2
 have n:A3 H2 S u:=k2▸ae
 have a:=I.trans s2
 have d:=hf.same a
 obtain⟨dx,fs,R,pa,va,ra,ta,x⟩:=d
 refine c6 (b:=false) (cC (fF (gU (jm (pA (af (f_ (aa rfl) x.ha T.cl_Floor T.na_Floor_sizes x.f1) (af (aa rfl) ao)) fun Q' G=>⟨R,N,g.z,u,rfl,x.z,s2 _ _ j,hi,G⟩))) fun _=>gU (jm (pA (af (f_ (aa rfl) x.ha T.cl_Floor T.na_Floor_sizes x.f1) (af (aa rfl) ao)) fun Q' G=>⟨R,S,g.z,u,rfl,x.z,n,hi,G⟩))) rfl) rfl ?_
 refine⟨_,rfl,p,cFloor,dx,fs,_,rfl,x.ha,T.cl_Floor,T.na_Floor_sizes,x.f1,_,rfl,_,rfl,t,C',m,f,_,rfl,a _ _ B,A.1,A.2,l1,R,b,g.z,u,rfl,x.z,sz,a _ _ Y,hi,fun l Z H3 J nl W ht=>⟨l,rfl,⟨_,aH.of W⟩,fun D O=>?_⟩⟩
 have c:pK cFloor H3 p g:=hf.same (a.trans J)
 refine cm (K:=K) (xs:=[.ref Z]) (fun i F H'=>∃M:Option V,F=[M,some (.ref p)]/\H'=upd H3 D (.lst ((List.replicate i false).map V.bl))) ⟨none,rfl,rfl⟩ (fun i F H' _ ⟨_,_,e⟩=>aH.of (by rw[e,ak (ar W O)];exact W)) ?_ ?_
 ·rintro i y F H' X ⟨M,rfl,rfl⟩
  obtain rfl:i=0:=by have:=bO X;simp at this;omega
  cases X
  refine gn (fK ?_)
  have U:=(ah.refl H3).upd (o:=.lst ((List.replicate 0 false).map V.bl)) O
  refine⟨_,rfl,p,dx,fs,rfl,U _ _ (J _ _ x.ha),x.no _ (by simp[HX]),_,rfl,p,Z,g,u,rfl,c.same U,U _ _ ht,hi,?_⟩
  rw[decide_eq_false hn]
  refine⟨_,ae,by decide,_,rfl,?_⟩
  rw[gC];rfl
 ·rintro F H' ⟨M,rfl,rfl⟩
  exact⟨D,[false],rfl,aH.of ae,_,rfl,q _ ((a.trans J).upd O)⟩
theorem wW (Y:K.In base):ff P w K mg base 1 "check_names" vP ["things"] (qX cNet cBundle):=by
 refine rd ["things", "names", "name"] fun G _ _ _ _ _ H vs Q E hr h=>?_
 obtain⟨l,ps,gs,rfl,O,W,r,v,q⟩:=h
 refine⟨_,(aR (bj 1 G A6) (dB (aK (fW ["thing"] [] [] (aK (aj 0)) (c_ 0) cg (jU (K:=K) rfl (aj 0) rfl))) (bh 2 G) (aR (cj (An (Ai (bT.one hr) (aj 2) (aj 1))) bX) (jV (bT.one hr) (aj 1) (aj 2) dH (by rfl))))),?_⟩
 dsimp only[bE,Cx.nox]
 have A:sizeLine=2^24:=rfl
 have lp:ps.length=gs.length:=Paired.length W
 refine bK fun d G=>?_
 generalize k1:upd H d (.dK [])=H1
 have C:ah H H1:=k1▸(ah.refl H).upd G
 have hd:H1 d=some (.dK []):=k1▸ae
 refine⟨_,rfl,l,rfl,⟨_,aH.of (C _ _ O)⟩,fun D I=>?_⟩
 refine cm (K:=K) (xs:=ps.map V.ref) (fun i F H'=>∃J:Option V,F=[J]/\H'=upd H1 D (.lst (((gs.take i).map Tn.nm).map V.str))) ⟨none,rfl,rfl⟩ (fun j F H' _ ⟨_,_,e⟩=>aH.of (by rw[e,ak (ar (C _ _ O) I)];exact C _ _ O)) ?_ ?_
 ·rintro i x F H' B ⟨J,rfl,rfl⟩
  obtain⟨p,u,rfl⟩:=dQ B
  obtain⟨g,hg,t⟩:=aU W u
  refine gn (fK ?_)
  refine kH (t.same (C.upd I)) (aa rfl) T.cl_Net T.na_Net_name T.cl_Bundle T.na_Bundle_name (fun _ b=>b.name) _ ?_
  refine⟨_,ae,by rw[Jd,Jd,JB];lia,_,rfl,?_⟩
  rw[gC,aT hg,Jl,Jl];rfl
 rintro F H' ⟨J,rfl,rfl⟩
 rw[Jd,lp,JI]
 generalize k2:upd H1 D (.lst ((gs.map Tn.nm).map V.str))=H2
 have U:ah H1 H2:=k2▸(ah.refl H1).upd I
 have S:H2 D=some (.lst ((gs.map Tn.nm).map V.str)):=k2▸ae
 have f:D≠d:=fun z=>by rw[z,hd] at I;cases I
 refine⟨D,rfl,⟨_,aH.of S⟩,?_⟩
 refine cG (K:=K) (xs:=(gs.map Tn.nm).map V.str) (fun i σ H'=>∃(N:Option V) (a:List (cP×V)),σ=[some (.ref l),some (.ref d),N]/\ah H H'/\H' D=some (.lst ((gs.map Tn.nm).map V.str))/\H' d=some (.dK a)/\a.length<=i/\∀x,(cA a (.inr x)).isSome=true->x∈(gs.map Tn.nm).take i)
  ⟨none,[],rfl,C.trans U,S,U _ _ hd,Jg _,fun x z=>nomatch z⟩ (fun j F H' _ ⟨_,_,_,_,e,_⟩=>aH.of e) ?_ ?_
 ·rintro i x σ H' B ⟨N,a,rfl,s,n,c,X,R⟩
  obtain⟨m,M,rfl⟩:=gD B
  have hi:=bO M
  rw[Jd] at hi
  have nv:(cA a (.inr m)).isSome=false:=by
   cases e:(cA a (.inr m)).isSome with
   |false=>rfl
   |true=>exact absurd (R m e) (E2 r M)
  refine gn ?_
  refine c6 (cC (aE (F0 (o:=cA a (.inr m)) (aa rfl) (aa rfl) (iE.k (k:=.inr m) c))) nv) rfl ?_
  refine vM (y:=.str m) aq (aa rfl) (aa rfl) (oK.k (k:=.inr m) c (by lia)) ?_
  refine⟨_,_,rfl,bf s G,by rw[ak f];exact n,ae,Jn (eS _ _ _) (KC X),fun x B=>?_⟩
  rw[Ax] at B
  rw[aT M]
  by_cases ex:(.inr x:cP)=.inr m
  ·rw[Sum.inr.inj ex];simp
  ·rw[if_neg ex] at B
   exact K4 _ (R x B)
 ·rintro σ H' ⟨N,a,rfl,s,_⟩
  exact q _ s
theorem zl (X:K.In base)(o:cS P w K mg base cNet "ends" 1 ["self"] (j8 cNet))(n:cS P w K mg base cBundle "ends" 1 ["self"] (kg cBundle))(r:az P w K mg base "fits" 4 ["floor", "thing", "spot"] (yj cNet cBundle cFloor)):ff P w K mg base 5 "check_fits" Ae ["floor", "things"] (vY cNet cBundle cFloor):=by
 refine rd ["floor", "things", "thing", "spot"] fun I _ _ _ _ _ H vs Q E hr h=>?_
 obtain⟨f,l,ps,gs,R,rfl,S,sz,J,W,ok,q⟩:=h
 refine⟨_,(aD (dB (aK (aj 1)) (bh 2 I) (aD (dB (aK (lV (aj 2) T.cl_Net T.cl_Bundle o n (hr.mono (by decide)) (hr.mono (by decide)))) (bh 3 I) (aD (cj (bY (cJ (aO r hr (aA (aj 0) (ay (aj 2) (aj 3)))))) bX)))))),?_⟩
 dsimp only[bE,Cx.nox]
 refine⟨_,rfl,l,rfl,⟨_,aH.of J⟩,?_⟩
 refine cG (K:=K) (xs:=ps.map V.ref) (fun i σ H'=>∃D y:Option V,σ=[some (.ref f),some (.ref l),D,y]/\ah H H') ⟨none,none,rfl,ah.refl H⟩ (fun i σ H' _ ⟨_,_,_,s⟩=>aH.of (s _ _ J)) ?_ ?_
 ·rintro i x σ H1 B ⟨D,y,rfl,v⟩
  obtain⟨p,m,rfl⟩:=dQ B
  obtain⟨g,hg,t⟩:=aU W m
  have F:=Jy hg
  refine gn ?_
  refine vA (oq (aa rfl) (t.same v) (ok.ln g F) fun H2 le G Y ⟨as,A,C⟩=>⟨le,rfl,⟨_,aH.of A⟩,?_⟩)
  refine cG (K:=K) (xs:=as.map V.ref) (fun j σ H'=>∃y:Option V,σ=[some (.ref f),some (.ref l),some (.ref p),y]/\ah H2 H') ⟨_,rfl,ah.refl H2⟩ (fun i σ H' _ ⟨_,_,s⟩=>aH.of (s _ _ A)) ?_ ?_
  ·rintro j x σ H3 B ⟨d,rfl,z⟩
   obtain⟨a,ha,rfl⟩:=dQ B
   obtain⟨c,M,e⟩:=gz C ha
   obtain⟨u,U,rfl⟩:=Jk.mp (Jy M)
   obtain⟨O,N⟩:=ok.ok g F u U
   have b:=(v.trans G).trans z
   refine gn ?_
   exact uO ⟨_,rfl,_,rfl,_,rfl,f,p,a,R,u,rfl,S.same b,sz,(t.same b).th,z _ _ e,O,N,fun H4 s4=>⟨_,rfl,gM ⟨_,rfl,z.trans s4⟩⟩⟩
  ·rintro σ H3 ⟨d,rfl,z⟩
   exact⟨_,_,rfl,(v.trans G).trans z⟩
 ·rintro σ H1 ⟨D,y,rfl,v⟩
  exact q _ v
theorem sd (hB:K.In base)(u:cS P w K mg base cNet "ends" 1 ["self"] (j8 cNet))(r:cS P w K mg base cBundle "ends" 1 ["self"] (kg cBundle))(v:az P w K mg base "clash_at_all" 3 ["thing", "spots", "other", "places"] (qI cNet cBundle)):ff P w K mg base 4 "check_crowds" qk ["things"] (mM cNet cBundle):=by
 refine rd ["things", "place", "thing", "other"] fun J _ _ _ _ _ H vs Q E hr h=>?_
 obtain⟨l,ps,gs,z,rs,rfl,M,N,ok,q⟩:=h
 refine⟨_,(aD (dB (zL (by rfl) T.enumerate_ jd (aB (aj 0))) (dS rfl (ax (bh 1 J) (ax (bh 2 J) cf))) (aD (dB (aK (bz bU (aj 0) (bu (au aZ (aj 1) ag)) cR)) (bh 3 J) (aD (cj (cJ (aO v hr (aA (aj 2) (aA (lV (aj 2) T.cl_Net T.cl_Bundle u r (hr.mono (by decide)) (hr.mono (by decide))) (ay (aj 3) (lV (aj 3) T.cl_Net T.cl_Bundle u r (hr.mono (by decide)) (hr.mono (by decide)))))))) bX)))))),?_⟩
 dsimp only[bE,Cx.nox]
 have lp:ps.length=gs.length:=Paired.length N
 refine⟨_,rfl,l,rfl,⟨_,aH.of M⟩,?_⟩
 refine wO (K:=K) (xs:=ps.map V.ref) (fun i σ H'=>∃I D A:Option V,σ=[some (.ref l),I,D,A]/\ah H H') ⟨none,none,none,rfl,ah.refl H⟩ (fun i σ H' _ ⟨_,_,_,_,s⟩=>aH.of (s _ _ M)) ?_ ?_
 ·rintro i y O σ H0 F o ⟨I,D,A,rfl,s0⟩
  obtain⟨p,n,rfl⟩:=dQ F
  obtain⟨g,hg,t⟩:=aU N n
  have lg:=ok.ln g (Jy hg)
  have hi:=bO hg
  refine⟨O,_,rfl,cn.of ae,rfl,_,_,rfl,_,_,rfl,rfl,?_⟩
  generalize k1:upd H0 O (.tup [.int ((i:Nat):Int),.ref p])=H1
  have B:ah H H1:=k1▸s0.upd o
  refine vA (AM (K:=K) (aa rfl) (br (g:=fun i j=>V.int (i+j)) (aa rfl) aq) (aH.of (B _ _ M)) fun ls G=>?_)
  have X:dU (ps.map V.ref) (some (((i:Nat):Int)+1)) none=(ps.drop (i+1)).map V.ref:=by
   rw[show((i:Nat):Int)+1=((i+1:Nat):Int) by lia,oZ _ _ (by rw[Jd];lia),KJ]
  rw[X]
  generalize k2:upd H1 ls (.lst ((ps.drop (i+1)).map V.ref))=H2
  have e:ah H H2:=B.trans (k2▸(ah.refl H1).upd G)
  have f:H2 ls=some (.lst ((ps.drop (i+1)).map V.ref)):=k2▸ae
  refine⟨ls,rfl,⟨_,aH.of f⟩,?_⟩
  refine cG (K:=K) (xs:=(ps.drop (i+1)).map V.ref) (fun j σ H'=>∃A:Option V,σ=[some (.ref l),some (.int ((i:Nat):Int)),some (.ref p),A]/\ah H2 H') ⟨_,rfl,ah.refl H2⟩ (fun i σ H' _ ⟨_,_,s⟩=>aH.of (s _ _ f)) ?_ ?_
  ·rintro j x σ H3 F ⟨m,rfl,C⟩
   obtain⟨W,ha,rfl⟩:=dQ F
   rw[J2] at ha
   obtain⟨h,U,R⟩:=aU N ha
   have lh:=ok.ln h (Jy U)
   have a:=e.trans C
   have cr:∀c∈g.es,∀d∈h.es,c≠d:=by
    obtain⟨b1,rfl⟩:=JE.mp hg
    obtain⟨b2,rfl⟩:=JE.mp U
    exact LN.mp ok.cr _ _ _ _ (by lia)
   refine gn ?_
   refine uO (F5 (dG (aa rfl) (aN (oq (aa rfl) (t.same a) lg fun H4 Z s4 n4 Y=>dG (aa rfl) (aN (oq (aa rfl) (R.same (a.trans s4)) lh fun H5 l5 S n5 a5=>?_))))))
   have b:=s4.trans S
   exact⟨p,Z,W,l5,g.es,h.es,rfl,(t.same (a.trans b)).th,(R.same (a.trans b)).th,Y.same S,a5,by rw[Js];lia,cr,fun H6 s6=>⟨_,rfl,gM ⟨_,rfl,C.trans (b.trans s6)⟩⟩⟩
  ·rintro σ H3 ⟨m,rfl,C⟩
   exact⟨_,_,_,rfl,e.trans C⟩
 ·rintro σ H1 ⟨I,D,A,rfl,B⟩
  exact q _ B
theorem xx (J:az P w K mg base "check_names" 1 ["things"] (qX cNet cBundle))(M:az P w K mg base "check_fits" 5 ["floor", "things"] (vY cNet cBundle cFloor))(I:az P w K mg base "check_crowds" 4 ["things"] (mM cNet cBundle)):pL P w K mg base 6 "__init__" "Board.__init__" vN ["self", "floor", "things"] (qE cNet cBundle cFloor cBoard):=by
 refine rd ["self", "floor", "things"] fun nd _ _ _ _ _ H vs Q E hr h=>?_
 obtain⟨p,dx,f,l,ps,gs,g0,rfl,U,hf,sz,Z,S,ok,q⟩:=h
 refine⟨_,(ai (aM (aO J hr (aB (aj 2)))) (ai (aM (aO M hr (ay (aj 1) (aj 2)))) (ai (aM (aO I hr (aB (aj 2)))) (aR (eM (aj 0) (aj 1) rfl) (eM (aj 0) (dR (jR rfl) T.dict_ (aB (fW ["thing"] [] [] (aK (aj 2)) (c_ 0) cg (cE (ay (jU (K:=K) rfl (aj 0) rfl) (aj 0)))))) rfl))))),?_⟩
 dsimp only[bE,Cx.nox]
 have G:sizeLine=2^24:=rfl
 have lp:ps.length=gs.length:=Paired.length S
 have A:=ok.few
 have up:∀{H1},ah H H1->mn cNet cBundle H1 ps gs:=fun s=>Paired.mapP S fun _ _ e=>e.same s
 refine⟨_,rfl,l,ps,gs,rfl,Z,S,ok.nm,A,fun H1 W=>?_⟩
 refine⟨_,rfl,_,rfl,f,l,ps,gs,g0,rfl,hf.same W,sz,W _ _ Z,up W,ok,fun H2 s2=>?_⟩
 have m:=W.trans s2
 refine⟨_,rfl,l,ps,gs,g0.z,g0.rs,rfl,m _ _ Z,up m,ok,fun H3 s3=>?_⟩
 have r:=m.trans s3
 refine⟨_,rfl,_,rfl,p,cBoard,dx,[],rfl,r _ _ U,T.cl_Board,T.na_Board_floor,(by decide),?_⟩
 generalize k4:upd H3 p (.ins cBoard dx (eF "floor" (.ref f) []))=O
 have b4:bQ H O p:=k4▸(bQ.of r).up
 have C:O p=some (.ins cBoard dx (eF "floor" (.ref f) [])):=k4▸ae
 have v:=fY (o:=.lst (ps.map V.ref)) b4 U (fun z=>nomatch z) Z
 have B:mn cNet cBundle O ps gs:=Paired.mapP S fun _ _ e=>e.bp b4 U
 refine⟨_,rfl,l,rfl,⟨_,aH.of v⟩,fun D nD=>?_⟩
 refine cm (K:=K) (xs:=ps.map V.ref) (fun i X H'=>∃(x0:Option V) (ts:List Addr),X=[x0]/\ah O H'/\H' D=some (.lst (ts.map V.ref))/\ts.length=i/\Hz H' ts (r8 (gs.take i) (ps.take i))) ⟨none,[],rfl,(ah.refl O).upd nD,ae,rfl,.nil⟩ (fun j X H' _ ⟨_,_,_,s,_⟩=>aH.of (s _ _ v)) ?_ ?_
 ·rintro i x X H' hx ⟨x0,ts,rfl,Y,R,n,c⟩
  obtain⟨a,ha,rfl⟩:=dQ hx
  obtain⟨g,hg,t⟩:=aU B ha
  have hi:=bO hg
  refine gn (fK ?_)
  refine iI (vs:=[.str g.nm,.ref a]) (af (kH (t.same Y) (aa rfl) T.cl_Net T.na_Net_name T.cl_Bundle T.na_Bundle_name (fun _ b=>b.name)) (af (aa rfl) ao)) (by show 2<=sizeLine;decide) fun tt N=>?_
  have y:tt≠D:=fun z=>by rw[z,R] at N;cases N
  refine⟨_,by rw[ak (JH y)];exact R,by rw[Jd];omega,_,ts++[tt],rfl,bf (Y.upd N) nD,by rw[ae,Jl];rfl,by rw[Js,n];rfl,?_⟩
  rw[zE hg ha]
  refine AY (Paired.mapP c fun b kv e=>?_) ?_
  ·rw[ak (jL e R (fun z=>nomatch z)),ak (ar e N)];exact e
  ·rw[ak y,ae];rfl
 ·rintro X H' ⟨x0,ts,rfl,Y,R,n,c⟩
  rw[Jd,lp,JI,<-lp,JI] at c
  refine⟨D,ts,r8 gs ps,rfl,R,c,fun d nd=>?_⟩
  rw[EK (EB lp ok.nm)]
  generalize k6:upd H' d (.dK (r8 gs ps))=H6
  have s6:ah O H6:=Y.trans (k6▸(ah.refl H').upd nd)
  have F:H6 d=some (.dK (r8 gs ps)):=k6▸ae
  have u:=s6 _ _ C
  refine⟨_,rfl,p,cBoard,dx,_,rfl,u,T.cl_Board,T.na_Board_by_name,Ll (bq _ _ _) (by decide),?_⟩
  have b7:bQ H (upd H6 p (.ins cBoard dx (eF "by_name" (.ref d) (eF "floor" (.ref f) [])))) p:=(b4.st s6).up
  refine q _ b7 ⟨dx,_,d,f,ps,ae,?_,?_,?_,fY (bQ.of (ah.refl H6)).up u (fun z=>nomatch z) F,Paired.mapP S fun _ _ e=>e.bp b7 U,hf.bp b7 U⟩
  ·rw[aJ,if_neg (by decide+kernel),aJ,if_pos rfl]
  ·rw[aJ,if_pos rfl]
  ·rw[aJ,if_neg (by decide+kernel),aJ,if_neg (by decide+kernel)];rfl
theorem qm:pL P w K mg base 1 "things" "Board.things" mN ["self"] (kQ cBoard):=by
 refine rd ["self"] fun i _ _ _ _ _ H vs Q E hr h=>?_
 obtain⟨b,dx,d,fs,ps,gs,rfl,h1,g,c,lp,a,q⟩:=h
 refine⟨_,(aD (aw (dR (tq rfl) T.list_ (aB (Bo PySem.F.plainAttrs_dict PySem.F.slot_dict_values PySem.F.type_dict_values xE (bC (aj 0) rfl)))))),?_⟩
 dsimp only[bE,Cx.nox]
 refine cU (Am (yX (dh (aa rfl) h1 T.cl_Board T.na_Board_by_name g) (.inr (.inr (.inl ⟨rfl,.inl ⟨_,c⟩⟩))) ⟨d,_,rfl,rfl,c,fun v nv=>?_⟩))
 refine⟨v,d,r8 gs ps,rfl,ae,by rw[ak (ar c nv)];exact c,Jn Cz (by lia),fun f nl=>?_⟩
 have e:ah H (upd H v (Hq v d)):=(ah.refl H).upd nv
 refine q _ f (e.upd nl) (dJ e nl) (by rw[ae,yP lp])
theorem xS (c:e_ P w K mg base cNet "Net" 3 ["self", "name", "pins", "half", "room"] (pC cNet))(b:e_ P w K mg base cBundle "Bundle" 3 ["self", "name", "starts", "goals", "room"] (o6 cBundle)):ff P w K mg base 5 "thing_told" vG ["kind", "parts"] (pU cNet cBundle):=by
 refine rd ["kind", "parts", "name", "half", "room", "pins", "starts", "goals"] fun a _ _ _ _ _ H vs Q E hr h=>?_
 obtain⟨v,r,g,rfl,B,hg,ok,D,q⟩:=h
 refine⟨_,(ai (ji (bN dq (aj 0) aL) (aR (gA (aj 1) (dS rfl (ax (bh 2 a) (ax (bh 3 a) (ax (bh 4 a) (ax (bh 5 a) cf)))))) (aw (uR c (hr.mono (by decide)) (by rfl) (aA (aj 2) (aA (aj 5) (ay (aj 3) (aj 4))))))) jg) (aR (gA (aj 1) (dS rfl (ax (bh 2 a) (ax (bh 4 a) (ax (bh 6 a) (ax (bh 7 a) cf)))))) (aw (uR b (hr.mono (by decide)) (by rfl) (aA (aj 2) (aA (aj 6) (ay (aj 7) (aj 4)))))))),?_⟩
 dsimp only[bE,Cx.nox]
 refine fw (iy (j:=5) (aa rfl) (by decide)) (fun e=>?_) fun C=>?_
 ·cases r with
  |net x cs=>
   obtain⟨t,l,rfl,i,s,_⟩:=B
   obtain rfl:=Option.some.inj hg
   refine⟨_,rfl,t,_,rfl,cn.of i,rfl,_,_,rfl,_,_,rfl,_,_,rfl,_,_,rfl,rfl,?_⟩
   refine⟨_,rfl,_,rfl,_,rfl,_,rfl,?_⟩
   intro p dx np d F
   have f:ah H (upd (upd H dx (.own p)) p (.ins cNet dx [])):=ik np d
   have s4:=ok.s4
   have a:=ok.nd
   have z:=ok.ln
   have A:=ok.sh
   simp only[Tn.es,JK,List.length_nil,Nat.add_zero] at s4 a z A
   have o:2<=cs.length:=by
    rcases A with ⟨_,h⟩|⟨h,_⟩
    ·exact h
    ·exact absurd rfl h
   refine⟨p,dx,l,ss x,cs,rfl,ae,s.same f,s4,a,o,z,ok.as,ok.gd,fun H4 u n=>⟨rfl,?_⟩⟩
   exact q p H4 (bQ.same f np u) np (.inl ⟨rfl,n⟩)
  |_=>cases e
 ·cases r with
  |bun x cs ds=>
   obtain⟨t,l,m,rfl,i,s,G,_⟩:=B
   obtain rfl:=Option.some.inj hg
   refine⟨_,rfl,t,_,rfl,cn.of i,rfl,_,_,rfl,_,_,rfl,_,_,rfl,_,_,rfl,rfl,?_⟩
   refine⟨_,rfl,_,rfl,_,rfl,_,rfl,?_⟩
   intro p dx np d F
   have f:ah H (upd (upd H dx (.own p)) p (.ins cBundle dx [])):=ik np d
   have y:=D x cs ds rfl
   obtain⟨l1,o⟩:1<=cs.length/\cs.length<=ds.length:=by
    rcases ok.sh with ⟨h,_⟩|⟨_,h⟩
    ·exact absurd h y
    ·exact h
   refine⟨p,dx,l,m,ss x,cs,ds,rfl,ae,s.same f,G.same f,ok.s4,ok.nd,l1,o,ok.ln,ok.as,ok.gd,fun H4 u n=>⟨rfl,?_⟩⟩
   exact q p H4 (bQ.same f np u) np (.inr ⟨y,n⟩)
  |net x cs=>cases C
  |_=>cases hg
theorem xi (cc:az P w K mg base "check_sizes" 1 ["sizes", "prices", "vias"] lz)(ca:az P w K mg base "check_price" 1 ["price", "least"] kR)(b7:az P w K mg base "check_prices" 2 ["prices", "vias", "tolls"] jC)(b3:az P w K mg base "check_inside" 2 ["sizes", "spot"] hZ)(ce:e_ P w K mg base cFloor "Floor" 3 ["self", "sizes", "prices", "vias", "rocks", "tolls"] (pG cFloor))(b0:az P w K mg base "parts_of" 1 ["told", "kind"] qR)(b5:az P w K mg base "marked" 3 ["boxes"] p5):ff P w K mg base 5 "floor_told" u_ ["told"] (pO cFloor):=by
 refine rd ["told", "sizes", "prices", "vias", "rocks", "tolls", "price", "one", "two", "mark"] fun nd _ _ _ _ _ H vs Q E hr h=>?_
 obtain⟨l,us,z,W,rfl,hl,hp,hu,ok,q⟩:=h
 refine⟨_,(ai (bj 1 nd (aG aF (aG aC (aj 0) ag) ag)) (ai (bj 2 nd (aO b0 hr (ay (aj 0) aL))) (ai (md 3 ["parts"] [] [] nd (aK (aO b0 hr (ay (aj 0) aL))) (c_ 0) cg (aG (pe (K:=K) rfl) (aj 0) ag)) (ai (md 4 ["one", "two"] [] [] nd (aK (aO b0 hr (ay (aj 0) aL))) (ie (K:=K) (n:=2) rfl rfl (ax (c_ 0) (ax (c_ 1) cf)) rfl rfl) cg (cE (aA dH (ay (aj 0) (aj 1))))) (ai (bj 5 nd (aO b0 hr (ay (aj 0) aL))) (ai (aM (aO cc hr (aA (aj 1) (ay (aj 2) (aj 3))))) (ai (aM (aO b7 hr (aA (aj 2) (ay (aj 3) gW)))) (ai (dB (aK (aj 5)) (dS rfl (ax (bh 6 nd) (ax (bh 7 nd) (ax (bh 8 nd) cf)))) (aD (aM (aO ca hr (ay (aj 6) ag))))) (aR (dB (aK (au fA (aj 4) (aj 5))) (dS rfl (ax (bh 9 nd) (ax (bh 7 nd) (ax (bh 8 nd) cf)))) (aR (aM (aO b3 hr (ay (aj 1) (aj 7)))) (aM (aO b3 hr (ay (aj 1) (aj 8)))))) (aw (uR ce (hr.mono (by decide)) (by rfl) (aA (aj 1) (aA (aj 2) (aA (aj 3) (ay (dR (sk rfl) T.list_ (aB (aO b5 hr (aB (aj 4))))) (aO b5 hr (aB (aj 5)))))))))))))))))),?_⟩
 dsimp only[bE,Cx.nox]
 have bD:sizeLine=2^24:=rfl
 obtain⟨v0,cz,rfl,h0⟩:∃v0 cz,us=v0::cz/\TD (fun _=>True) H v0 (.floor z):=by
  cases hp with
  |cons a b=>exact⟨_,_,rfl,a⟩
 obtain⟨t0,u0,rfl,a7,za,rfl,M⟩:=h0
 have up:∀{H'},ah H H'->Paired (TD (fun _=>True) H') (.ref t0::cz) (.floor z::W):=fun s=>Paired.mapP hp fun _ _ e=>e.same s
 refine fI (v:=.ref za) (d_ (bw (aa rfl) aq (aH.of hl) (bI (j:=0) rfl)) aq (cn.of a7) (bI (j:=1) rfl)) ?_
 refine bK (aX (af (aa rfl) (af aq ao)) ⟨l,_,_,1,rfl,by decide,hl,hp,by omega,fun pr e0 H1 s1 n1 d9 d4=>?_⟩)
 obtain⟨bo,rfl,be⟩:=ij (f:=yo) (S:=P2 H1) (fun r e=>by cases r<;>first|rfl|exact absurd rfl e) (fun v r e h=>by
  cases r<;>first|cases e|skip
  obtain⟨t,rfl,h⟩:=h
  exact⟨_,_,rfl,rfl,h⟩) d4
 have bt:lA H1 pr (W.filterMap yo):=⟨bo,d9,be⟩
 refine⟨_,rfl,l,_,_,2,rfl,by decide,s1 _ _ hl,up s1,by omega,fun d6 eE H2 s2 n2 co d5=>⟨d6,rfl,⟨_,aH.of co⟩,fun D nD=>?_⟩⟩
 obtain⟨an,rfl,G⟩:=ij (f:=xw) (S:=fun a (n:Nat)=>H2 a=some (.tup [.int (n:Nat)])) (fun r e=>by cases r<;>first|rfl|exact absurd rfl e) (fun v r e h=>by
  cases r<;>first|cases e|skip
  obtain⟨t,rfl,h⟩:=h
  exact⟨_,_,rfl,rfl,h⟩) d5
 have lv:=ok.va
 have G:Paired (fun a (n:Nat)=>H2 a=some (.tup [.int (n:Nat)])) an (W.filterMap xw):=G
 obtain⟨⟨z1,z2⟩,_,_⟩:=ok.sz
 refine cm (K:=K) (xs:=an.map V.ref) (fun i τ H'=>∃x0:Option V,τ=[x0]/\H'=upd H2 D (.lst (ni ((W.filterMap xw).take i)))) ⟨none,rfl,rfl⟩ (fun i τ H' _ ⟨_,_,e⟩=>aH.of (by rw[e,ak (ar co nD)];exact co)) ?_ ?_
 ·rintro i x τ H' hx ⟨x0,rfl,rfl⟩
  obtain⟨a,ha,rfl⟩:=dQ hx
  obtain⟨n,hn,e⟩:=aU G ha
  have hi:=bO hn
  refine gn (fK ?_)
  refine(d_ (K:=K) (aa rfl) aq (cn.of (((ah.refl H2).upd nD) _ _ e)) (bI (j:=0) rfl)) _ ⟨_,ae,by rw[Jd,JB];omega,_,rfl,?_⟩
  rw[gC,aT hn];unfold ni;rw[Jl];rfl
 rintro τ H' ⟨x0,rfl,rfl⟩
 rw[Jd,Paired.length G,JI]
 generalize k3:upd H2 D (.lst (ni (W.filterMap xw)))=H3
 have a3:ah H1 H3:=s2.trans (k3▸(ah.refl H2).upd nD)
 have ab:H3 D=some (.lst (ni (W.filterMap xw))):=k3▸ae
 have s3:=s1.trans a3
 refine⟨_,rfl,l,_,_,3,rfl,by decide,s3 _ _ hl,up s3,by omega,fun rk fc H4 s4 n4 cN d3=>⟨rk,rfl,⟨_,aH.of cN⟩,fun D2 c2=>?_⟩⟩
 obtain⟨a5,rfl,F⟩:=ij (f:=de) (S:=fun a b=>b.1=.bl true/\∃x y,H4 a=some (.tup [.ref x,.ref y])/\A3 H4 x b.2.1/\A3 H4 y b.2.2) (fun r e=>by cases r<;>first|rfl|exact absurd rfl e) (fun v r e h=>by
  cases r<;>first|cases e|skip
  obtain⟨t,a,b,rfl,h⟩:=h
  exact⟨_,_,rfl,rfl,rfl,a,b,h⟩) d3
 have F:Paired (fun a b=>b.1=.bl true/\∃x y,H4 a=some (.tup [.ref x,.ref y])/\A3 H4 x b.2.1/\A3 H4 y b.2.2) a5 (W.filterMap de):=F
 have lW:W.length<=100:=by have:=Paired.length hp;rw[JC] at this;rw[JC] at hu this;omega
 have lr:(W.filterMap de).length<=100:=Jn (List.length_filterMap_le _ _) lW
 refine cm (K:=K) (xs:=a5.map V.ref) (fun i τ H'=>∃(x0 x1:Option V) (ws:List V),τ=[x0,x1]/\ah H4 H'/\H' D2=some (.lst ws)/\Paired (MB H') ws ((W.filterMap de).take i)/\ws.length=i) ⟨none,none,[],rfl,(ah.refl H4).upd c2,ae,.nil,rfl⟩ (fun i τ H' _ ⟨_,_,_,_,s,_⟩=>aH.of (s _ _ cN)) ?_ ?_
 ·rintro i x τ H' hx ⟨x0,x1,ws,rfl,s,hD,hw,bv⟩
  obtain⟨a,ha,rfl⟩:=dQ hx
  obtain⟨b,hb,eb,bx,B,e1,e2,e3⟩:=aU F ha
  have hi:=bO hb
  refine⟨a,_,rfl,cn.of (s _ _ e1),rfl,?_⟩
  refine⟨_,_,rfl,gn ?_⟩
  refine⟨_,_,rfl,gn ?_⟩
  refine⟨rfl,?_⟩
  refine fK ?_
  refine⟨_,rfl,_,rfl,(by show 3<=sizeLine;decide),fun t nt=>?_⟩
  have a1:t≠D2:=JH (ar hD nt)
  refine⟨ws,(by rw[ak (JH a1)];exact hD),by omega,_,_,ws++[.ref t],rfl,bf (s.upd nt) c2,ae,?_,by simp[bv]⟩
  rw[aT hb]
  have kt:∀b' xs,H' b'=some (.tup xs)->upd (upd H' t (.tup [.bl true,.ref bx,.ref B])) D2 (.lst (ws++[.ref t])) b'=some (.tup xs):=gh hD nt
  refine bL ⟨t,bx,B,rfl,by rw[eb,ak a1,ae],kt _ _ (s _ _ e2),kt _ _ (s _ _ e3)⟩ (Paired.mapP hw ?_)
  rintro _ _ ⟨t',x',y',e,f1,f2,f3⟩
  exact⟨t',x',y',e,kt _ _ f1,kt _ _ f2,kt _ _ f3⟩
 rintro τ H5 ⟨x0,x1,A,rfl,X,a6,a4,_⟩
 rw[Jd,Paired.length F,JI] at a4
 have s5:=s3.trans (s4.trans X)
 refine bK (aX (af (aa rfl) (af aq ao)) ⟨l,_,_,4,rfl,by decide,s5 _ _ hl,up s5,by omega,fun tl eH H6 b8 n6 d0 d8=>?_⟩)
 obtain⟨m,rfl,U⟩:=ij (f:=dX) (S:=fun a b=>MB H6 (.ref a) b) (fun r e=>by cases r<;>first|rfl|exact absurd rfl e) (fun v r e h=>by
  cases r<;>first|cases e|skip
  obtain⟨t,a,b,rfl,h⟩:=h
  exact⟨_,_,rfl,rfl,t,a,b,rfl,h⟩) d8
 have U:Paired (fun a b=>MB H6 (.ref a) b) m (W.filterMap dX):=U
 have s6:=s5.trans b8
 have ap:ah H1 H6:=a3.trans ((s4.trans X).trans b8)
 have Z:ah H3 H6:=(s4.trans X).trans b8
 have C:lA H6 pr (W.filterMap yo):=bt.up (fun _ e=>ap _ _ e) (fun _ _ e=>ap _ _ e)
 obtain⟨bW,bA,bl⟩:=id C
 refine gr (aX (af (aa rfl) (af (aa rfl) (af (aa rfl) ao))) ⟨za,pr,D,z,_,_,rfl,s6 _ _ M,ok.sz,bA,by rw[Jd,Paired.length bl];exact ok.ly,Z _ _ ab,by rw[Jd];exact ok.va,fun H7 s7=>?_⟩)
 refine⟨_,rfl,_,rfl,fun d nd=>?_⟩
 have O:=s7.upd (o:=.dT []) nd
 refine⟨pr,D,d,W.filterMap yo,W.filterMap xw,[],rfl,C.up (fun _ e=>O _ _ e) (fun _ _ e=>O _ _ e),ok.lp,O _ _ (Z _ _ ab),ok.vp,ae,(fun _ h=>nomatch h),fun H8 s8=>?_⟩
 have u:ah H6 H8:=O.trans s8
 have J:=u _ _ d0
 have a2:=u _ _ (b8 _ _ a6)
 have I:Paired (MB H8) (m.map V.ref) (W.filterMap dX):=lx (Paired.mapP U fun _ _ e=>e.same u)
 have R:Paired (MB H8) A (W.filterMap de):=Paired.mapP a4 fun _ _ e=>e.same (b8.trans u)
 have lt:(W.filterMap dX).length<=100:=Jn (List.length_filterMap_le _ _) lW
 have am:∀b∈W.filterMap de,In z b.2.1/\In z b.2.2:=fun b hb=>by
  obtain⟨r,hr,e⟩:=Kd.mp hb
  cases r<;>cases e
  exact⟨ok.bx _ hr _ (by simp[jM]),ok.bx _ hr _ (by simp[jM])⟩
 have ad:∀b∈W.filterMap dX,In z b.2.1/\In z b.2.2:=fun b hb=>by
  obtain⟨r,hr,e⟩:=Kd.mp hb
  cases r<;>cases e
  exact⟨ok.bx _ hr _ (by simp[jM]),ok.bx _ hr _ (by simp[jM])⟩
 refine⟨_,rfl,tl,rfl,⟨_,aH.of J⟩,?_⟩
 refine cG (K:=K) (xs:=m.map V.ref) (fun i σ H'=>∃x6 x7 x8:Option V,σ=[some (.ref l),some (.ref za),some (.ref pr),some (.ref D),some (.ref D2),some (.ref tl),x6,x7,x8,none]/\H8=H') ⟨none,none,none,rfl,rfl⟩ (fun i σ H' _ ⟨_,_,_,_,e⟩=>e▸aH.of J) ?_ ?_
 ·rintro i x σ H' hx ⟨x6,x7,x8,rfl,rfl⟩
  obtain⟨b,hb,t,bx,B,rfl,e1,_,_⟩:=aU I hx
  obtain⟨r,hr,er⟩:=Kd.mp (Jy hb)
  cases r<;>cases er
  have:=ok.tl _ _ hr
  refine⟨t,_,rfl,cn.of e1,rfl,_,_,rfl,_,_,rfl,_,_,rfl,rfl,?_⟩
  exact⟨_,rfl,_,0,rfl,by omega,by omega,_,_,_,rfl,rfl⟩
 rintro σ H' ⟨x6,x7,x8,rfl,rfl⟩
 refine⟨_,rfl,_,rfl,D2,tl,_,_,rfl,rfl,a2,J,by rw[Paired.length R,Paired.length I];omega,fun c nc=>?_⟩
 generalize k9:upd H8 c (.lst (A++m.map V.ref))=H9
 have g:ah H8 H9:=k9▸(ah.refl H8).upd nc
 have av:H9 c=some (.lst (A++m.map V.ref)):=k9▸ae
 have s9:ah H H9:=s6.trans (u.trans g)
 have bc:Paired (MB H9) (A++m.map V.ref) (W.filterMap de++W.filterMap dX):=kY (Paired.mapP R fun _ _ e=>e.same g) (Paired.mapP I fun _ _ e=>e.same g)
 refine⟨c,rfl,⟨_,aH.of av⟩,?_⟩
 refine cG (K:=K) (xs:=A++m.map V.ref) (fun i σ H'=>∃x6 x7 x8 x9:Option V,σ=[some (.ref l),some (.ref za),some (.ref pr),some (.ref D),some (.ref D2),some (.ref tl),x6,x7,x8,x9]/\H9=H') ⟨_,_,_,_,rfl,rfl⟩ (fun i σ H' _ ⟨_,_,_,_,_,e⟩=>e▸aH.of av) ?_ ?_
 ·rintro i x σ H' hx ⟨x6,x7,x8,x9,rfl,rfl⟩
  obtain⟨b,hb,t,bx,B,rfl,e1,e2,e3⟩:=aU bc hx
  obtain⟨i1,i2⟩:In z b.2.1/\In z b.2.2:=by
   rcases Jz.mp (Jy hb) with h|h
   ·exact am b h
   ·exact ad b h
  refine⟨t,_,rfl,cn.of e1,rfl,_,_,rfl,_,_,rfl,_,_,rfl,rfl,?_⟩
  refine⟨_,rfl,_,rfl,za,bx,z,b.2.1,rfl,s9 _ _ M,e2,i1,?_⟩
  exact⟨_,rfl,_,rfl,za,B,z,b.2.2,rfl,s9 _ _ M,e3,i2,_,_,_,_,rfl,rfl⟩
 rintro σ H' ⟨x6,x7,x8,x9,rfl,rfl⟩
 have fd:=ok.fd
 have bi:=u.trans g
 refine⟨_,rfl,_,rfl,_,rfl,_,rfl,D2,A,W.filterMap de,rfl,g _ _ a2,Paired.mapP R (fun _ _ e=>e.same g),fun b hb=>⟨je ok.sz (am b hb).1,je ok.sz (am b hb).2⟩,by omega,fun d1 HA sA nA c1=>?_⟩
 rw[<-yt ok] at c1
 have rf:=sY ok.sz fd.rn fd.ri
 refine⟨d1,_,rfl,c1,trivial,trivial,by show(ng (lZ z W).rs).length<=1000;unfold ng;rw[Jd];exact rf,fun lr ys ed hy hk=>?_⟩
 obtain⟨as,rfl,bb⟩:=Ej (H:=HA) (lZ z W).rs ys (by rw[hy];show(ng (lZ z W).rs).length=_;unfold ng;rw[Jd]) fun i y hy=>by
  obtain⟨v,k,b,e,rfl,hb⟩:=hk i y hy
  unfold ng at e
  rw[JG] at e
  obtain⟨p,hp,e2⟩:=K_.mp e
  cases e2
  unfold iK at hb
  rw[gB] at hb
  exact⟨p,b,hp,rfl,hb⟩
 generalize kB:upd HA lr (.lst (as.map V.ref))=HB
 have a0:ah HA HB:=kB▸(ah.refl HA).upd ed
 have bd:AL HB lr (lZ z W).rs:=⟨as,kB▸ae,bB.same bb a0⟩
 have ac:=sA.trans a0
 refine⟨_,rfl,tl,_,W.filterMap dX,rfl,ac _ _ (g _ _ J),Paired.mapP I (fun _ _ e=>e.same (g.trans ac)),fun b hb=>⟨je ok.sz (ad b hb).1,je ok.sz (ad b hb).2⟩,by omega,fun d2 HC sC nC c4=>?_⟩
 rw[<-yT ok] at c4
 have bm:=ac.trans sC
 have Y:=bi.trans bm
 intro p dx np dP ne
 have sm:ah HC (upd (upd HC dx (.own p)) p (.ins cFloor dx [])):=ik np dP
 have N:=Y.trans sm
 refine⟨p,dx,za,pr,D,lr,d2,lZ z W,rfl,ae,fd,rf,N _ _ (s6 _ _ M),C.up (fun _ e=>N _ _ e) (fun _ _ e=>N _ _ e),N _ _ (Z _ _ ab),bd.same (sC.trans sm),sm _ _ c4,fun H' b4 hF=>⟨rfl,?_⟩⟩
 have sF:ah H H':=(s6.trans Y).trans (bQ.same sm np b4)
 exact q p H' sF (dJ (s6.trans Y) np) hF
theorem CM (F:e_ P w K mg base cBoard "Board" 6 ["self", "floor", "things"] (qE cNet cBundle cFloor cBoard))(G:az P w K mg base "rows_told" 7 ["page"] vU)(C:az P w K mg base "floor_told" 5 ["told"] (pO cFloor))(B:az P w K mg base "thing_told" 5 ["kind", "parts"] (pU cNet cBundle)):ff P w K mg base 8 "read_board" Ek ["page"] (yA cNet cBundle cFloor cBoard):=by
 refine rd ["page", "told", "floor", "things"] fun X _ _ _ _ _ H vs Q E hr h=>?_
 obtain⟨x,z,W,rfl,pg,ok,hb,hT,gk,q⟩:=h
 refine⟨_,(ai (bj 1 X (aO G hr (aB (aj 0)))) (ai (bj 2 X (aO C hr (aB (aj 1)))) (aR (md 3 ["kind", "parts"] [] [] X (aK (aj 1)) (ie (K:=K) (n:=2) rfl rfl (ax (c_ 0) (ax (c_ 1) cf)) rfl rfl) (jy (eU (bN dq (aj 0) aL) (dr (bN dq (aj 0) aL))).pt) (aO (by exact B) (by exact hr) (ay (aj 0) (aj 1)))) (aw (uR F (hr.mono (by decide)) (by rfl) (ay (aj 2) (aj 3))))))),?_⟩
 dsimp only[bE,Cx.nox]
 have A:sizeLine=2^24:=rfl
 refine bK (aX (af (aa rfl) ao) ⟨x,z,W,rfl,pg,ok.sz,ok.ok,fun l us H1 s1 hl O=>?_⟩)
 have lu:us.length<=100:=by rw[Paired.length O];exact EX pg
 refine bK (aX (af (aa rfl) ao) ⟨l,us,z,W,rfl,hl,O,lu,ok,fun f H2 T nf hF=>?_⟩)
 have c:=T _ _ hl
 refine⟨_,rfl,l,rfl,⟨_,aH.of c⟩,fun D nD=>?_⟩
 refine cm (K:=K) (xs:=us) (fun i M H'=>∃(S U:Option V) (ps:List Addr),M=[S,U]/\ah H2 H'/\H' D=some (.lst (ps.map V.ref))/\mn cNet cBundle H' ps (((.floor z::W).take i).filterMap r_)/\ps.length<=i) ⟨none,none,[],rfl,(ah.refl H2).upd nD,ae,.nil,Jg _⟩ (fun i M H' _ ⟨_,_,_,_,s,_⟩=>aH.of (s _ _ c)) ?_ ?_
 ·rintro i v M H' hx ⟨S,U,ps,rfl,s,J,a,y⟩
  obtain⟨r,hr,t,u,rfl,ht,hu⟩:=aU O hx
  have hi:=bO hx
  have o:=T.trans s
  refine⟨t,_,rfl,cn.of (o _ _ ht),rfl,?_⟩
  refine⟨_,_,rfl,gn ?_⟩
  refine⟨_,_,rfl,gn ?_⟩
  refine⟨rfl,?_⟩
  refine iH (fF (iy (j:=5) (aa rfl) (by decide)) fun _=>iy (j:=6) (aa rfl) (by decide)) (rN (fun e=>?_) fun e=>?_)
  ·have Y:kd r=5\/kd r=6:=by simpa using e
   obtain⟨g,hg⟩:=yz.mp Y
   have m:r∈W:=by
    rcases Jo.mp (Jy hr) with rfl|h
    ·cases hg
    ·exact h
   refine aX (af (aa rfl) (af (aa rfl) ao)) ⟨u,r,g,rfl,hu.same o,hg,hT r m g hg,hb r m,fun p H3 I np hA=>?_⟩
   have b:=I _ _ J
   refine⟨_,b,by rw[Jd];omega,_,_,ps++[p],rfl,bf (s.trans I) nD,by rw[ae,Jl];rfl,?_,by rw[Js];show ps.length+1<=_;omega⟩
   rw[aT hr,KL,Ke,hg,List.filterMap_nil]
   have kp:∀{p' g'},pJ cNet cBundle H3 p' g'->pJ cNet cBundle (upd H3 D (.lst (ps.map V.ref++[.ref p]))) p' g':=fun h=>h.up (fun _ _ e=>fj b _ _ e) fun _ _ _ _ e=>by rw[ak (jL e b (fun z=>nomatch z))];exact e
   exact bL (R:=fun p g=>pJ cNet cBundle _ p g) (kp hA) (Paired.mapP a fun _ _ e=>kp (e.same I))
  ·have Y:¬(kd r=5\/kd r=6):=by simpa using e
   have hn:r_ r=none:=by
    cases h:r_ r with
    |none=>rfl
    |some g=>exact absurd (yz.mpr ⟨g,h⟩) Y
   refine⟨_,_,ps,rfl,s,J,?_,by omega⟩
   rw[aT hr,KL,Ke,hn,List.filterMap_nil,JK]
   exact a
 rintro M H3 ⟨S,U,ps,rfl,I,J,a,_⟩
 rw[Paired.length O,JI] at a
 have a:mn cNet cBundle H3 ps (W.filterMap r_):=a
 refine⟨_,rfl,_,rfl,?_⟩
 intro p dx np Z ne
 have N:ah H3 (upd (upd H3 dx (.own p)) p (.ins cBoard dx [])):=ik np Z
 have d:=s1.trans (T.trans I)
 refine⟨p,dx,f,D,ps,W.filterMap r_,lZ z W,rfl,ae,hF.same (I.trans N),ok.sz,N _ _ J,Paired.mapP a (fun _ _ e=>e.same N),gk,fun H' b4 hB=>⟨rfl,?_⟩⟩
 exact q p H' (d.trans (bQ.same N np b4)) (dJ d np) hB
theorem xF (G:az P w K mg base "_law_word" 1 ["spot"] oX):ff P w K mg base 2 "_law_thing_words" u3 ["thing"] p4:=by
 refine rd ["thing", "words"] fun nd _ _ _ _ _ H vs Q E hr h=>?_
 obtain⟨t,a,b,x,cs,ds,rfl,M,ha,hb,r,A,B,C,q⟩:=h
 refine⟨_,(ai (md 1 ["spot"] [] [] nd (aK (aG aF (aj 0) ag)) (c_ 0) cg (aO (by exact G) (by exact hr) (aB (aj 0)))) (aR (cj (bN (sW hr) (aG aF (aj 0) ag) (aW dv)) (aw (au fA (aW (aA aL (aA (aG aF (aj 0) ag) (ay aL aL)))) (aj 1)))) (aw (au fA (au fA (au fA (aW (aA aL (ay (aG aF (aj 0) ag) aL))) (aj 1)) (aW (aB aL))) (fW ["spot"] [] [] (aK (aG aF (aj 0) ag)) (c_ 0) cg (aO (by exact G) (by exact hr) (aB (aj 0)))))))),?_⟩
 dsimp only[bE,Cx.nox]
 have F:sizeLine=2^24:=rfl
 obtain⟨as,u,_⟩:=id ha
 obtain⟨bs,n,g⟩:=id hb
 refine(d_ (K:=K) (aa rfl) aq (cn.of M) (bI (j:=1) rfl)) _ ⟨a,rfl,⟨_,aH.of u⟩,fun D nD=>?_⟩
 refine rG ha nD r (by lia) fun H1 N T=>?_
 refine kJ (tQ (K:=K) (fun H2 s=>d_ (K:=K) (aa rfl) aq (cn.of ((N.trans s) _ _ M)) (bI (j:=2) rfl)) (N _ _ n)) (fun e H2 I=>?_) fun e H2 I=>?_
 ·have R:ds=[]:=by
   have l:=Paired.length g
   rw[Jd] at l
   have:bs=[]:=by cases bs with|nil=>rfl|cons _ _=>cases e
   rw[this] at l
   exact List.length_eq_zero_iff.mp l.symm
  subst R
  have d:=N.trans I
  refine cU (dM (gH (vs:=[.str (Str.ofString "net"),sv x,.str (Str.ofString "0"),.str (Str.ofString "0")]) (af aq (af (d_ (K:=K) (aa rfl) aq (cn.of (d _ _ M)) (bI (j:=0) rfl)) (af aq (af aq ao)))) (by show 4<=sizeLine;decide) fun l1 O=>?_))
  have s3:=d.upd (o:=.lst [.str (Str.ofString "net"),sv x,.str (Str.ofString "0"),.str (Str.ofString "0")]) O
  refine(aa rfl) _ ⟨l1,D,_,_,rfl,rfl,ae,by rw[ak (ar (I _ _ T) O)];exact I _ _ T,by rw[Jd,Jd];show 4+cs.length<=_;lia,fun c J=>?_⟩
  refine q c _ (s3.upd J) (dJ s3 J) ?_
  rw[if_pos rfl]
  unfold WL
  rw[ae]
  have U:V.str (Str.ofString "net")=sv (cp (kS 5)):=by kernel_rfl
  have Z:V.str (Str.ofString "0")=sv [48]:=by kernel_rfl
  rw[U,Z];rfl
 ·have R:ds≠[]:=fun z=>by
   rw[z] at g
   cases g
   cases e
  have d:=N.trans I
  refine cU (dM (dM (dM (gH (vs:=[.str (Str.ofString "bundle"),sv x,.str (Str.ofString "0")]) (af aq (af (d_ (K:=K) (aa rfl) aq (cn.of (d _ _ M)) (bI (j:=0) rfl)) (af aq ao))) (by show 3<=sizeLine;decide) fun l1 O=>?_))))
  generalize k3:upd H2 l1 (.lst [.str (Str.ofString "bundle"),sv x,.str (Str.ofString "0")])=H3
  have m:ah H2 H3:=k3▸(ah.refl H2).upd O
  have h3:H3 l1=some (.lst [.str (Str.ofString "bundle"),sv x,.str (Str.ofString "0")]):=k3▸ae
  refine(aa rfl) _ ⟨l1,D,_,_,rfl,rfl,h3,m _ _ (I _ _ T),by rw[Jd,Jd];show 3+cs.length<=_;lia,fun X n2=>?_⟩
  generalize k4:upd H3 X (.lst ([.str (Str.ofString "bundle"),sv x,.str (Str.ofString "0")]++(cs.map eN).map sv))=H4
  have v:ah H3 H4:=k4▸(ah.refl H3).upd n2
  have h4:H4 X=some (.lst ([.str (Str.ofString "bundle"),sv x,.str (Str.ofString "0")]++(cs.map eN).map sv)):=k4▸ae
  refine gH (vs:=[.str (Str.ofString "to")]) (af aq ao) (by show 1<=sizeLine;decide) fun S n3=>?_
  generalize k5:upd H4 S (.lst [.str (Str.ofString "to")])=H5
  have p:ah H4 H5:=k5▸(ah.refl H4).upd n3
  have h5:H5 S=some (.lst [.str (Str.ofString "to")]):=k5▸ae
  refine⟨X,S,_,_,rfl,rfl,p _ _ h4,h5,by rw[Js,Jd,Jd];show 3+cs.length+1<=_;lia,fun W n6=>?_⟩
  generalize k6:upd H5 W (.lst ([.str (Str.ofString "bundle"),sv x,.str (Str.ofString "0")]++(cs.map eN).map sv++[.str (Str.ofString "to")]))=H6
  have y:ah H5 H6:=k6▸(ah.refl H5).upd n6
  have h6:H6 W=some (.lst ([.str (Str.ofString "bundle"),sv x,.str (Str.ofString "0")]++(cs.map eN).map sv++[.str (Str.ofString "to")])):=k6▸ae
  have f:=d.trans (m.trans (v.trans (p.trans y)))
  refine(d_ (K:=K) (aa rfl) aq (cn.of (f _ _ M)) (bI (j:=2) rfl)) _ ⟨b,rfl,⟨_,aH.of (f _ _ n)⟩,fun D2 Y=>?_⟩
  refine rG (hb.same f) Y A (by lia) fun H7 s7 ab=>?_
  refine⟨W,D2,_,_,rfl,rfl,s7 _ _ h6,ab,by simp;lia,fun c J=>?_⟩
  have i:=f.trans s7
  refine q c _ (i.upd J) (dJ i J) ?_
  rw[if_neg R]
  unfold WL
  rw[ae]
  have U:V.str (Str.ofString "bundle")=sv (cp (kS 6)):=by kernel_rfl
  have Z:V.str (Str.ofString "0")=sv [48]:=by kernel_rfl
  have e3:V.str (Str.ofString "to")=sv (L "to"):=by kernel_rfl
  rw[U,Z,e3]
  unfold iM mz
  simp[Jl,kd]
theorem tR (b0:az P w K mg base "_law_spot_at" 1 ["sizes", "number"] kN):ff P w K mg base 2 "_law_things" rT ["sizes", "rocks", "heads"] nz:=by
 refine rd ["sizes", "rocks", "heads", "left", "number", "spot", "turn", "things", "k", "many", "ends", "cut"] fun nd _ _ _ _ _ H vs Q E hr h=>?_
 obtain⟨za,rd,hl,z,J,hs,rfl,R,sz,be,an,h3,q⟩:=h
 refine⟨_,(ai (bj 3 nd (aW dv)) (ai (dB (oJ T.range_ (aB (au gw (au gw (aG aF (aj 0) ag) (aG aF (aj 0) ag)) (aG aF (aj 0) ag)))) (bh 4 nd) (aR (bj 5 nd (aO b0 hr (ay (aj 0) (aj 4)))) (cj (An (w_ (bT.one hr) (aj 5) (aj 1))) (aM (cY JP J4 J5 bP (aj 3) (aB (aj 5))))))) (ai (bj 6 nd (au bF (aG aC (aj 2) ag) (a9 (dA rfl) T.max_ (ay ag (a9 aV T.len_ (aB (aj 3))))))) (ai (bj 3 nd (au fA (bz bU (aj 3) (bu (aj 6)) cR) (bz bU (aj 3) cR (bu (aj 6))))) (ai (bj 7 nd (aW dv)) (aR (dB (oJ T.range_ (aB ag)) (bh 8 nd) (ai (bj 9 nd (au aZ ag (au bF (au bG (aG aC (aj 2) (aj 8)) ag) ag))) (ai (bj 10 nd (bz bU (aj 3) cR (bu (aj 9)))) (aR (bj 3 nd (bz bU (aj 3) (bu (aj 9)) cR)) (ji (ud (bN dq (a9 aV T.len_ (aB (aj 10))) (aj 9)) (oG (bN qF (au bF (au bG (aG aC (aj 2) (aj 8)) ag) ag) ag))).pt (ai (bj 11 nd (aG aC (aW (ay (aj 9) (au aZ ag (au bF (au bG (aG aC (aj 2) (aj 8)) ag) (au bG (aj 9) ag))))) (au bF (aG aC (aj 2) (aj 8)) ag))) (aR (aM (Bo JP PySem.F.slot_list_reverse PySem.F.type_list_reverse tZ (aj 10))) (aM (cY JP J4 J5 bP (aj 7) (aB (cE (aA (aG aC (aW (aA aL (ay aL aL))) (aj 8)) (ay (bz bU (aj 10) cR (bu (aj 11))) (bz bU (aj 10) (bu (aj 11)) cR))))))))) jg))))) (aw (aj 7)))))))),?_⟩
 dsimp only[bE,Cx.nox]
 have bm:sizeLine=2^24:=rfl
 obtain⟨z1,z2,z3⟩:=id sz
 have m2:z.1*z.2.1*z.2.2<=105:=Lm (Lm z1.2 z2.2) z3.2
 refine c8 fun R9 h9=>fh [] ao (JA _) fun lf H1 s1 nf dc=>h9 _ _ ?_
 clear h9 R9
 refine kf fun R9 h9=>?_
 refine oO (j:=((z.1*z.2.1*z.2.2:Nat):Int)) (af (bg (bJ (bJ (cy rfl (s1 _ _ R) rfl) (cy rfl (s1 _ _ R) rfl) (Cq (by lia) (by lia))) (cy rfl (s1 _ _ R) rfl) (Cq (by lia) (by lia))) (by push_cast;rfl)) ao) (by lia) (by lia) ?_
 rw[Kh]
 refine cK (n:=z.1*z.2.1*z.2.2) (fun i σ H'=>∃(x4 x5:Option V) (ps:List P3),σ=[some (.ref za),some (.ref rd),some (.ref hl),some (.ref lf),x4,x5,none,none,none,none,none,none]/\ah H H'/\AL H' lf ps/\ps.length<=i/\ps.Nodup/\∀p∈ps,(In z p/\(cA J (iK (t3 p))).isSome=false)/\(p.1*z.2.1+p.2.1)*z.2.2+p.2.2<i) ⟨none,none,[],rfl,s1,⟨[],dc,.nil⟩,Jg _,Lk,fun _ h=>nomatch h⟩ ?_ ?_
 ·rintro i σ H2 hi ⟨x4,x5,ps,rfl,s2,⟨as,A,B⟩,a6,nd,r⟩
  refine gn ?_
  refine bK (aX (af (aa rfl) (af (aa rfl) ao)) ⟨za,z,_,rfl,s2 _ _ R,sz,by lia,by lia,fun t p H3 s3 hA hI hn=>?_⟩)
  have u:=s2.trans s3
  have la:as.length=ps.length:=by rw[Paired.length B,Jd]
  refine i9 (aE (wR (aa rfl) (aa rfl) (vh (u _ _ be) hA))) (fun e=>?_) (fun e=>?_)
  ·have hv:(cA J (iK (t3 p))).isSome=false:=by simpa using e
   refine fD (aa rfl) (.inl ⟨rfl,_,aH.of (s3 _ _ A)⟩) (dG (aa rfl) ⟨lf,_,_,rfl,rfl,s3 _ _ A,by rw[Jd];lia,?_⟩)
   refine⟨_,_,ps++[p],rfl,bf u nf,⟨as++[t],by rw[ae,Jl];rfl,?_⟩,by rw[Js];show ps.length+1<=_;lia,?_,?_⟩
   ·rw[Jl]
    exact fm (f6 (bB.same B s3) (.cons hA .nil)) (fj (s3 _ _ A))
   ·rw[K1]
    refine⟨nd,by simp,fun a ha b hb e=>?_⟩
    rw[Jv.mp hb] at e
    have:=(r a ha).2
    rw[e] at this
    lia
   ·intro p' c4
    rcases Jz.mp c4 with h|h
    ·exact⟨(r p' h).1,by have:=(r p' h).2;lia⟩
    ·rw[Jv.mp h];exact⟨⟨hI,hv⟩,by lia⟩
  ·exact⟨_,_,ps,rfl,u,⟨as,s3 _ _ A,bB.same B s3⟩,by lia,nd,fun p' h=>⟨(r p' h).1,by have:=(r p' h).2;lia⟩⟩
 rintro σ H2 ⟨x4,x5,ps,rfl,s2,⟨as,A,B⟩,a6,nd,r⟩
 refine h9 _ _ ?_
 clear h9 R9
 obtain⟨a0,a1,a2,rfl⟩:=IY h3
 have la:as.length=ps.length:=by rw[Paired.length B,Jd]
 have mp:0<(if (((as.map V.ref).length:Nat):Int)>1 then (((as.map V.ref).length:Nat):Int) else 1):=by split<;>lia
 obtain⟨k,hk,ew⟩:∃k:Nat,a0%(if (((as.map V.ref).length:Nat):Int)>1 then (((as.map V.ref).length:Nat):Int) else 1)=(k:Nat)/\k<=as.length:=by
  have p0:=K3 a0 (Int.ne_of_gt mp)
  have p1:=Lg a0 mp
  obtain⟨k,hk⟩:=Lr p0
  refine⟨k,hk,?_⟩
  rw[hk] at p1
  rw[Jd] at p1
  split at p1<;>lia
 refine fI (v:=.int (k:Nat)) (bg (bJ (g:=fun i j=> .int (i%j)) (bw (aa rfl) aq (aH.of (s2 _ _ an)) (bI (j:=0) rfl)) (cZ (af aq (af (eV (K:=K) (aa rfl) A) ao)) fun Q' q'=>⟨_,_,rfl,q'⟩) mp) (congrArg V.int hk)) ?_
 refine c8 fun R9 h9=>dM (pk (K:=K) ((as.drop k).map V.ref) (aa rfl) (aa rfl) (aH.of A) KJ fun l3 H3 u n3 cq=>oz (K:=K) ((as.take k).map V.ref) (aa rfl) (aa rfl) (aH.of (u _ _ A)) KI fun l4 H4 b5 n4 cr=>⟨l3,l4,_,_,rfl,rfl,b5 _ _ cq,cr,by rw[Jd,Jd,Ka,JB];lia,fun l5 n5=>?_⟩)
 have W:ah H4 (upd H4 l5 (.lst ((as.drop k).map V.ref++(as.take k).map V.ref))):=(ah.refl H4).upd n5
 have h5:AL (upd H4 l5 (.lst ((as.drop k).map V.ref++(as.take k).map V.ref))) l5 (ps.drop k++ps.take k):=⟨as.drop k++as.take k,by rw[ae,Jl],by
  have ad:=u.trans (b5.trans W)
  rw[Jl (f:=t3),KJ (f:=t3),KI (f:=t3)]
  exact f6 (bB.same (fP k B) ad) (bB.same (fO k B) ad)⟩
 have I:=s2.trans (u.trans (b5.trans W))
 revert h5 I
 clear W
 generalize upd H4 l5 _=H5
 intro h5 I
 refine h9 _ _ ?_
 clear h9 R9 n5 cr b5 n4 cq u n3
 have N:(ps.drop k++ps.take k).Nodup:=(LI.nodup_iff).mpr (by rw[Kw];exact nd)
 have O:∀p∈ps.drop k++ps.take k,In z p/\(cA J (iK (t3 p))).isSome=false:=fun p hp=>by
  rcases Jz.mp hp with h|h
  ·exact(r p (List.mem_of_mem_drop h)).1
  ·exact(r p (LM h)).1
 revert h5 N O
 generalize ps.drop k++ps.take k=L5
 intro h5 N O
 clear r B nd
 refine c8 fun R9 h9=>fh [] ao (JA _) fun th H6 b8 jN h6=>h9 _ _ ?_
 clear h9 R9
 have x0:xP H z J th l5 L5 [] [] 0 H6:=⟨I.trans b8,h5.same b8,by obtain⟨_,e,_⟩:=h5;exact ar e jN,h6,.nil,List.Sublist.refl _,N,O,(fun _ h=>nomatch h),fun _ h=>nomatch h⟩
 have X:H th=none:=dJ I jN
 refine eO (σ':=tS za rd hl l5 th x4 x5 (some (.int (k:Nat))) none none none none) (by kernel_rfl) ?_
 refine jc (j:=3) (af aq ao) (by decide) (by decide) ?_
 refine cK (n:=3) (Iz H z J za rd hl th) ⟨_,_,_,_,_,_,_,_,_,_,_,x0,Jg _⟩ ?_ ?_
 ·clear x0 h5 N O I b8 h6
  rintro i σ H7 hi ⟨x4,x5,x6,x8,x9,U,d,l,rest,us,gs,x,lu⟩
  refine gn ?_
  refine eO (σ':=tS za rd hl l th x4 x5 x6 (some (.int (i:Nat))) x9 U d) (by rw[show(0:Int)+(i:Nat)=(i:Nat) by lia];rfl) ?_
  obtain⟨a,ha⟩:∃a,[a0,a1,a2][i]?=some a:=⟨_,JL hi⟩
  have bc:jW ([a0,a1,a2].map V.int) (i:Nat)=some (.int a):=bI (by rw[JG,ha];rfl)
  have S:∀{σ:St} {H':Hp},ah H7 H'->σ[2]?=some (some (.ref hl))->σ[8]?=some (some (.int (i:Nat)))->Ev (fZ (lD K) (dE 2) (dE 8)) σ H' (.int a):=fun s e1 e2=>bw (aa e1) (aa e2) (aH.of (s _ _ (x.sm _ _ an))) bc
  obtain⟨m,hm,m2,m6⟩:∃m:Nat,2+a/2%5=((m:Nat):Int)/\2<=m/\m<=6:=⟨(2+a/2%5).toNat,by lia,by lia,by lia⟩
  refine fI (v:=.int (m:Nat)) (bg (br (g:=fun i j=> .int (i+j)) aq (bJ (g:=fun i j=> .int (i%j)) (bJ (g:=fun i j=> .int (i/j)) (S (ah.refl H7) rfl rfl) aq (mL (by decide) (by decide))) aq (by show(0:Int)<_;decide))) (by show V.int (2+a/2%5)=_;rw[hm])) ?_
  refine eO (σ':=tS za rd hl l th x4 x5 x6 (some (.int (i:Nat))) (some (.int (m:Nat))) U d) (by kernel_rfl) ?_
  obtain⟨rs,Y,ab⟩:=id x.hl
  refine c8 fun R9 h9=>oz (K:=K) ((rs.take m).map V.ref) (aa rfl) (aa rfl) (aH.of Y) KI fun le H8 s8 ne cx=>h9 _ _ ?_
  clear h9 R9
  refine eO (σ':=tS za rd hl l th x4 x5 x6 (some (.int (i:Nat))) (some (.int (m:Nat))) (some (.ref le)) d) (by kernel_rfl) ?_
  refine c8 fun R9 h9=>pk (K:=K) ((rs.drop m).map V.ref) (aa rfl) (aa rfl) (aH.of (s8 _ _ Y)) KJ fun lr H9 s9 nr c0=>h9 _ _ ?_
  clear h9 R9
  refine eO (σ':=tS za rd hl lr th x4 x5 x6 (some (.int (i:Nat))) (some (.int (m:Nat))) (some (.ref le)) d) (by kernel_rfl) ?_
  have C:=s8.trans s9
  have bb:=x.same C
  have a3:lr≠th:=(dD (s8 _ _ x.ht) nr).symm
  have bo:le≠th:=(dD x.ht ne).symm
  have ac:=s9 _ _ cx
  have bl:lr≠le:=(dD cx nr).symm
  have ap:AL H9 lr (rest.drop m):=⟨rs.drop m,c0,by rw[KJ];exact bB.same (fP m ab) C⟩
  have am:bB H9 (rs.take m) ((rest.take m).map t3):=by rw[KI];exact bB.same (fO m ab) C
  have bd:(rs.take m).length=(rest.take m).length:=by rw[Paired.length am,Jd]
  refine i9 (o8 (aE (gS (eV (K:=K) (aa rfl) ac) (aa rfl))) fun _=>aE (zw (i:=a/10%4) (j:=0) (bJ (g:=fun i j=> .int (i%j)) (bJ (g:=fun i j=> .int (i/j)) (S C rfl rfl) aq (mL (by decide) (by decide))) aq (by show(0:Int)<_;decide)) aq)) (fun e=>?_) fun _=>?_
  ·have hk:(rest.take m).length=m:=by
    have:=(Bool.and_eq_true_iff.mp e).1
    rw[Jd,bd] at this
    have:=of_decide_eq_true this
    lia
   obtain⟨c,hv,hc⟩:∃c:Nat,jW [V.int (m:Nat),V.int (1+a/40%((m:Nat)/2:Int))] (a%2)=some (.int (c:Nat))/\(c=m\/(1<=c/\2*c<=m)):=by
    rcases(by lia:a%2=0\/a%2=1) with e|e
    ·exact⟨m,by rw[e];rfl,.inl rfl⟩
    ·have p0:(0:Int)<(m:Nat)/2:=by lia
     have p1:=K3 (a/40) (Int.ne_of_gt p0)
     have p2:=Lg (a/40) p0
     refine⟨(1+a/40%((m:Nat)/2:Int)).toNat,?_,.inr ⟨by lia,by lia⟩⟩
     rw[e,Int.toNat_of_nonneg (by lia)];rfl
   have m0:(0:Int)<(m:Nat)/2:=by lia
   refine bK (jS (K:=K) (i:=a%2) (vs:=[V.int (m:Nat),V.int (1+a/40%((m:Nat)/2:Int))]) (af (aa rfl) (af (br (g:=fun i j=> .int (i+j)) aq (bJ (g:=fun i j=> .int (i%j)) (bJ (g:=fun i j=> .int (i/j)) (S C rfl rfl) aq (mL (by decide) (by decide))) (bJ (g:=fun i j=> .int (i/j)) (aa rfl) aq (mL (by decide) (by decide))) m0)) ao)) (by show 2<=sizeLine;decide) (fun H' s=>bJ (g:=fun i j=> .int (i%j)) (S (C.trans s) rfl rfl) aq (by show(0:Int)<_;decide)) hv fun H10 bW=>?_)
   try dsimp only
   refine eO (σ':=tS za rd hl lr th x4 x5 x6 (some (.int (i:Nat))) (some (.int (m:Nat))) (some (.ref le)) (some (.int (c:Nat)))) (by kernel_rfl) ?_
   have F:=bW _ _ ac
   refine kf fun R9 h9=>fM (yX (aa rfl) (.inl ⟨rfl,_,aH.of F⟩) ⟨le,_,rfl,rfl,F,?_⟩)
   rw[<-List.map_reverse]
   have up:∀b o,b≠le->H10 b=some o->upd H10 le (.lst ((rs.take m).reverse.map V.ref)) b=some o:=fun b o h e=>by rw[ak h];exact e
   have sx:ah H7 (upd H10 le (.lst ((rs.take m).reverse.map V.ref))):=bf (C.trans bW) ne
   have d:=x.same sx
   have M:=(ap.same bW).keep bl up F
   have D:bB (upd H10 le (.lst ((rs.take m).reverse.map V.ref))) (rs.take m).reverse ((rest.take m).reverse.map t3):=by
    have p9:=tO am
    rw[<-List.map_reverse] at p9
    exact Paired.mapP p9 fun b c e=>up _ _ (iD (bW _ _ e) F fun z=>nomatch z) (bW _ _ e)
   have G:upd H10 le (.lst ((rs.take m).reverse.map V.ref)) le=some (.lst ((rs.take m).reverse.map V.ref)):=ae
   clear sx
   revert d M D G
   clear up
   generalize upd H10 le (.lst ((rs.take m).reverse.map V.ref))=ez
   intro d M D G
   refine h9 _ _ ?_
   clear h9 R9
   obtain⟨y,hy⟩:∃y,Hv[i]?=some y:=⟨_,JL hi⟩
   have bi:[V.str (Str.ofString "na"),V.str (Str.ofString "to"),V.str (Str.ofString "mb")][i]?=some (sv y):=by
    have e:[V.str (Str.ofString "na"),V.str (Str.ofString "to"),V.str (Str.ofString "mb")]=Hv.map sv:=by kernel_rfl
    rw[e,JG,hy];rfl
   refine fM (fD (aa rfl) (.inl ⟨rfl,_,aH.of d.ht⟩) (aN (C8 (aN (jS (K:=K) (i:=(i:Nat)) (vs:=[V.str (Str.ofString "na"),V.str (Str.ofString "to"),V.str (Str.ofString "mb")]) (af aq (af aq (af aq ao))) (by show 3<=sizeLine;decide) (fun H' s=>aa rfl) (bI bi) fun H12 b1=>aN (oz (K:=K) (((rs.take m).reverse.take c).map V.ref) (aa rfl) (aa rfl) (aH.of (b1 _ _ G)) KI fun la H13 cc na e2=>aN (pk (K:=K) (((rs.take m).reverse.drop c).map V.ref) (aa rfl) (aa rfl) (aH.of (cc _ _ (b1 _ _ G))) KJ fun lb H14 db c7 e3=>⟨by show 3<=sizeLine;decide,fun t nt=>?_⟩)))))))
   have av:=(ah.refl H14).upd (o:=.tup [sv y,.ref la,.ref lb]) nt
   have sA:=db.trans av
   have sB:=b1.trans (cc.trans sA)
   have a7:la≠th:=(dD (b1 _ _ d.ht) na).symm
   have a4:lb≠th:=(dD ((b1.trans cc) _ _ d.ht) c7).symm
   have Z:=d.same sB
   have a5:=M.same sB
   refine⟨th,us,_,rfl,rfl,Z.ht,by lia,⟨_,_,_,_,_,_,_,_,_,_,_,Z.add X a5 a3 hy hk m2 m6 hc ae ⟨_,sA _ _ e2,?_⟩ ⟨_,av _ _ e3,?_⟩ a7 a4,by rw[Js];show us.length+1<=_;lia⟩⟩
   ·have p1:=fO c (bB.same D sB)
    rw[<-KI] at p1;exact p1
   ·have p1:=fP c (bB.same D sB)
    rw[<-KJ] at p1;exact p1
  ·exact⟨_,_,_,_,_,_,_,_,_,_,_,bb.go ap a3,by lia⟩
 ·rintro σ H7 ⟨x4,x5,x6,x8,x9,U,d,l,rest,us,gs,x,lu⟩
  exact cU (b9 (aa rfl) (q th us gs H7 x.sm X x.ht x.out.1 x.out.2))
theorem Dd(g:az P w K mg base "_law_same" nn ["found", "due"] (gZ nn)):ff P w K mg base (nn+1) "_law_same" DY ["found", "due"] (gZ (nn+1)):=by
 refine rd ["found", "due", "k"] fun I _ _ _ _ _ H vs Q E hr h=>?_
 obtain⟨v,w,rfl,hd,q⟩:=h
 refine⟨_,(ai (ji (eU (cJ (a9 bH T.isinstance_ (ay (aj 1) (eg (v:=.ty "list") (by rfl) T.list_ jZ (by rfl))))) (dr (cJ (a9 bH T.isinstance_ (ay (aj 1) (eg (v:=.ty "tuple") (by rfl) T.tuple_ kz (by rfl))))))).pt (ai (cj (eU (bN fQ (a9 bH T.isinstance_ (ay (aj 1) (eg (v:=.ty "list") (by rfl) T.list_ jZ (by rfl)))) (a9 bH T.isinstance_ (ay (aj 0) (eg (v:=.ty "list") (by rfl) T.list_ jZ (by rfl))))) (dr (bN fQ (a9 bH T.isinstance_ (ay (aj 1) (eg (v:=.ty "tuple") (by rfl) T.tuple_ kz (by rfl)))) (a9 bH T.isinstance_ (ay (aj 0) (eg (v:=.ty "tuple") (by rfl) T.tuple_ kz (by rfl))))))).pt (aw dH)) (ai (cj (bN fQ (a9 aV T.len_ (aB (aj 0))) (a9 aV T.len_ (aB (aj 1)))) (aw dH)) (aR (dB (oJ T.range_ (aB (a9 aV T.len_ (aB (aj 1))))) (bh 2 I) (aD (cj (bY (cJ (aO g hr (ay (aG As (aj 0) (aj 2)) (aG As (aj 1) (aj 2)))))) (aw dH)))) (aw dH)))) jg) (aR (cj (cJ (a9 bH T.isinstance_ (ay (aj 1) (eg (v:=.ty "str") (by rfl) T.str_ zZ (by rfl))))) (aw (jE (a9 bH T.isinstance_ (ay (aj 0) (eg (v:=.ty "str") (by rfl) T.str_ zZ (by rfl)))) (kx (w6 dq (aj 0) (aj 1)))))) (aw (jE (a9 bH T.isinstance_ (ay (aj 0) (eg (v:=.ty "int") (by rfl) T.int_ E3 (by rfl)))) (jE (Af (a9 bH T.isinstance_ (ay (aj 0) (eg (v:=.ty "bool") (by rfl) T.bool_ DC (by rfl))))) (kx (w6 dq (aj 0) (aj 1)))))))),?_⟩
 dsimp only[bE,Cx.nox]
 have f:sizeLine=2^24:=rfl
 have is:∀{s:String} {n:Nat} {x:V} {t:Value} {b:Bool} {σ:St} {H':Hp},σ[n]?=some (some x)->gi K H' x t->JN K t (.type s)=some b->Ev (oC (fun xs H Q=>∃x y c t b,xs=[x,y]/\we y c/\gi K H x t/\JN K t c=some b/\Q (.bl b) H) (b_ (dE n) (b_ (tC (.ty s)) eG))) σ H' (.bl b):=fun{s n x t b σ H'} F ty e=>nU ty e (.ty s) (aa F) aq
 rcases hd with ⟨i,rfl,rfl⟩|⟨x,rfl,rfl⟩|⟨a,b,vs,l,rfl,rfl,r,N,B⟩
 ·refine c6 (fF (jm (is rfl (.int i) T.kil)) fun _=>jm (is rfl (.int i) T.kit)) rfl ?_
  refine c6 (jm (is rfl (.int i) T.kis)) rfl ?_
  refine cU (b9 (bg (c:=.bl true) (iF (is rfl (.int i) T.kii) fun _=>iF (Fl (is rfl (.int i) T.kib)) fun _=>gS (i:=i) (j:=i) (aa rfl) (aa rfl)) (by simp)) (q H (ah.refl H)))
 ·refine c6 (fF (jm (is rfl (.str x) T.ksl)) fun _=>jm (is rfl (.str x) T.kst)) rfl ?_
  refine fw (jm (is rfl (.str x) T.kss)) (fun _=>?_) fun e=>nomatch e
  refine cU (b9 (bg (c:=.bl true) (iF (is rfl (.str x) T.kss) fun _=>jA (x:=x) (y:=x) (aa rfl) (aa rfl)) (by simp)) (q H (ah.refl H)))
 ·obtain⟨t,m,bt,ty,p,u,D⟩:∃(t:Value) (m bt:Bool),(∀H',ah H H'->(gi K H' (.ref a) t/\gi K H' (.ref b) t)/\Hs K H' a vs/\Hs K H' b l)/\JN K t (.type "list")=some m/\JN K t (.type "tuple")=some bt/\(m||bt)=true:=by
   rcases r with ⟨h1,h2⟩|⟨h1,h2⟩
   ·exact⟨_,_,_,fun H' s=>⟨⟨.lst (s _ _ h1),.lst (s _ _ h2)⟩,.inl (aH.of (s _ _ h1)),.inl (aH.of (s _ _ h2))⟩,T.kll,T.klt,rfl⟩
   ·exact⟨_,_,_,fun H' s=>⟨⟨.tup (s _ _ h1),.tup (s _ _ h2)⟩,.inr (cn.of (s _ _ h1)),.inr (cn.of (s _ _ h2))⟩,T.ktl,T.ktt,rfl⟩
  obtain⟨⟨ta,tb⟩,qa,o⟩:=ty H (ah.refl H)
  have J:vs.length=l.length:=Paired.length B
  refine fw (fF (jm (is rfl tb p)) fun _=>jm (is rfl tb u)) (fun _=>?_) fun e=>by rw[D] at e;cases e
  refine c6 (fF (aE (zS (is rfl tb p) (is rfl ta p))) fun _=>aE (zS (is rfl tb u) (is rfl ta u))) (by cases m<;>cases bt<;>rfl) ?_
  refine c6 (aE (gR (oR (aa rfl) qa) (oR (aa rfl) o))) (by rw[J];simp) ?_
  refine jc (j:=((l.length:Nat):Int)) (af (oR (aa rfl) o) ao) (by lia) (by lia) ?_
  rw[Kh]
  refine cK (n:=l.length) (fun i σ H'=>∃z:Option V,σ=[some (.ref a),some (.ref b),z]/\ah H H') ⟨_,rfl,ah.refl H⟩ ?_ ?_
  ·rintro i σ H' hi ⟨z,rfl,s⟩
   refine gn ?_
   obtain⟨x,A⟩:∃x,vs[i]?=some x:=⟨_,JL (by lia)⟩
   obtain⟨y,M,d⟩:=aU B A
   refine eO (σ':=[some (.ref a),some (.ref b),some (.int (i:Nat))]) (by rw[show(0:Int)+(i:Nat)=(i:Nat) by lia];rfl) ?_
   refine iL (DG (v:=x) (w:=y) (fun H1 C=>?_) (d.same s)) (fun e=>nomatch e) fun _ H2 G=>⟨_,rfl,s.trans G⟩
   obtain⟨_,qa,o⟩:=ty H1 (s.trans C)
   exact af (zK (aa rfl) (aa rfl) qa (bI A)) (af (zK (aa rfl) (aa rfl) o (bI M)) ao)
  ·rintro σ H' ⟨z,rfl,s⟩
   exact q H' s
theorem Av (C:az P w K mg base "_law_same" 5 ["found", "due"] (gZ 5)):ff P w K mg base 6 "_law_things_good" zC ["found", "things"] (vT cNet cBundle):=by
 refine rd ["found", "things", "k"] fun nd _ _ _ _ _ H vs Q E hr h=>?_
 obtain⟨l,m,ps,us,gs,rfl,U,Z,S,hu,ln,l3,q⟩:=h
 refine⟨_,(ai (cj (eU (bY (cJ (a9 bH T.isinstance_ (ay (aj 0) (eg (v:=.ty "list") (by rfl) T.list_ jZ (by rfl)))))) (dr (bN fQ (a9 aV T.len_ (aB (aj 0))) (a9 aV T.len_ (aB (aj 1)))))).pt (aw dH)) (aR (dB (oJ T.range_ (aB (a9 aV T.len_ (aB (aj 1))))) (bh 2 nd) (aR (cj (bY (cJ (aO C hr (ay (aW (aA (bC (aG aC (aj 0) (aj 2)) rfl) (ay (bC (aG aC (aj 0) (aj 2)) rfl) (bC (aG aC (aj 0) (aj 2)) rfl)))) (aW (aA (aG aF (aG aC (aj 1) (aj 2)) ag) (ay ag ag))))))) (aw dH)) (ji (bN (sW hr) (aG aF (aG aC (aj 1) (aj 2)) ag) (aW dv)) (aD (cj (eU (bY (cJ (a9 bH T.isinstance_ (ay (aG aC (aj 0) (aj 2)) (jj (by rfl) T.mg_Net))))) (dr (bY (cJ (aO C hr (ay (bC (aG aC (aj 0) (aj 2)) rfl) (dR cu T.tuple_ (aB (aG aF (aG aC (aj 1) (aj 2)) ag))))))))).pt (aw dH))) (aD (ji (eU (bY (cJ (a9 bH T.isinstance_ (ay (aG aC (aj 0) (aj 2)) (jj (by rfl) T.mg_Bundle))))) (dr (bY (cJ (aO C hr (ay (bC (aG aC (aj 0) (aj 2)) rfl) (dR cu T.tuple_ (aB (aG aF (aG aC (aj 1) (aj 2)) ag))))))))).pt (aD (aw dH)) (aD (cj (bY (cJ (aO C hr (ay (bC (aG aC (aj 0) (aj 2)) rfl) (dR cu T.tuple_ (aB (aG aF (aG aC (aj 1) (aj 2)) ag))))))) (aw dH)))))))) (aw dH))),?_⟩
 dsimp only[bE,Cx.nox]
 have A:sizeLine=2^24:=rfl
 have lp:ps.length=gs.length:=by rw[Paired.length Z,Jd]
 have lu:us.length=gs.length:=Paired.length hu
 refine c6 (fF (gU (jm (nU (.lst U) T.kll (.ty "list") (aa rfl) aq))) fun _=>aE (gR (eV (K:=K) (aa rfl) U) (eV (K:=K) (aa rfl) S))) (by rw[Jd,lp,lu];simp) ?_
 refine jc (j:=((us.length:Nat):Int)) (af (eV (K:=K) (aa rfl) S) ao) (by lia) (by lia) ?_
 rw[Kh]
 refine cK (n:=us.length) (fun i σ H'=>∃N:Option V,σ=[some (.ref l),some (.ref m),N]/\ah H H') ⟨_,rfl,ah.refl H⟩ ?_ ?_
 ·rintro i σ H' hi ⟨N,rfl,s⟩
  refine gn ?_
  refine eO (σ':=[some (.ref l),some (.ref m),some (.int (i:Nat))]) (by rw[show(0:Int)+(i:Nat)=(i:Nat) by lia];rfl) ?_
  obtain⟨u,I⟩:∃u,us[i]?=some u:=⟨_,JL hi⟩
  obtain⟨g,hg,t,a,b,rfl,ht,hA,Y⟩:=aU hu I
  obtain⟨p,hp⟩:∃p,ps[i]?=some p:=⟨_,JL (by lia)⟩
  obtain⟨g',x,th⟩:=aU Z hp
  rw[JG,hg] at x
  cases x
  have lg:=ln g (Jy hg)
  have ep:∀{H1:Hp},ah H H1->Ev (fZ (lD K) (dE 0) (dE 2)) [some (.ref l),some (.ref m),some (.int (i:Nat))] H1 (.ref p):=fun s=>bw (aa rfl) (aa rfl) (aH.of (s _ _ U)) (bI (by rw[JG,hp];rfl))
  have G:∀{H1:Hp} {j:Nat} {v:V},ah H H1->[sv g.1,.ref a,.ref b][j]?=some v->Ev (fZ (w8 K) (fZ (lD K) (dE 1) (dE 2)) (tC (.int (j:Nat)))) [some (.ref l),some (.ref m),some (.int (i:Nat))] H1 v:=fun s e=>d_ (bw (aa rfl) (aa rfl) (aH.of (s _ _ S)) (bI I)) aq (cn.of (s _ _ ht)) (bI e)
  refine kJ (b:=false) (fun H1 B Q q=>?_) (fun e=>nomatch e) fun _ H2 s2=>?_
  ·have F:=s.trans B
   have W:=th.same F
   refine kF (aN (gH (vs:=[sv g.1,.int 0,.int 0]) (af (kH W (ep F) T.cl_Net T.na_Net_name T.cl_Bundle T.na_Bundle_name (fun _ b=>b.name)) (af (kH W (ep F) T.cl_Net T.na_Net_half T.cl_Bundle T.na_Bundle_half (fun _ b=>b.half)) (af (kH W (ep F) T.cl_Net T.na_Net_room T.cl_Bundle T.na_Bundle_room (fun _ b=>b.room)) ao))) (by show 3<=sizeLine;decide) fun la na=>?_))
   have sB:=(ah.refl H1).upd (o:=.lst [sv g.1,.int 0,.int 0]) na
   refine aN (gH (vs:=[sv g.1,.int 0,.int 0]) (af (G (j:=0) (F.trans sB) rfl) (af aq (af aq ao))) (by show 3<=sizeLine;decide) fun lb O=>?_)
   have X:=(ah.refl (upd H1 la (.lst [sv g.1,.int 0,.int 0]))).upd (o:=.lst [sv g.1,.int 0,.int 0]) O
   exact⟨_,_,rfl,.inr (.inr ⟨la,lb,_,_,rfl,rfl,.inl ⟨X _ _ ae,ae⟩,by show 3<=1000;decide,.cons (.inr (.inl ⟨_,rfl,rfl⟩)) (.cons uW (.cons uW .nil))⟩),fun H3 D=>⟨true,rfl,q H3 (sB.trans (X.trans D))⟩⟩
  have f:=s.trans s2
  obtain⟨bs,y,r⟩:=id Y
  refine iL (tQ (K:=K) (fun H1 B=>G (j:=2) (f.trans B) rfl) (f _ _ y)) (fun e H3 D=>?_) fun e H3 D=>?_
  ·have J:g.2.2=[]:=by
    have l:=Paired.length r
    rw[Jd] at l
    have:bs=[]:=by cases bs with|nil=>rfl|cons _ _=>cases e
    rw[this] at l
    exact List.length_eq_zero_iff.mp l.symm
   have c:=f.trans D
   rcases th with ⟨_,dx,fs,tp,h1,bb,h2,R⟩|⟨M,_⟩
   ·exact iL (zW (Eu fun H1 B=>gU (jm (nU (.ins ((c.trans B) _ _ h1) T.cl_Net T.qN T.qg T.qt T.oN) T.kNN (.ref cNet) (ep (c.trans B)) aq))) (tG (K:=K) (fun H1 B=>f_ (ep (c.trans B)) ((c.trans B) _ _ h1) T.cl_Net T.na_Net_pins h2) (fun H1 B=>G (j:=1) (c.trans B) rfl) (R.up fun _ _ e=>c _ _ e) (hA.same c) (by show g.2.1.length<=6;lia))) (fun e=>nomatch e) fun _ H4 s4=>⟨_,rfl,c.trans s4⟩
   ·exact absurd J M
  ·have J:g.2.2≠[]:=fun z=>by
    rw[z] at r
    cases r
    cases e
   have c:=f.trans D
   rcases th with ⟨M,_⟩|⟨_,dx,fs,tp,up,h1,bb,h2,R,h4,h5⟩
   ·exact absurd M J
   ·refine iL (zW (Eu fun H1 B=>gU (jm (nU (.ins ((c.trans B) _ _ h1) T.cl_Bundle T.qB T.qg T.qt T.oB) T.kBB (.ref cBundle) (ep (c.trans B)) aq))) (tG (K:=K) (fun H1 B=>f_ (ep (c.trans B)) ((c.trans B) _ _ h1) T.cl_Bundle T.na_Bundle_starts h2) (fun H1 B=>G (j:=1) (c.trans B) rfl) (h4.up fun _ _ e=>c _ _ e) (hA.same c) (by show g.2.1.length<=6;lia))) (fun e=>nomatch e) fun _ H4 s4=>?_
    have d:=c.trans s4
    exact iL (tG (K:=K) (fun H1 B=>f_ (ep (d.trans B)) ((d.trans B) _ _ h1) T.cl_Bundle T.na_Bundle_goals R) (fun H1 B=>G (j:=2) (d.trans B) rfl) (h5.up fun _ _ e=>d _ _ e) (Y.same d) (by show g.2.2.length<=6;lia)) (fun e=>nomatch e) fun _ H5 s5=>⟨_,rfl,d.trans s5⟩
 ·rintro σ H' ⟨N,rfl,s⟩
  exact q H' s
theorem FD (ea:cS P w K mg base cFloor "layer_prices" 1 ["self"] (uS cFloor))(fC:cS P w K mg base cFloor "via_prices" 1 ["self"] (Er cFloor))(d9:cS P w K mg base cFloor "rocks_told" 1 ["self"] (uX cFloor))(ed:cS P w K mg base cFloor "tolls_told" 1 ["self"] (vX cFloor))(dc:cS P w K mg base cBoard "things" 1 ["self"] (kQ cBoard))(ep:az P w K mg base "read_board" 8 ["page"] (yA cNet cBundle cFloor cBoard))(eD:az P w K mg base "_law_cell_at" 1 ["script", "k"] (sR K))(d1:az P w K mg base "_law_boxes" 3 ["cells", "sizes"] (rM K))(dp:az P w K mg base "_law_things" 2 ["sizes", "rocks", "heads"] nz)(d3:az P w K mg base "_law_thing_words" 2 ["thing"] p4)(ey:az P w K mg base "_law_page" 2 ["queues", "mixed"] AH)(db:az P w K mg base "_law_same" 5 ["found", "due"] (gZ 5))(ec:az P w K mg base "_law_things_good" 6 ["found", "things"] (vT cNet cBundle)):ff P w K mg base 9 "law" G3 ["script"] (u6 K):=by
 refine rd ["script", "head", "sizes", "rocks", "tolls", "boxes", "things", "prices", "vias", "layer", "queues", "board", "floor"] fun nd _ _ _ _ _ H vs Q E hr h=>?_
 obtain⟨a,cc,rfl,ha,cB,q⟩:=h
 refine FK 13 (Iw a) ?_ fun t2 d2 r2=>?_
 ·refine⟨_,(ai (bj 11 nd (aO ep hr (aB (aO ey hr (ay (aj 10) (au bF (aG aC (aj 1) ag) ag)))))) (ai (bj 12 nd (bC (aj 11) rfl)) (ai (cj (bY (cJ (aO db hr (ay (aW (aA (bC (aj 12) rfl) (ay (iZ (aj 12) T.cl_Floor ea (hr.mono (by decide))) (iZ (aj 12) T.cl_Floor fC (hr.mono (by decide)))))) (aW (aA (aj 2) (ay (aj 7) (aj 8)))))))) (aw dH)) (ai (cj (bY (cJ (aO db hr (ay (iZ (aj 12) T.cl_Floor d9 (hr.mono (by decide))) (a9 (eY rfl) T.sorted_ (aB (aj 3))))))) (aw dH)) (aR (cj (bY (cJ (aO db hr (ay (iZ (aj 12) T.cl_Floor ed (hr.mono (by decide))) (fW ["spot"] ["tolls"] [4] (aK (a9 (eY rfl) T.sorted_ (aB (aj 4)))) (c_ 0) (jy (bN qF (j_ (by exact(bT.one hr)) (aj 1) (aj 0) (fun _ _=>rfl)) ag)) (cE (ay (aj 0) (j_ (by exact(bT.one hr)) (aj 1) (aj 0) (fun _ _=>rfl))))))))) (aw dH)) (aw (aO ec hr (ay (iZ (aj 11) T.cl_Board dc (hr.mono (by decide))) (aj 6))))))))),?_⟩
  have ck:sizeLine=2^24:=rfl
  rintro σ H18 ⟨D,sa,rd,td,rl,th,pl,vl,ql,ab,h0,h1,h2,h3,h4,h5,h6,h7,h8,z,ps,ns,W,ts,gs,qa,av,M,G,Y,J,B,F,C,sz,bx,an,pp,ad,pn,tw⟩
  have l3:gs.length<=3:=by have:=tw.nm.length_le;rwa [Jd] at this
  have y:=ah.refl H18
  obtain⟨z1,z2,z3⟩:=id sz
  refine c8 fun R hR=>cL (aN (aX (af (aa rfl) (af (bJ (g:=fun i j=> .int (i%j)) (bw (v:=.int h8) (aa rfl) aq (aH.of (y _ _ av)) rfl) aq (by show(0:Int)<_;decide)) ao)) ⟨ql,_,z,B1 ps ns W gs,rfl,K3 _ (by decide),qa,sz,G0 sz bx pp pn tw,Hd bx,?_,fun x W' H19 fn pg hq ok=>?_⟩))
  ·show(ps.map BL).length+1+((ns.map Rw.via).length+1+(W.length+1+((gs.map qr).length+1+0)))<=40
   rw[Jd,Jd,Jd]
   have:=bx.ln
   lia
  have lw:lQ z ps ns W gs W':=⟨hq,ok,sz,bx,an,pp,ad,pn,tw⟩
  refine⟨x,z,W',rfl,pg,lw.pg,lw.bn,lw.tk,lw.gk,fun p H20 I np bo=>hR _ _ ?_⟩
  clear hR R qa pg
  have I:=y.trans (fn.trans I)
  clear y fn
  refine eO (σ':=wS a (rr D) (rr sa) (rr rd) (rr td) (rr rl) (rr th) (rr pl) (rr vl) ab (rr ql) (rr p) none) (by kernel_rfl) ?_
  rw[lw.th] at bo
  obtain⟨dx,fs,d,f,b7,hb,f1,f2,f3,hd,b5,hF⟩:=bo
  refine c8 fun R hR=>b9 (f_ (aa rfl) hb T.cl_Board T.na_Board_floor f1) (hR _ _ ?_)
  clear hR R
  refine eO (σ':=wS a (rr D) (rr sa) (rr rd) (rr td) (rr rl) (rr th) (rr pl) (rr vl) ab (rr ql) (rr p) (rr f)) (by kernel_rfl) ?_
  obtain⟨cF,cz,fa,fb,fc,fe,fg,fx⟩:=id hF
  have rk:mk (W.filterMap de)=ng (lZ z W').rs:=by rw[yt lw.pg,lw.rk]
  have tk:mk (W.filterMap dX)=j4 (lZ z W').ts:=by rw[yT lw.pg,lw.tl]
  rw[rk] at J
  rw[tk] at B
  have fk:=lw.pg.fd
  have lr:=sY sz fk.rn fk.ri
  have lt:=sY sz fk.tn fun p hp=>by obtain⟨q,hq,rfl⟩:=Jk.mp hp;exact(fk.ti q hq).1
  rw[Jd] at lt
  refine kJ (b:=false) (fun H1 s1 Q q=>?_) (fun e=>nomatch e) fun _ H21 e6=>?_
  ·refine kF (aN (i5 (dG (f_ (aa rfl) (s1 _ _ fx.ha) T.cl_Floor T.na_Floor_sizes fx.f1) (aN (iQ (aa rfl) (s1 _ _ fx.ha) (fx.no _ (by decide+kernel)) ⟨f,_,rfl,hF.same s1,fun l H2 s2 nl hP=>aN (iQ (aa rfl) ((s1.trans s2) _ _ fx.ha) (fx.no _ (by decide+kernel)) ⟨f,_,rfl,hF.same (s1.trans s2),fun l' H3 s3 k8 hV=>⟨by show 3<=sizeLine;decide,fun la na=>aN (fh [.ref sa,.ref pl,.ref vl] (af (aa rfl) (af (aa rfl) (af (aa rfl) ao))) (by show 3<=1000;decide) fun lb H5 s5 lT hK=>⟨_,_,rfl,?_,fun H6 s6=>⟨true,rfl,q H6 ((s2.trans (s3.upd na)).trans (s5.trans s6))⟩⟩)⟩⟩)⟩)))))
   have sA:=((ah.refl H3).upd (o:=.lst [.ref fa,.ref l,.ref l']) na).trans s5
   have sB:=I.trans (s1.trans (s2.trans (s3.trans sA)))
   have hP:lA H2 l (W'.filterMap yo):=hP
   have hV:H3 l'=some (.lst (ni (W'.filterMap xw))):=hV
   rw[lw.ly] at hP
   rw[lw.va] at hV
   have sC:=s3.trans sA
   exact .inr (.inr ⟨la,lb,_,_,rfl,rfl,.inl ⟨s5 _ _ ae,hK⟩,by show 3<=1000;decide,.cons (Et ((s1.trans (s2.trans sC)) _ _ fx.z) (sB _ _ Y)) (.cons (Ga (hP.up (fun _ e=>sC _ _ e) fun _ _ e=>sC _ _ e) (M.up (fun _ e=>sB _ _ e) fun _ _ e=>sB _ _ e) (by lia)) (.cons (.inr (.inr ⟨l',vl,_,_,rfl,rfl,.inl ⟨sA _ _ hV,sB _ _ G⟩,by rw[Jd];lia,tJ fun v hv=>by obtain⟨i,_,rfl⟩:=Jk.mp hv;exact⟨_,rfl⟩⟩)) .nil))⟩)
  refine kJ (b:=false) (fun H1 s1 Q q=>?_) (fun e=>nomatch e) fun _ H22 hu=>?_
  ·have sA:=e6.trans s1
   refine kF (aN (iQ (aa rfl) (sA _ _ fx.ha) (fx.no _ (by decide+kernel)) ⟨f,_,rfl,hF.same sA,lr,fun l ss H2 s2 nl hA hS=>aN (fU (af (aa rfl) ao) ⟨rd,_,(lZ z W').rs.map t3,rfl,(I.trans (sA.trans s2)) _ _ J,by unfold ng;rw[Jt,Jt];rfl,uG _,by rw[Jd];exact lr,fun l2 bs ds ex hb hp ho=>?_⟩)⟩))
   obtain⟨cx,rfl,bb⟩:=nX hp ho
   have e:=yU hS bb
   subst e
   have sB:=(ah.refl H2).upd (o:=.lst (bs.map V.ref)) ex
   exact⟨_,_,rfl,GA (hA.same sB) ⟨bs,ae,bB.same hb sB⟩ (by rw[hS.1.length_eq];exact lr),fun H6 s6=>⟨true,rfl,q H6 (s2.trans (sB.trans s6))⟩⟩
  have b3:=e6.trans hu
  refine kJ (b:=false) (fun H1 s1 Q q=>?_) (fun e=>nomatch e) fun _ H23 hB=>?_
  ·have sA:=b3.trans s1
   refine kF (aN (iQ (aa rfl) (sA _ _ fx.ha) (fx.no _ (by decide+kernel)) ⟨f,_,rfl,hF.same sA,lt,fun l ss H2 s2 nl hA hS=>aN (F3 (fU (af (aa rfl) ao) ⟨td,_,((lZ z W').ts.map (·.1)).map t3,rfl,(I.trans (sA.trans s2)) _ _ B,C5,uG _,by rw[Jd,Jd];exact lt,fun l2 bs ds ex hb hp ho=>⟨l2,rfl,⟨_,aH.of ae⟩,fun D1 c0=>?_⟩⟩))⟩))
   obtain⟨cx,rfl,bb⟩:=nX hp ho
   have e:=yU hS bb
   subst e
   have sB:=(ah.refl H2).upd (o:=.lst (bs.map V.ref)) ex
   have bt:upd H2 l2 (.lst (bs.map V.ref)) l2=some (.lst (bs.map V.ref)):=ae
   have a3:=bB.same hb sB
   revert sB bt a3 c0
   generalize upd H2 l2 (.lst (bs.map V.ref))=H3
   intro c0 sB bt a3
   have ls:ss.length<=1000:=by rw[hS.1.length_eq,Jd];exact lt
   refine rF (K:=K) (fun c=>decide (xm (lZ z W').ts c≠0)) (fun c=>xm (lZ z W').ts c) [some (.ref td)] c0 (fun H' s=>aH.of (s _ _ bt)) a3 (by rw[Paired.length a3,Jd];exact ls) (fun b c H' hc e s=>?_) fun H' qs s hD hq=>?_
   ·obtain⟨r,hr,rfl⟩:=Jk.mp hc
    have d:=vh ((I.trans (sA.trans (s2.trans (sB.trans s)))) _ _ B) (s _ _ e)
    rw[En (hS.1.mem_iff.mp hr)] at d
    have get:Ev (uH (dE 1) (dE 0)) [some (.ref b),some (.ref td)] H' (.int (xm (lZ z W').ts (t3 r))):=vS (aa rfl) (aa rfl) d
    refine⟨cC (aE (zw get aq)) ?_,fun _=>get⟩
    have:=GH (ts:=(lZ z W').ts) (c:=t3 r)
    exact decide_eq_decide.mpr ⟨fun h=>by lia,fun h=>by lia⟩
   ·have tl:=Fi (ts:=(lZ z W').ts) (ss:=ss)
    obtain⟨cr,ct,ci⟩:=hA
    have sC:=sB.trans s
    exact⟨_,_,rfl,FC ⟨cr,sC _ _ ct,Paired.mapP ci fun _ _ ⟨b,h1,h2⟩=>⟨b,sC _ _ h1,sC _ _ h2⟩⟩ ⟨qs,hD,hq⟩ tl.2 (Jn tl.1 ls),fun H6 s6=>⟨true,rfl,q H6 (s2.trans (sC.trans s6))⟩⟩
  have U:=b3.trans hB
  refine cU (cL (aN (iQ (aa rfl) (U _ _ hb) f3 ⟨p,dx,d,fs,b7,gs.map tF,rfl,U _ _ hb,f2,U _ _ hd,Paired.length b5,by rw[Jd];lia,fun H' l s nl hl=>dG (aa rfl) ⟨l,th,b7,ts,gs,rfl,hl,Paired.mapP b5 (fun _ _ h=>h.same (U.trans s)),(I.trans (U.trans s)) _ _ F,Paired.mapP C (fun _ _ h=>h.same (I.trans (U.trans s))),tw.ln,l3,fun H2 s2=>q H2⟩⟩)))
 refine⟨_,(ai (md 1 ["k"] ["script"] [0] nd (oJ T.range_ (aB ag)) (c_ 0) cg (aO (by exact eD) (by exact hr) (ay (aj 1) (aj 0)))) (ai (bj 2 nd (cE (aA (au aZ ag (au bF (aG aC (aj 1) ag) ag)) (ay (au aZ ag (au bF (au bG (aG aC (aj 1) ag) ag) ag)) (au aZ ag (au bF (au bG (aG aC (aj 1) ag) ag) ag)))))) (ai (gA (aO d1 hr (ay (bz bU (aj 0) (bu ag) (bu ag)) (aj 2))) (dS rfl (ax (bh 3 nd) (ax (bh 4 nd) (ax (bh 5 nd) cf))))) (ai (bj 6 nd (aO dp hr (aA (aj 2) (ay (aj 3) (bz bU (aj 1) (bu ag) (bu ag)))))) (ai (bj 7 nd (aW dv)) (ai (bj 8 nd (aW dv)) (ai (dB (oJ T.range_ (aB (aG aF (aj 2) ag))) (bh 9 nd) (aD (aM (cY JP J4 J5 bP (aj 7) (aB (cE (ay (au aZ ag (au bF (aG aC (aj 1) (au aZ ag (aj 9))) (au n_ ag ag))) (au aZ ag (au bF (au gw (aG aC (aj 1) ag) (au aZ ag (aj 9))) (au n_ ag ag)))))))))) (ai (dB (oJ T.range_ (aB (au eJ (aG aF (aj 2) ag) ag))) (bh 9 nd) (aD (aM (cY JP J4 J5 bP (aj 8) (aB (au aZ ag (au bF (au gw (aG aC (aj 1) (au aZ ag (aj 9))) ag) (au n_ ag ag)))))))) (ai (bj 10 nd (aW (aB (aW (aB (au fA (aW (aB aL)) (fW ["size"] [] [] (Bz (aj 2)) (c_ 0) cg (dR dC (by exact T.str_) (aB (aj 0)))))))))) (ai (aM (cY JP J4 J5 bP (aj 10) (aB (fW ["pair"] [] [] (aK (aj 7)) (c_ 0) cg (aW (aA aL (ay (dR dC (by exact T.str_) (aB (aG (pe (K:=K) rfl) (aj 0) ag))) (dR dC (by exact T.str_) (aB (aG (pe (K:=K) rfl) (aj 0) ag)))))))))) (ai (aM (cY JP J4 J5 bP (aj 10) (aB (fW ["price"] [] [] (aK (aj 8)) (c_ 0) cg (aW (ay aL (dR dC (by exact T.str_) (aB (aj 0))))))))) (ai (aM (cY JP J4 J5 bP (aj 10) (aB (aj 5)))) (ai (aM (cY JP J4 J5 bP (aj 10) (aB (fW ["thing"] [] [] (aK (aj 6)) (c_ 0) cg (aO (by exact d3) (by exact hr) (aB (aj 0))))))) d2))))))))))))),?_⟩
 have ck:sizeLine=2^24:=rfl
 refine FM (b9 aq ⟨9,rfl,by decide,by decide,fun D nD=>?_⟩)
 refine qe (n:=9) (fun i τ H'=>∃(x0:Option V) (vs:List Int),τ=[x0,some (.ref a)]/\ah H H'/\H' D=some (.lst (vs.map V.int))/\vs.length=i) ⟨none,[],rfl,(ah.refl H).upd nD,ae,rfl⟩ ?_ ?_
 ·rintro i τ H' hi ⟨x0,vs,rfl,s,hD,hl⟩
  refine gn (fK ?_)
  refine aX (af (aa rfl) (af (aa rfl) ao)) ⟨a,cc,_,rfl,gb ha s,by lia,fun v=>⟨_,hD,by rw[Jd];lia,_,vs++[v],rfl,bf s nD,by rw[ae,Jl];rfl,by rw[Js,hl];rfl⟩⟩
 rintro τ H1 ⟨x0,hs,rfl,s1,hD,h9⟩
 have h9:hs.length=9:=h9
 refine eO (σ':=wS a (rr D) none none none none none none none none none none none) (by kernel_rfl) ?_
 obtain⟨h0,h1,h2,h3,h4,h5,h6,h7,h8,rfl⟩:=HS h9
 obtain⟨z,e1,e2,e3,sz⟩:∃z:P3,1+h0%3=((z.1:Nat):Int)/\1+h0/3%5=((z.2.1:Nat):Int)/\1+h0/15%7=((z.2.2:Nat):Int)/\Sz z:=⟨((1+h0%3).toNat,(1+h0/3%5).toNat,(1+h0/15%7).toNat),by show _=((J0 _:Nat):Int);lia,by show _=((J0 _:Nat):Int);lia,by show _=((J0 _:Nat):Int);lia,⟨by show 1<=J0 _;lia,by show J0 _<=3;lia⟩,⟨by show 1<=J0 _;lia,by show J0 _<=5;lia⟩,by show 1<=J0 _;lia,by show J0 _<=7;lia⟩
 have e0:Ev (fZ (lD K) (dE 1) (tC (.int 0))) (wS a (rr D) none none none none none none none none none none none) H1 (.int h0):=bw (aa rfl) aq (aH.of hD) rfl
 refine c8 fun R hR=>ox ((t3 z).map V.int) (af (bg (br (g:=fun i j=> .int (i+j)) aq (bJ (g:=fun i j=> .int (i%j)) e0 aq (by show(0:Int)<_;decide))) (by show V.int (1+h0%3)=_;rw[e1])) (af (bg (br (g:=fun i j=> .int (i+j)) aq (bJ (g:=fun i j=> .int (i%j)) (bJ (g:=fun i j=> .int (i/j)) e0 aq (mL (by decide) (by decide))) aq (by show(0:Int)<_;decide))) (by show V.int (1+h0/3%5)=_;rw[e2])) (af (bg (br (g:=fun i j=> .int (i+j)) aq (bJ (g:=fun i j=> .int (i%j)) (bJ (g:=fun i j=> .int (i/j)) e0 aq (mL (by decide) (by decide))) aq (by show(0:Int)<_;decide))) (by show V.int (1+h0/15%7)=_;rw[e3])) ao))) (by show 3<=1000;decide) fun sa H2 s2 k4 eq=>hR _ _ ?_
 clear hR R e0 e1 e2 e3
 refine eO (σ':=wS a (rr D) (rr sa) none none none none none none none none none none) (by kernel_rfl) ?_
 obtain⟨cs,co,cN⟩:=ye cc (some 9) (some 129)
 refine kf fun R hR=>?_
 refine cL (aN (AR (K:=K) (cs.map V.int) (aa rfl) aq aq (gb ha (s1.trans s2)) co fun c H3 s3 nc hc=>dG (aa rfl) ⟨c,sa,cs,z,rfl,aH.of hc,by lia,s3 _ _ eq,sz,fun t rd td rl us W H4 s4 ht et fy e8 eX bx=>⟨t,_,rfl,cn.of ht,rfl,_,_,rfl,_,_,rfl,_,_,rfl,rfl,hR _ _ ?_⟩⟩))
 clear hR R ht
 refine eO (σ':=wS a (rr D) (rr sa) (rr rd) (rr td) (rr rl) none none none none none none none) (by kernel_rfl) ?_
 have bc:=s4 _ _ (s3 _ _ (s2 _ _ hD))
 have ap:=s4 _ _ (s3 _ _ eq)
 refine c8 fun R hR=>cL (dG (aa rfl) (dG (aa rfl) (aN (AR (K:=K) ([h5,h6,h7].map V.int) (aa rfl) aq aq (aH.of bc) rfl fun c H5 s5 nc hc=>⟨sa,rd,c,z,_,[h5,h6,h7],rfl,s5 _ _ ap,sz,s5 _ _ et,hc,rfl,fun th ts gs H6 s6 jN gd e5 tw=>hR _ _ ?_⟩))))
 clear hR R
 refine eO (σ':=wS a (rr D) (rr sa) (rr rd) (rr td) (rr rl) (rr th) none none none none none none) (by kernel_rfl) ?_
 have O:=s5.trans s6
 have a4:=O _ _ bc
 have Z:=O _ _ ap
 have bv:=O _ _ et
 have be:=O _ _ fy
 have b8:QL H6 (.ref rl) W:=⟨rl,us,rfl,O _ _ e8,Paired.mapP eX fun _ _ ⟨b,e,h⟩=>⟨b,e,O _ _ h⟩⟩
 clear O et fy e8 eX ap bc s6 s5 hc s4 s3 s2 s1 eq hD
 refine c8 fun R hR=>fh [] ao (JA _) fun pl H7 s7 f4 eu=>hR _ _ ?_
 clear hR R
 refine eO (σ':=wS a (rr D) (rr sa) (rr rd) (rr td) (rr rl) (rr th) (rr pl) none none none none none) (by kernel_rfl) ?_
 refine c8 fun R hR=>fh [] ao (JA _) fun vl H8 s8 eC ac=>hR _ _ ?_
 clear hR R
 refine eO (σ':=wS a (rr D) (rr sa) (rr rd) (rr td) (rr rl) (rr th) (rr pl) (rr vl) none none none none) (by kernel_rfl) ?_
 have cd:pl≠vl:=dD eu eC
 have bm:H6 vl=none:=dJ s7 eC
 obtain⟨z1,z2,z3⟩:=id sz
 have ce:(10:Int)^(12:Int).toNat=1000000000000:=by decide
 refine yB (fun σ H'=>∃(x9:Option V) (ps:List (Nat×Nat)),σ=wS a (rr D) (rr sa) (rr rd) (rr td) (rr rl) (rr th) (rr pl) (rr vl) x9 none none none/\ah H6 H'/\lA H' pl ps/\H' vl=some (.lst [])/\ps.length=z.1/\∀p∈ps,Pr p.1/\Pr p.2) (fun R hR=>?_) ?_
 ·refine oO (j:=((z.1:Nat):Int)) (af (cy rfl (s8 _ _ (s7 _ _ Z)) rfl) ao) (by lia) (by lia) ?_
  rw[Kh]
  refine cK (n:=z.1) (fun i σ H'=>∃(x9:Option V) (ps:List (Nat×Nat)),σ=wS a (rr D) (rr sa) (rr rd) (rr td) (rr rl) (rr th) (rr pl) (rr vl) x9 none none none/\ah H6 H'/\lA H' pl ps/\H' vl=some (.lst [])/\ps.length=i/\∀p∈ps,Pr p.1/\Pr p.2) ⟨none,[],rfl,s7.trans s8,⟨[],s8 _ _ eu,.nil⟩,ac,rfl,fun _ h=>nomatch h⟩ ?_ fun σ H' h=>hR σ H' h
  rintro i σ H' hi ⟨x9,ps,rfl,s,⟨as,a7,b6⟩,hv,an,pp⟩
  refine gn ?_
  refine eO (σ':=wS a (rr D) (rr sa) (rr rd) (rr td) (rr rl) (rr th) (rr pl) (rr vl) (some (.int (i:Nat))) none none none) (by rw[show(0:Int)+(i:Nat)=(i:Nat) by lia];rfl) ?_
  obtain⟨c,hc,bA⟩:=zp (cs:=[h0,h1,h2,h3,h4,h5,h6,h7,h8]) (i:=1+i) (by show 1+i<9;lia)
  obtain⟨p,p1,p2,pb⟩:∃p:Nat×Nat,1+c%(10:Int)^(12:Int).toNat=((p.1:Nat):Int)/\1+h4*(7919+(i:Nat))%(10:Int)^(12:Int).toNat=((p.2:Nat):Int)/\Pr p.1/\Pr p.2:=by
   rw[ce]
   refine⟨((1+c%1000000000000).toNat,(1+h4*(7919+(i:Nat))%1000000000000).toNat),by show _=((J0 _:Nat):Int);lia,by show _=((J0 _:Nat):Int);lia,⟨by show 1<=J0 _;lia,by show J0 _<=_;lia⟩,by show 1<=J0 _;lia,by show J0 _<=_;lia⟩
  have pw:Ev (fZ (rI Fc fun i j=> .int (i^j.toNat)) (tC (.int 10)) (tC (.int 12))) (wS a (rr D) (rr sa) (rr rd) (rr td) (rr rl) (rr th) (rr pl) (rr vl) (some (.int (i:Nat))) none none none) H' (.int ((10:Int)^(12:Int).toNat)):=bJ aq aq (Ii (by decide) (by decide) (by decide))
  have b1:=s _ _ a4
  refine fM (fD (aa rfl) (.inl ⟨rfl,_,aH.of a7⟩) (aN (ox [.int (p.1:Nat),.int (p.2:Nat)] (af (bg (br (g:=fun i j=> .int (i+j)) aq (bJ (g:=fun i j=> .int (i%j)) (bw (v:=.int c) (aa rfl) (bg (br (g:=fun i j=> .int (i+j)) aq (aa rfl)) (by show V.int (1+(i:Nat))=.int ((1+i:Nat):Int);congr 1)) (aH.of b1) bA) pw (by show(0:Int)<_;decide))) (by show V.int (1+c%_)=_;rw[p1])) (af (bg (br (g:=fun i j=> .int (i+j)) aq (bJ (g:=fun i j=> .int (i%j)) (bJ (g:=fun i j=> .int (i*j)) (bw (v:=.int h4) (aa rfl) aq (aH.of b1) rfl) (br (g:=fun i j=> .int (i+j)) aq (aa rfl)) (Cq (by lia) (by lia))) pw (by show(0:Int)<_;decide))) (by show V.int (1+h4*(7919+(i:Nat))%_)=_;rw[p2])) ao)) (by show 2<=1000;decide) fun t H2 s2 nt ht=>⟨pl,_,_,rfl,rfl,s2 _ _ a7,by rw[Jd,Paired.length b6];lia,?_⟩)))
  have bD:=s2 _ _ a7
  refine⟨_,ps++[p],rfl,bf (s.trans s2) f4,⟨as++[t],by rw[ae,Jl];rfl,bL (R:=P2 _) (fj bD _ _ ht) (Paired.mapP b6 fun b q e=>fj bD _ _ (s2 _ _ e))⟩,by rw[ak cd.symm];exact s2 _ _ hv,by rw[Js,an];rfl,fun p' hH=>?_⟩
  rcases Jz.mp hH with h|h
  ·exact pp p' h
  ·rw[Jv.mp h];exact pb
 rintro σ H9 ⟨x9,ps,rfl,A,am,bi,an,pp⟩
 refine yB (fun σ H'=>∃(x9:Option V) (ns:List Nat),σ=wS a (rr D) (rr sa) (rr rd) (rr td) (rr rl) (rr th) (rr pl) (rr vl) x9 none none none/\ah H6 H'/\lA H' pl ps/\H' vl=some (.lst (ni ns))/\ns.length+1=z.1/\∀n∈ns,Pr n) (fun R hR=>?_) ?_
 ·refine oO (j:=((z.1 - 1:Nat):Int)) (af (bg (br (g:=fun i j=> .int (i - j)) (cy rfl (A _ _ Z) rfl) aq) (by show V.int (((z.1:Nat):Int) - 1)=_;congr 1;lia)) ao) (by lia) (by lia) ?_
  rw[Kh]
  refine cK (n:=z.1 - 1) (fun i σ H'=>∃(x9:Option V) (ns:List Nat),σ=wS a (rr D) (rr sa) (rr rd) (rr td) (rr rl) (rr th) (rr pl) (rr vl) x9 none none none/\ah H6 H'/\lA H' pl ps/\H' vl=some (.lst (ni ns))/\ns.length=i/\∀n∈ns,Pr n) ⟨x9,[],rfl,A,am,bi,rfl,fun _ h=>nomatch h⟩ ?_ fun σ H' ⟨x9,ns,h1,h2,h3,h4,h5,h6⟩=>hR σ H' ⟨x9,ns,h1,h2,h3,h4,by lia,h6⟩
  rintro i σ H' hi ⟨x9,ns,rfl,s,ch,hv,ad,pn⟩
  refine gn ?_
  refine eO (σ':=wS a (rr D) (rr sa) (rr rd) (rr td) (rr rl) (rr th) (rr pl) (rr vl) (some (.int (i:Nat))) none none none) (by rw[show(0:Int)+(i:Nat)=(i:Nat) by lia];rfl) ?_
  obtain⟨c,hc,bA⟩:=zp (cs:=[h0,h1,h2,h3,h4,h5,h6,h7,h8]) (i:=1+i) (by show 1+i<9;lia)
  obtain⟨n,n1,nb⟩:∃n:Nat,1+c*104729%(10:Int)^(12:Int).toNat=((n:Nat):Int)/\Pr n:=by
   rw[ce]
   exact⟨(1+c*104729%1000000000000).toNat,by lia,by lia,by lia⟩
  refine fM (fD (aa rfl) (.inl ⟨rfl,_,aH.of hv⟩) (dG (bg (c:=.int (n:Nat)) (br (g:=fun i j=> .int (i+j)) aq (bJ (g:=fun i j=> .int (i%j)) (bJ (g:=fun i j=> .int (i*j)) (bw (v:=.int c) (aa rfl) (bg (br (g:=fun i j=> .int (i+j)) aq (aa rfl)) (by show V.int (1+(i:Nat))=.int ((1+i:Nat):Int);congr 1)) (aH.of (s _ _ a4)) bA) aq (Cq (by decide) (by decide))) (bJ (g:=fun i j=> .int (i^j.toNat)) aq aq (Ii (by decide) (by decide) (by decide))) (by show(0:Int)<_;decide))) (by show V.int (1+c*104729%_)=_;rw[n1])) ⟨vl,_,_,rfl,rfl,hv,by rw[Jd];lia,?_⟩))
  refine⟨_,ns++[n],rfl,bf s bm,ch.up (fun xs e=>by rw[ak cd];exact e) fun b xs e=>fj hv _ _ e,by rw[ae];show _=some (HO.lst ((ns++[n]).map _));rw[Jl];rfl,by rw[Js,ad];rfl,fun n' hk=>?_⟩
  rcases Jz.mp hk with h|h
  ·exact pn n' h
  ·rw[Jv.mp h];exact nb
 clear am bi A s8 s7 eu ac
 rintro σ H9 ⟨ab,ns,rfl,A,am,ac,ad,pn⟩
 have ca:=A _ _ a4
 have X:=A _ _ Z
 have b0:=A _ _ bv
 have a6:=A _ _ be
 have bd:=A _ _ gd
 have bl:Paired (CA H9) ts gs:=Paired.mapP e5 fun _ _ h=>h.same A
 have b4:QL H9 (.ref rl) W:=by
  obtain⟨_,vs,e,h1,h2⟩:=b8
  exact⟨_,vs,e,A _ _ h1,Paired.mapP h2 fun _ _ ⟨b,e,h⟩=>⟨b,e,A _ _ h⟩⟩
 clear a4 Z bv be gd e5 b8 A f4 eC bm
 refine c8 fun R hR=>i5 (aN (i5 (aN (dM (fh [.str (kS 0)] (af aq ao) (by show 1<=1000;decide) fun p H10 eb np hp=>?_)))))
 refine⟨_,rfl,sa,rfl,⟨_,cn.of (eb _ _ X)⟩,fun D1 c0=>?_⟩
 refine oA (K:=K) (rest:=[]) [z.1,z.2.1,z.2.2] (fun n=>V.int (n:Nat)) (fun _ v n=>v=sv (dg n)) (fun h _ _=>h) (.inr ⟨rfl,eb _ _ X⟩) c0 (show 3<=1000 by decide) (fun n hn H' _ _ Qv qv=>b9 (oI (aa rfl) ?_) (qv _ H' (ah.refl H') rfl)) fun vs H11 er e9 hv=>?_
 ·simp only[Jo,JM,or_false] at hn
  rcases hn with rfl|rfl|rfl<;>lia
 have cq:vs=[sv (dg z.1),sv (dg z.2.1),sv (dg z.2.2)]:=by
  cases hv with|cons r1 t1=>cases t1 with|cons r2 t2=>cases t2 with|cons r3 t3=>cases t3;rw[r1,r2,r3]
 subst cq
 refine⟨p,D1,_,_,rfl,rfl,er _ _ hp,e9,by show 1+3<=sizeLine;decide,fun c nc=>⟨by show 1<=sizeLine;decide,fun l1 n1=>⟨by show 1<=sizeLine;decide,fun ql nq=>hR _ _ ?_⟩⟩⟩
 clear hR R
 have wc:WL (upd H11 c (.lst ([.str (kS 0)]++[sv (dg z.1),sv (dg z.2.1),sv (dg z.2.2)]))) c (iM (.floor z)):=by unfold WL;rw[ae];show _=some (HO.lst (sv (cp (kS 0))::_));rw[m4];rfl
 have a5:=(eb.trans er).upd (o:=.lst ([.str (kS 0)]++[sv (dg z.1),sv (dg z.2.1),sv (dg z.2.2)])) nc
 revert wc a5 n1 nq
 generalize upd H11 c _=dK
 intro n1 nq wc a5
 have a0:QL (upd dK l1 (.lst [.ref c])) (.ref l1) [.floor z]:=⟨l1,_,rfl,ae,.cons ⟨c,rfl,((ah.refl dK).upd n1) _ _ wc⟩ .nil⟩
 have m:=a5.upd (o:=.lst [.ref c]) n1
 have N:yM (upd dK l1 (.lst [.ref c])) ql [.ref l1] [[.floor z]] (upd (upd dK l1 (.lst [.ref c])) ql (.lst [.ref l1])):=⟨(ah.refl _).upd nq,ae,.cons ((QB.of a0 nq).keep fun b o n e=>by rw[ak n];exact e) .nil⟩
 revert a0 m N nq
 generalize upd (upd dK l1 (.lst [.ref c])) ql (.lst [.ref l1])=he
 generalize upd dK l1 (.lst [.ref c])=ft
 intro nq a0 m N
 have bW:QB ql ft (.ref rl) W:=QB.of (by
  obtain⟨_,vs,e,h1,h2⟩:=b4
  exact⟨_,vs,e,m _ _ h1,Paired.mapP h2 fun _ _ ⟨b,e,h⟩=>⟨b,e,m _ _ h⟩⟩) nq
 clear a0 wc a5 n1 e9 er eb hp b4 hv
 refine eO (σ':=wS a (rr D) (rr sa) (rr rd) (rr td) (rr rl) (rr th) (rr pl) (rr vl) ab (rr ql) none none) (by kernel_rfl) ?_
 have M:=am.up (fun _ e=>m _ _ e) fun _ _ e=>m _ _ e
 have G:=m _ _ ac
 have av:=m _ _ ca
 have Y:=m _ _ X
 have J:=m _ _ b0
 have B:=m _ _ a6
 have F:=m _ _ bd
 have C:Paired (CA ft) ts gs:=Paired.mapP bl fun _ _ h=>h.same m
 clear am ac ca X b0 a6 bd bl m
 have l3:gs.length<=3:=by have:=tw.nm.length_le;rwa [Jd] at this
 obtain⟨as,a1,a2⟩:=id M
 refine oE (K:=K) (q:=ps.map BL) rfl N nq (by show 1<=100;decide) (fun Qv qv=>?_) fun v1 H15 d8=>?_
 ·refine⟨_,rfl,pl,rfl,⟨_,aH.of (N.sm _ _ a1)⟩,fun D1 c0=>?_⟩
  refine oV (K:=K) (rest:=[]) (S:=fun u p=>∃b,u=.ref b/\P2 he b p) (f:=BL) (bs:=ps) (lx (Paired.mapP a2 fun b p e=>⟨b,rfl,N.sm _ _ e⟩)) (N.sm _ _ a1) c0 (by rw[Jd,Paired.length a2];lia) (fun u p ⟨b,e,h⟩ hm H' s Qv qv=>?_) fun vs H' s hD hp=>qv _ H' s (QB.new N.hl c0 hD hp)
  subst e
  obtain⟨⟨_,_⟩,_,_⟩:=pp p hm
  refine fh [.str (kS 1),sv (dg p.1),sv (dg p.2)] (af aq (af (oI (d_ (K:=K) (aa rfl) aq (cn.of (s _ _ h)) rfl) (by lia)) (af (oI (d_ (K:=K) (aa rfl) aq (cn.of (s _ _ h)) rfl) (by lia)) ao))) (by show 3<=1000;decide) fun v H2 s2 nv hv=>qv v H2 s2 nv ?_
  unfold WL
  rw[hv];show _=some (HO.lst (sv (cp (kS 1))::_));rw[m4];rfl
 refine oE (K:=K) (q:=ns.map Rw.via) rfl d8 nq (by show 2<=100;decide) (fun Qv qv=>?_) fun v2 H16 e4=>?_
 ·refine⟨_,rfl,vl,rfl,⟨_,aH.of (d8.sm _ _ G)⟩,fun D1 c0=>?_⟩
  refine oV (K:=K) (rest:=[]) (f:=Rw.via) (vz ns) (d8.sm _ _ G) c0 (by rw[Jd];lia) (fun u n e hm H' s Qv qv=>?_) fun vs H' s hD hp=>qv _ H' s (QB.new d8.hl c0 hD hp)
  subst e
  obtain⟨_,_⟩:=pn n hm
  refine fh [.str (kS 2),sv (dg n)] (af aq (af (oI (aa rfl) (by lia)) ao)) (by show 2<=1000;decide) fun v H2 s2 nv hv=>qv v H2 s2 nv ?_
  unfold WL
  rw[hv];show _=some (HO.lst (sv (cp (kS 2))::_));rw[m4];rfl
 refine oE (K:=K) (q:=W) rfl e4 nq (by show 3<=100;decide) (fun Qv qv=>b9 (aa rfl) (qv _ H16 (ah.refl H16) (bW.keep fun _ _ _ e=>e4.sm _ _ e))) fun v3 H17 d0=>?_
 refine oE (K:=K) (q:=gs.map qr) rfl d0 nq (by show 4<=100;decide) (fun Qv qv=>?_) fun v4 H18 ga=>?_
 ·refine⟨_,rfl,th,rfl,⟨_,aH.of (d0.sm _ _ F)⟩,fun D1 c0=>?_⟩
  refine oV (K:=K) (rest:=[]) (f:=qr) C (d0.sm _ _ F) c0 (by rw[Paired.length C];lia) (fun u g ⟨t,b,c,e,h1,h2,h3⟩ hm H' s Qv qv=>?_) fun vs H' s hD hp=>qv _ H' s (QB.new d0.hl c0 hD hp)
  subst e
  have sx:=d0.sm.trans s
  have sm:∀p∈Tw.es g,p.1<8/\p.2.1<8/\p.2.2<8:=fun p hp=>kE sz (tw.ok g hm p hp).1
  have ln:=tw.ln g hm
  exact aX (af (aa rfl) ao) ⟨t,b,c,g.1,g.2.1,g.2.2,rfl,sx _ _ h1,h2.same sx,h3.same sx,fun p hp=>sm p (Jz.mpr (.inl hp)),fun p hp=>sm p (Jz.mpr (.inr hp)),by lia,by lia,fun l H2 s2 nl hw=>qv l H2 s2 nl hw⟩
 have y:=ga.sm
 exact r2 _ _ ⟨D,sa,rd,td,rl,th,pl,vl,ql,ab,h0,h1,h2,h3,h4,h5,h6,h7,h8,z,ps,ns,W,ts,gs,ga.qa,y _ _ av,M.up (fun _ e=>y _ _ e) (fun _ _ e=>y _ _ e),y _ _ G,y _ _ Y,y _ _ J,y _ _ B,y _ _ F,Paired.mapP C (fun _ _ h=>h.same y),sz,bx,an,pp,ad,pn,tw⟩
end
set_option maxHeartbeats 2000000 in
theorem all_mk {l:PySem.W.OpenLaw}(X:K.In h)(G:h.Ns mainGlobals mg)(g2:mg "law" =some (.ref fa))
  {b8 cc b6 b5 ca hj:Addr} (T:Txt K mg b8 cc b6 b5 ca hj)
  {f7:Addr} {fn d8:Option Addr} {fp:Array (Option Value)} {hh d4 d1 dP dp ep:Value}
  {T7:Addr} {e2:Option Addr} {e1:Array (Option Value)} {hf dl ds:Value} {e9:Nat}
  {cs:Addr} {ei eb:Option Addr} {d0:Array (Option Value)} {dL ek d3 el cF ee:Value}
  {co:Addr} {ej c2:Option Addr} {dK:Array (Option Value)} {d6 c4 c3 db cr c1:Value}
  {dt:Addr} {d2:Option Addr} {d5:Array (Option Value)} {dT cz cB:Value} {ea:Nat}
  {ci:Addr} {dx dj:Option Addr} {em:Array (Option Value)} {eq cN dc c5 cq c0:Value}
  {dm:Addr} {en:Option Addr} {ed:Array (Option Value)} {d9 cx:Value} {dV:Nat}
  (ck:ClG K cc "Net")
  (cd:ClG K b6 "Bundle")
  (ce:ClG K b5 "Floor")
  (ct:ClG K ca "Board")
  (l0:dZ K "inside" vj)
  (l1:dZ K "apart" zj)
  (l2:dZ K "square" uU)
  (l3:dZ K "check_sizes" uM)
  (l4:dZ K "check_price" uV)
  (l5:dZ K "check_prices" pX)
  (l6:dZ K "check_inside" p6)
  (a7:JS K (.ref b5) "__init__" =some (some (.ref f7)))
  (i7:KQ K (.ref f7)=true)
  (l7:K.lookup f7=some ⟨hh,fn,.func (JQ "__init__" "Floor.__init__" (cH gE) (bV gE) (aP gE) (.ref T7) d4 d1 dP d8 dp ep),fp⟩)
  (d7:K.lookup T7=some ⟨hf,e2,.seq #[dl,ds] e9,e1⟩)
  (c7:Kg K dp "Floor.__init__" =true)
  (k7:JW K (.ref f7)=true)
  (l8:qy K b5 "layer_prices" "Floor.layer_prices" y4)
  (l9:qy K b5 "via_prices" "Floor.via_prices" GT)
  (hp:qy K b5 "rocks_told" "Floor.rocks_told" Aq)
  (gs:qy K b5 "tolls_told" "Floor.tolls_told" yO)
  (g6:qy K b5 "is_rock" "Floor.is_rock" vI)
  (eA:dZ K "is_name" D_)
  (ft:dZ K "check_unlike" vR)
  (hm:PySem.W.readsIn K b8 (.type "type")=true)
  (hg:PySem.W.findCls K (.ref b8) (.type "type") "__init__" =some (.val (.ref cs)))
  (e6:LU K (.ref b8) "__getattribute__" =some (some (.builtin "type.__getattribute__")))
  (fg:K.lookup cs=some ⟨dL,ei,.func (JQ "__init__" "Thing.__init__" (cH jG) (bV jG) (aP jG) .none ek d3 el eb cF ee),d0⟩)
  (ga:Kg K cF "Thing.__init__" =true)
  (ef:JW K (.ref cs)=true)
  (g3:JS K (.ref cc) "__init__" =some (some (.ref co)))
  (fi:KQ K (.ref co)=true)
  (ey:K.lookup co=some ⟨d6,ej,.func (JQ "__init__" "Net.__init__" (cH gy) (bV gy) (aP gy) (.ref dt) c4 c3 db c2 cr c1),dK⟩)
  (eR:K.lookup dt=some ⟨dT,d2,.seq #[cz,cB] ea,d5⟩)
  (eH:Kg K cr "Net.__init__" =true)
  (h7:JW K (.ref co)=true)
  (ew:qy K cc "ends" "Net.ends" x_)
  (ha:JS K (.ref b6) "__init__" =some (some (.ref ci)))
  (f3:KQ K (.ref ci)=true)
  (gd:K.lookup ci=some ⟨eq,dx,.func (JQ "__init__" "Bundle.__init__" (cH gx) (bV gx) (aP gx) (.ref dm) cN dc c5 dj cq c0),em⟩)
  (eX:K.lookup dm=some ⟨d9,en,.seq #[cx] dV,ed⟩)
  (eD:Kg K cq "Bundle.__init__" =true)
  (hA:JW K (.ref ci)=true)
  (hn:qy K b6 "ends" "Bundle.ends" BB)
  (gg:dZ K "fits" Ef)
  (fe:dZ K "reach_of" AE)
  (e4:dZ K "clash" yh)
  (eu:dZ K "clash_at_all" uE)
  (g8:dZ K "check_names" vP)
  (e8:dZ K "check_fits" Ae)
  (g1:dZ K "check_crowds" qk)
  (f8:qy K ca "__init__" "Board.__init__" vN)
  (fx:qy K ca "things" "Board.things" mN)
  (eC:dZ K "between" GB)
  (gV:dZ K "box" Gz)
  (f4:dZ K "words_in" qp)
  (f5:dZ K "rows_of" uT)
  (he:dZ K "number_in" zq)
  (gp:dZ K "spot_in" v7)
  (g7:dZ K "numbers_told" rg)
  (f2:dZ K "spots_told" uA)
  (e3:dZ K "corners_told" rP)
  (fb:dZ K "toll_told" BD)
  (eE:dZ K "net_told" Ee)
  (gt:dZ K "bundle_told" Ec)
  (hi:dZ K "row_told" Ew)
  (ge:dZ K "rows_told" A0)
  (ex:dZ K "parts_of" vB)
  (et:dZ K "marked" vV)
  (fr:dZ K "floor_told" u_)
  (hb:dZ K "thing_told" vG)
  (gl:dZ K "read_board" Ek)
  (e0:dZ K "_law_cell_at" DQ)
  (hc:dZ K "_law_spot_at" u5)
  (fC:dZ K "_law_word" Ea)
  (ez:dZ K "_law_next" El)
  (f1:dZ K "_law_box" DZ)
  (ev:dZ K "_law_corners" D7)
  (g4:dZ K "_law_boxes" uq)
  (g5:dZ K "_law_things" rT)
  (ho:dZ K "_law_thing_words" u3)
  (g0:dZ K "_law_loose" yp)
  (f0:dZ K "_law_page" DO)
  (gm:dZ K "_law_same" DY)
  (hk:dZ K "_law_things_good" zC)
  (fy:dZ K "law" G3)
  :∃fd:FuncData,(∀(s:Shared) (v:Value),BindsTo s fd ⟨[v],[]⟩ [("script",v)])/\∀base:Heap,K.In base->base.Ns mainGlobals mg->eW l.prog w K mg base mq 9 fa fd ["script"] (u6 K):=by
 have F7:=oP (st:=gE) l7 c7
 have b7:dn K (JQ "__init__" "Floor.__init__" (cH gE) (bV gE) (aP gE) (.ref T7) d4 d1 dP d8 dp ep) ["self", "sizes", "prices", "vias", "rocks", "tolls"] []:=tI rfl d7 fun us hl=>by obtain⟨_,_,_,_,_,_,rfl⟩:=ID hl;exact⟨_,rfl,rfl⟩
 have er:=sQ (st:=jG) fg ga ef
 have b1:dn K _ ["self", "name", "half", "room"] []:=er.binds fun _ _ _ _ _ _ us hl=>by obtain⟨_,_,_,_,rfl⟩:=IV hl;rfl
 have e5:=oP (st:=gy) ey eH
 have b4:dn K (JQ "__init__" "Net.__init__" (cH gy) (bV gy) (aP gy) (.ref dt) c4 c3 db c2 cr c1) ["self", "name", "pins", "half", "room"] []:=tI rfl eR fun us hl=>by obtain⟨_,_,_,_,_,rfl⟩:=IB hl;exact⟨_,rfl,rfl⟩
 have fl:=oP (st:=gx) gd eD
 have b3:dn K (JQ "__init__" "Bundle.__init__" (cH gx) (bV gx) (aP gx) (.ref dm) cN dc c5 dj cq c0) ["self", "name", "starts", "goals", "room"] []:=tI rfl eX fun us hl=>by obtain⟨_,_,_,_,_,rfl⟩:=IB hl;exact⟨_,rfl,rfl⟩
 obtain⟨fd,F,_,_,_,_,_,_,e⟩:=dZ.law X G fy g2
 refine⟨fd,fun s v=>by subst e;exact .of_eq rfl,fun base hB _=>?_⟩
 have go:∀{x st k ps sp},dZ K x st->pL l.prog w K mg base k x x st ps sp->az l.prog w K mg base x k ps sp:=dZ.go X G
 have me:∀{C x q st k ps sp},qy K C x q st->pL l.prog w K mg base k x q st ps sp->cS l.prog w K mg base C x k ps sp:=qy.go
 have n:=go l0 (wy T)
 have a2:=go l1 (A5 T)
 have R:=go l2 (wJ T)
 have m:=go l3 (xa T hB)
 have o:=go l4 (xD T hB)
 have f:=go l5 (sO T o)
 have b:=go l6 (sq T hB n)
 have bc:e_ l.prog w K mg base b5 "Floor" 3 ["self", "sizes", "prices", "vias", "rocks", "tolls"] (pG b5):=⟨f7,_,A1 T F7 m f b,⟨ce.mi,a7,i7,ce.kc⟩,Lq X G ce.n,b7⟩
 have a0:=me l8 (zA T)
 have bW:=me l9 (FH T)
 have a3:=me hp (zf T)
 have a5:=me gs (BJ T)
 have U:=me g6 (xA T b)
 have cT:=go eA (Du T)
 have i:=go ft (xk T hB)
 have z:hU l.prog w K mg base b8 "__init__" 2 ["self", "name", "half", "room"] (jX cc b6):=⟨cs,_,A8 T er hB cT,⟨⟨_,hm,hg⟩,rfl,e6,ef⟩,b1⟩
 have a1:e_ l.prog w K mg base cc "Net" 3 ["self", "name", "pins", "half", "room"] (pC cc):=⟨co,_,zt T e5 hB i z,⟨ck.mi,g3,fi,ck.kc⟩,Lq X G ck.n,b4⟩
 have r:=me ew (yS T)
 have a4:e_ l.prog w K mg base b6 "Bundle" 3 ["self", "name", "starts", "goals", "room"] (o6 b6):=⟨ci,_,y_ T fl hB i z,⟨cd.mi,ha,f3,cd.kc⟩,Lq X G cd.n,b3⟩
 have y:=me hn (y9 T)
 have bd:=go gg (Cm T n R U)
 have am:=go fe (BG T)
 have an:=go e4 (yl T a2 am)
 have J:=go eu (xn T an)
 have Q:=go g8 (wW T hB)
 have bb:=go e8 (zl T hB r y bd)
 have A:=go g1 (sd T hB r y J)
 have S:=qy.init (P:=l.prog) (w:=w) (base:=base) X G ct f8 (xx T Q bb A)
 have u:=me fx (qm T)
 have b0:=go eC (FJ T)
 have bD:=go gV (E5 T b0)
 have D:=go f4 (tj T)
 have Y:=go f5 (xT T D)
 have p:=go he (Ar T)
 have ac:=go gp (wz T p)
 have a:=go g7 (um T p)
 have c:=go f2 (wg T ac)
 have d:=go e3 (sj T c)
 have a6:=go fb (yx T a d)
 have bi:=go eE (C9 T a c)
 have bt:=go gt (DD T a c)
 have bl:=go hi (Ck T a d a6 bi bt)
 have ap:=go ge (zV T hB Y bl)
 have Z:=go ex (wF T)
 have O:=go et (xX T bD)
 have ab:=go fr (xi T m o f b bc Z O)
 have N:=go hb (xS T a1 a4)
 have bo:=go gl (CM T S ap ab N)
 have H:=go e0 (Dv T)
 have j:=go hc (wK T)
 have I:=go fC (Dc T)
 have bA:=go ez (C6 T)
 have be:=go f1 (DB T)
 have bv:=go ev (CY T I)
 have M:=go g4 (wB T H j be bv)
 have B:=go g5 (tR T j)
 have W:=go ho (xF T I)
 have av:=go g0 (Bg T)
 have bm:=go f0 (Ca T bA av)
 have E:=Bb (P:=l.prog) (w:=w) (base:=base) (sp:=gZ) X G gm (by(repeat intro _);exact rfl) (fun _ _ _ _ h=>xq h) (fun g=>Dd T g) 5
 have ad:=go hk (Av T E)
 exact(FD T a0 bW a3 a5 u bo H M B W bm E ad).2 F
theorem walk {l:PySem.W.OpenLaw}{g:(Str->Option Value)->Heap->Prop}{c:World->Heap->Prop}{d:DefRec}{K:Params->Je}(i:l.most=some 63)(b:d.params.defaults=[])
  (o:∀(w:World) (h:Heap),c w h->(K w.params).In h)
  (F:∀(w:World) (mg:Str->Option Value) (e:Addr) (h:Heap),(K w.params).In h->h.Ns mainGlobals mg->mg d.name=some (.ref e)->
   ∃fd:FuncData,(∀(s:Shared) (u:Value),BindsTo s fd ⟨[u],[]⟩ [("script",u)])/\∀base:Heap,(K w.params).In base->base.Ns mainGlobals mg->eW l.prog w (K w.params) mg base mq 9 e fd ["script"] (u6 (K w.params))):
  PySem.W.WalkO q loose g c l.row.toRowW d [] (fun f vs=>PySem.call f vs):=
 L2.walk_of (n:=63) (k:=9) (x:= "script") (CX:=fun _=>mq) (sp:=fun w=>u6 (K w.params)) i (by decide) b ⟨rfl,by decide,by decide,rfl⟩ o F (fun _ _ a ns m _ j=>⟨a,ns,rfl,j,m,fun _=>rfl⟩) fun _ _ _ _ _ z=>z
end K18

end
/-! these names are taken, so that the head lays no second forms of the greatest of its objects -/
structure PySem.W.Fast:Prop where
 (tw14379224921851451692 tw9895897094555239895 tw2364397419492775762 tw12467481480749897649 tw14014274685662498799 tw7747024154067555482 tw14890674336215338109 tw9852708488154901369 tw18443018761300074614 tw12113527600444263859 tw7769344398130707550 tw4676198912309687157 tw12588555572029642060 tw17618413010359926977 tw11882945246090143711 tw16239035358918694660 tw8422439744610549682 tw11244239731280707858 tw9352274389687587081 tw1088470765892917000 tw7555634902522225927 tw14189781505287716852 tw6731886594118865869 tw15299865761160177571 tw9625019435753517264 tw11007065505972806603 tw18172077449675089817 tw441600304708793179 tw14908696640507517921 tw10132618046475380327 tw3810193115095264965 tw9725079625857365919 tw11112466126704203063 tw4925532929962476444 tw12659672173679340567 tw5045000647241784837 tw9927337608276411573 tw2750490500850795160 tw12851895334880967878 tw11793900019321349419 tw13567338980589064560 tw11540143839468195905 tw4884542739604819449 tw6020017835645445781 tw1037688893692061355 tw497950674965848330 tw3507641150293810568 tw534370573666470460 tw17047297117006062996 tw14632943711607060636 tw10372538195811651141 tw16179337787312777636 tw10975852384773879612 tw1682718149456714832 tw16877470140900318759 tw2180031337293166020 tw7845374546148975511 tw117354026022704781 tw3603306095830891082 tw1428898487911213129 tw8564164604533227860 tw4328234149557149460 tw102343907485626978 tw11910133567565498938 tw14501623590688035570 tw4615941125939652783 tw1854378103777370357 tw3596680865472578699 tw13167208013488341633 tw9220419086539075018 tw5337699737765773428 tw473615433950467099 tw11668528314768222781 tw590797457430931428 tw12145242448746803600 tw11632836845432345673 tw15434217314330239222 tw15936177916696302697 tw5171556237980272391 tw15153095120299565109 tw7679077262608717961 tw15176511294196801762 tw8449151798118755088 tw5598000350262481651 tw3879579455389002120 tw960273588151810743 tw14282504800160780343 tw11519747391722193774 tw9569902247514887346 tw9552250256136283916 tw1759660919907666593 tw167357875331722975 tw17298362641372540180 tw18413173123039861249 tw12895049109993838931 tw13493064706758074331 tw17230808209800608214 tw6407905677520585295 tw8453362876891843381 tw13445751312370854642 tw6648092743591579615 tw6304830228736813075 tw9186004352296951945 tw11288133316333767875 tw9124105395966491618 tw16656206897299821248 tw15094310786156120354 tw529299845014396113 tw149977567053224220 tw8972231480601663902 tw14976960596292670927 tw15013733701209885876 tw8549176718723488325 tw4592118965798812959 tw1591977384306844866 tw5277327962819675612 tw9151343853313492291 tw10212570219138039465 tw1552639183673508973 tw7304696654360148345 tw180008286725963393 tw2203211004139519662 tw9844063893330559581 tw17733372513074489627 tw2460922868319598061 tw1817268260294568097 tw5707669082249731059 tw3890409465843103730 tw9167648200800492489 tw18098765571064068550 tw12631988883788909018 tw15166328317694285058 tw12895700059127940688 tw10493734902224925380 tw16023566101058390966 tw7552158412075433623 tw16486034641552495561 tw13385256571854017461 tw11351770013718993953 tw9172277113683863472 tw3559787438233893910 tw5737696189917472400 tw14458093576418405586 tw5918496892719746150 tw12741999553538964424 tw3065241955174918163 tw6086012525611037978 tw17138175072314835460 tw8298305222269974764 tw18047879776086231147 tw4105012748562633620 tw4943481060001478742 tw18359751839414216523 tw17724284610850449208 tw1286346960944177459 tw16033173751490247671 tw13875933714914315187 tw11115283524356394461 tw11542407313576321547 tw10060782233195955739 tw16737091663143894128 tw10165291150141094510 tw3422743186625505472 tw16102494285880085030 tw10900851917941536387 tw12129695806363422563 tw10366312837251648032 tw1752073914116174125 tw5055821501807269971 tw11021946209686749263 tw14514545921768052968 tw3292740457397186359 tw12649626024734442576 tw12398329784341981369 tw8427969572107829077 tw4637729764129195190 tw5485352019191888282 tw2907387065083445033 tw13872576019815428697 tw17431262776429471035 tw15709715742883735961 tw4239106717022766308 tw576950869672875799 tw9897031791414320518 tw3091134255727591982 tw9024780543012337010 tw12902100270253062827 tw1230719703556169584 tw17021957946764813312 tw4783085682672387980 tw15694315385726111224 tw5700682294941570101 tw4178400295897633207 tw5222278482624380967 tw14343343708615904895 tw15627928855659101305 tw2129872156145758793 tw15733252505936092643 tw1293041645583112572 tw1920743050184527207 tw11656958933990739393 tw15341442573852342150 tw15561886265702207189 tw10258741757466954069 tw10932378930823212750 tw15812194178676816382 tw16977647558521251430 tw3300005852993933061 tw12279700401999001421 tw11895693267358562773 tw11897395996275692814 tw15450041847237748808 tw3713191876676080438 tw16093131277881120416 tw12601920936314608333 tw15883308954645768081 tw370622430423028743 tw8306827521445618063 tw11962357581478215888 tw12771512389082554846 tw10650878582814394642 tw5030248063861237655 tw9129522820038724155 tw10270570347664764340 tw17660475951761846215 tw5651145076958861547 tw9288481915086937921 tw2575793779566289959 tw9005334932293448401 tw1334707825677785077 tw11276652341188861484 tw10441740142420418416 tw5866993206933346848 tw2735731977817141836 tw4622128560169355985 tw15343183177267067534 tw6535650954125792555 tw11196309806361953665 tw14242854754588610272 tw15549262235766403678 tw14463308390056702212 tw8794702742179123517 tw14291760627464121047 tw11120362783769086376 tw11681555307423715758 tw11166455157107359228 tw10151567227909336475 tw4102690948563860654 tw9628621495931390731 tw6634732980673323538 tw1242578016244693111 tw11338762270449498055 tw8259410650561980514 tw18196496605642477839 tw955939000975338510 tw9756119322496497997 tw10516140591432262368 tw6733028329708171834 tw12794575649277917507 tw3155347850878457322 tw11740951599482494733 tw12464155443126147552 tw5529649076305547599 tw16184280247314229573 tw4140292554539562115 tw15581513418389971536 tw11820807721998245954 tw14961380295136360027 tw18230156818245086631 tw9742508625681502502 tw14909546962383744546 tw15444402493027889682 tw9722262062126196709 tw15075806003959206568 tw12942178929702412897 tw16285567962159672070 tw975627651378654166 tw16662507302567972311 tw6699443022357798997 tw16828974177694350394 tw4867186451128139541 tw3932463603235410006 tw3154831603520713782 tw3370192029137110341 tw17998451919986921573 tw15581151775129649929 tw16112386464057774038 tw11470118723579810822 tw1969534269196943895 tw5637082594689082820 tw8510890395367790466 tw8162640758597581529 tw4775902379348141606 tw2414165180048152515 tw4816074939421076407 tw16692259933109043307 tw17332953763919328791 tw6370582735035531220 tw10073161427316967573 tw13042099470424184879 tw16221281582911000314 tw8287255203737572191 tw17413887982131465945 tw15058160357056912557:True)
open PySem PySem.W PyProof.Rows
set_option maxRecDepth 100000 in
set_option tactic.hygienic true in
set_option maxHeartbeats 0 in
theorem PySem.Challenge.cw_wirefloor_k18_pages_laid_out_loosely_holds : PySem.Challenge.rw_wirefloor_k18_pages_laid_out_loosely.Holds := by
  w_on; o_law; k_head; (case hw => w_witness2)
  k_fill
  refine K18.walk (l := PySem.Challenge.rw_wirefloor_k18_pages_laid_out_loosely) rfl rfl (fun w h Y => PySem.W.kIn_of Y) ?F
  case F =>
    intro w mg fa h KX G hmg
    have N := fun {n} e => @PySem.W.mg_none_of _ _ _ n KX G e
    have M := fun {n v} e => @PySem.W.mg_of _ _ _ n v KX G e
    refine' K18.all_mk KX G hmg ⟨N ?u0, N ?u1, N ?u2, N ?u3, N ?u4, N ?u5, N ?u6, N ?u7, N ?u8, N ?u9, N ?u10, N ?u11, N ?u12, N ?u13, N ?u14, N ?u15, N ?u16, N ?u17, N ?u18, ⟨?u20, ?u21, ?u22, ?u23⟩, M ?u19, L2.ClG.cl ?h0, M (L2.ClG.n ?h0), ?u24, ?u25, ?u26, ?u27, L2.ClG.cl ?h1, M (L2.ClG.n ?h1), ?u28, ?u29, ?u30, ?u31, ?u32, L2.ClG.cl ?h2, M (L2.ClG.n ?h2), ?u33, ?u34, ?u35, ?u36, ?u37, L2.ClG.cl ?h3, M (L2.ClG.n ?h3), ?u38, ?u39, ⟨_, M (by k_is), ⟨_, rfl⟩⟩, ⟨_, M (by k_is), ⟨_, rfl⟩⟩, ⟨_, M (by k_is), ⟨_, rfl⟩⟩, ⟨_, M (by k_is), ⟨_, rfl⟩⟩, ⟨_, M (by k_is), ⟨_, rfl⟩⟩, ⟨_, M (by k_is), ⟨_, rfl⟩⟩, ⟨_, M (by k_is), ⟨_, rfl⟩⟩, ⟨_, M (by k_is), ⟨_, rfl⟩⟩, ⟨_, M (by k_is), ⟨_, rfl⟩⟩, ⟨_, M (by k_is), ⟨_, rfl⟩⟩, ⟨_, M (by k_is), rfl⟩, fun _ => .inr ⟨⟨.type "tuple", _, .seq #[.int 4 _, .int 16 _, .int 16 _] _, _⟩, _, _, (by k_is), rfl, rfl, (by show 3 <= sizeLine; decide), (.cons ⟨_, rfl⟩ (.cons ⟨_, rfl⟩ (.cons ⟨_, rfl⟩ .nil)))⟩, ?u40, ?u41, ?u42, ?u43, ?u44, ?u45, ?u46, ?u47, ?u48, ?u49, ?u50, ?u51, ?u52, ?u53, ?u54, ?u55, ?u56, ?u57, ?u58, ?u59⟩ ?h0 ?h1 ?h2 ?h3 ?h4 ?h5 ?h6 ?h7 ?h8 ?h9 ?h10 ?h11 ?h12 ?h13 ?h14 ?h15 ?h16 ?h17 ?h18 ?h19 ?h20 ?h21 ?h22 ?h23 ?h24 ?h25 ?h26 ?h27 ?h28 ?h29 ?h30 ?h31 ?h32 ?h33 ?h34 ?h35 ?h36 ?h37 ?h38 ?h39 ?h40 ?h41 ?h42 ?h43 ?h44 ?h45 ?h46 ?h47 ?h48 ?h49 ?h50 ?h51 ?h52 ?h53 ?h54 ?h55 ?h56 ?h57 ?h58 ?h59 ?h60 ?h61 ?h62 ?h63 ?h64 ?h65 ?h66 ?h67 ?h68 ?h69 ?h70 ?h71 ?h72 ?h73 ?h74 ?h75 ?h76 ?h77 ?h78 ?h79 ?h80 ?h81 ?h82 ?h83 ?h84 ?h85
    (case h0|h1|h2|h3 => (refine' ⟨?a, ?b, ?c, ?d, ?e, ?f, ?g⟩; (case a => k_is); (case b => k_is); (case c => k_is); (case d => k_is); (case e => k_is); (case f => k_is); (case g => k_is)))
    (case u0|u1|u2|u3|u4|u5|u6|u7|u8|u9|u10|u11|u12|u13|u14|u15|u16|u17|u18|u19|u20|u21|u22|u23|u54|u55|u56|u57|u58|u59|h11|h12|h13|h14|h15|h16|h24|h25|h26|h27|h28|h29|h30|h31|h32|h33|h34|h35|h37|h38|h39|h40|h41|h42 => k_is)
    (case h4|h5|h6|h7|h8|h9|h10|h22|h23|h44|h45|h46|h47|h48|h49|h50|h53|h54|h55|h56|h57|h58|h59|h60|h61|h62|h63|h64|h65|h66|h67|h68|h69|h70|h71|h72|h73|h74|h75|h76|h77|h78|h79|h80|h81|h82|h83|h84|h85 => (refine' L2.fng ?a (L2.fnat ?b ?c ?d); (case a => k_is); (case b => k_is); (case c => k_is); (case d => k_is)))
    (case h17|h18|h19|h20|h21|h36|h43|h51|h52 => (refine' L2.meg ?a ?i (L2.fnat ?b ?c ?d); (case a => k_is); (case i => k_is); (case b => k_is); (case c => k_is); (case d => k_is)))
    (case u40|u41|u42|u43|u44|u45|u46|u47|u48|u49|u50|u51|u52|u53 => kit_is)
    (case u24|u25|u26|u27|u28|u29|u30|u31|u32|u33|u34|u35|u36|u37|u38|u39 => show _ = _; k_is)
