import PyProof.Rows.All
import Wide.All
import OpenK.AllK
import Wide.FinOn
import Lean
import PyProof.EqAt
import PyProof.EqKinds
import PyProof.TupleCall
import OpenK.KRaise
import OpenK.KOwn
import KE.KTryMore
import KE.RegKTryMore
import PyProof.ExcArgsOwn
import KE.KIntText
import KE.KSortTup
import KE.KDictOf
import KE.KRevIter
import KE.KEqDict
import PyProof.Rows.SetFrom
import PyProof.TupleKey
import PyProof.Rows.SetObj
import PyProof.SetRoads
import PyProof.IsiH_list
import PyProof.ZipIter
import PyProof.Rows.TupIter
import PyProof.DictValues
import PyProof.DictWalks
import KE.KDictSum
import KE.KNest
import KE.KLam
import KE.KNestM
import KE.KDictList
import KE.KDictLaws
import PyProof.Rows.SetFrom
import PyProof.TupleKey
import PyProof.Rows.SetObj
import PyProof.SetRoads
import PyProof.StrLawsRepr
import PyProof.ReprStr
import PyProof.FString
import PyProof.EnumMake
import PySem.Challenge.RW_wirefloor_k17_whole_board_there_and_back
set_option Elab.async false
set_option linter.all false
set_option maxRecDepth 100000
set_option tactic.hygienic false
open PySem renaming wpAny_bind -> LJ, wpAny_pure -> LM, wpAny_mono -> Mp, wpAny_holding -> Ms, wpAny_call_entry -> Mu, wpAny_field -> MA, wpAny_truthy_bool -> MU, wpAny_attempt -> MZ, wpAny_dictEntries -> M0, wpAny_Call_Name_kw -> Ng, wpAny_callSpecial?_slot -> Nh, wpAny_seqItems -> Ni
open PySem renaming wpAny_pyIter_list -> Nu, wpAny_isInstance -> NC, wpAny_rule -> NF, wpAny_passesOwn -> NM, wpAny_newObj_type -> NO, wpAny_specialOf -> N3, wpAny_dictEpoch -> N7, wpAny_typeOf -> N8, wpAny_setField_rec -> N_, wpAny_notOrdered_dict -> Oi, wpAny_typeNameOfWhole_keyiter -> OA, wpAny_typeNameOfWhole_valiter -> OB
open List renaming length_map -> LK, mem_map -> LN, length_append -> LP, map_append -> LQ, mem_cons -> LS, map_map -> LV, mem_cons_self -> LX, mem_singleton -> LY, mem_cons_of_mem -> LZ, map_cons -> L1, length_cons -> L5, getElem?_map -> L7
open List renaming mem_of_getElem? -> L9, mem_append -> L_, size_toArray -> Ma, append_nil -> Mb, take_length -> Mc, not_mem_nil -> Md, length_take -> Mg, getElem?_eq_getElem -> Mi, filterMap_append -> Mj, append_assoc -> Mn, getElem?_eq_some_iff -> Mo, pairwise_map -> Mr
open List renaming lookup_cons -> Mw, foldl_cons -> Mx, map_congr_left -> My, mem_append_right -> MC, mem_range -> ME, mem_filterMap -> MF, nodup_cons -> MG, getD_eq_getElem?_getD -> MI, flatMap_singleton -> MJ, mem_append_left -> MM, flatMap_cons -> MP, nodup_append -> MQ
open List renaming mem_reverse -> MR, flatMap_append -> MT, map_nil -> MV, any_cons -> MX, map_take -> M_, lookup -> Nf, filterMap_cons -> Nr, getElem?_append_right -> Ny, length_replicate -> Nz, all_eq_true -> NB, take_succ -> NH, mem_flatMap -> NK
open List renaming map_reverse -> NL, nodup_nil -> NN, nil_append -> NP, getElem?_eq_none -> NQ, length_reverse -> NR, range_succ -> NS, map_id -> NU, filter_append -> NV, any_eq_false -> NY, find?_cons -> N0, ext_getElem? -> N6, foldl_append -> N9
open List renaming getElem?_append_left -> Of, cons_append -> Og, length_range -> Oh, reverse_cons -> Ou, getElem?_toArray -> Ov, eq_nil_of_length_eq_zero -> Ox, filter_cons_of_pos -> Oy, filter_cons_of_neg -> Oz, getElem?_range -> OD, pairwise_iff_getElem -> OE, take_of_length_le -> OF, length_filter_le -> OG
open List renaming filter_eq_self -> OH
open Nat renaming le_refl -> LL, le_trans -> LR, zero_le -> L0, ne_of_lt -> L3, lt_of_lt_of_le -> Me, lt_irrefl -> ML, min_eq_left -> M9, le_of_lt -> Nq, ne_of_gt -> Nt, succ_le_succ -> NG, le_add_right -> NI, mod_lt -> NJ
open Nat renaming lt_succ_self -> NZ, lt_of_le_of_lt -> N4, lt_succ_of_lt -> N5, zero_add -> Oa, mul_le_mul_right -> Od, div_div_eq_div_mul -> Ol, eq_zero_or_pos -> On
open PySem.W renaming Frag -> LO, kitOne -> Mf, fnOf -> Mh, findIn -> Mq, keepIn -> Mv, kia_one -> MN, codeIn -> MO, emptyDict -> Nd, instObj -> Np, isFn -> Nw, mg_of -> Ob, plainGet -> Oe
open PySem.W renaming hasDictIn -> Oo, specialIn -> Oq, callWith_K -> Os, methodCall_KW -> Ot
open PySem.Heap renaming get?_push_of_some -> LU, lt_size -> LW, get?_push_size -> L4, size_push -> Mz, get?_update_self -> MW, get?_none_of_le -> NX
open Bool renaming false_ne_true -> L6, and_eq_true -> MD, eq_iff_iff -> Nv
open Ne renaming symm -> L8
open PyProof.Rows renaming wpS_bind -> Ml, wpS_pure -> MS, wpS_forRange -> Oc
open PySem.F renaming plainAttrs_list -> Mm, slot_list_append -> Nk, type_list_append -> Nl, slot_list_extend -> Nm, type_list_extend -> Nn, plainAttrs_str -> Om, entry_tuple_add -> OJ, args_tuple_add_2 -> OK
open Array renaming length_toList -> Mt, mem_toList_iff -> Nc, getElem?_eq_getElem -> Nj, getElem?_toList -> ND, getElem?_eq_none -> Oj, getElem?_eq_some_iff -> OC, getD_eq_getD_getElem? -> OL
open Int renaming toNat_natCast -> MH, natCast_add -> MK, emod_nonneg -> Na, emod_lt_of_pos -> Nb
open Option renaming map_eq_some_iff -> MY, map_some -> NW, isSome_iff_exists -> OI
noncomputable section
namespace L2
open PySem PySem.Spec PyProof.Rows
abbrev cS:=Sum Int Str
noncomputable def oQ:cS->Value->Bool
 | .inl k,v=>Value.isInt k v
 | .inr x,v=>Value.isStrOf x v
noncomputable def KJ (w:World):cS->Int
 | .inl k=>hashInt k
 | .inr x=>hashStr w x
theorem cE:∀{k:cS} {v:Value},oQ k v=true->(∃i t,k=Sum.inl i/\v=Value.int i t)\/(∃x t,k=Sum.inr x/\v=Value.str x t)
 | .inl i,v,h=>by
  obtain⟨t,e⟩:=Value.isInt_shape (k:=i) (v:=v) h
  exact .inl ⟨i,t,rfl,e⟩
 | .inr x,v,h=>by
  obtain⟨t,e⟩:=Value.isStrOf_shape (x:=x) (v:=v) h
  exact .inr ⟨x,t,rfl,e⟩
theorem yY (i:Int)(t:Tok):oQ (.inl i) (.int i t)=true:=by simp[oQ,Value.isInt]
theorem zA (x:Str)(t:Tok):oQ (.inr x) (.str x t)=true:=by simp[oQ,Value.isStrOf]
theorem Iv (a b:Int):decide ((Sum.inl a:cS)=Sum.inl b)=(a==b):=by
 by_cases e:a=b
 ·subst e;simp
 ·have h:¬(Sum.inl a:cS)=Sum.inl b:=λq=>e (Sum.inl.inj q)
  rw[decide_eq_false h]
  exact(beq_eq_false_iff_ne.mpr e).symm
theorem G3 (a b:Str):decide ((Sum.inr a:cS)=Sum.inr b)=decide (a=b):=by
 by_cases e:a=b
 ·subst e;simp
 ·have h:¬(Sum.inr a:cS)=Sum.inr b:=λq=>e (Sum.inr.inj q)
  rw[decide_eq_false h,decide_eq_false e]
theorem Ir (a:Int)(b:Str):decide ((Sum.inl a:cS)=Sum.inr b)=false:=decide_eq_false (λq=>nomatch q)
theorem HV (a:Str)(b:Int):decide ((Sum.inr a:cS)=Sum.inl b)=false:=decide_eq_false (λq=>nomatch q)
noncomputable def bo (prog:Program) (w:World):PySem.KeyKind prog w cS where
 is:=oQ
 hash:=KJ w
 inj:=λv a b ha d=>by
  rcases cE ha with ⟨i,t,rfl,rfl⟩|⟨x,t,rfl,rfl⟩
  ·rcases cE d with ⟨j,u,rfl,e⟩|⟨y,u,rfl,e⟩
   ·injection e with e1 _;rw[e1]
   ·exact nomatch e
  ·rcases cE d with ⟨j,u,rfl,e⟩|⟨y,u,rfl,e⟩
   ·exact nomatch e
   ·injection e with e1 _;rw[e1]
 byValue:=λk v h=>by
  rcases cE h with ⟨i,t,rfl,rfl⟩|⟨x,t,rfl,rfl⟩<;>rfl
 pyHash:=λc h=>by
  rcases cE c with ⟨i,t,rfl,rfl⟩|⟨x,t,rfl,rfl⟩
  ·exact wpAny_pyHash_int h
  ·exact wpAny_pyHash_str h
 eqBool:=λf c h=>by
  rcases cE f with ⟨i,t,rfl,rfl⟩|⟨x,t,rfl,rfl⟩
  ·rcases cE c with ⟨j,u,rfl,rfl⟩|⟨y,u,rfl,rfl⟩
   ·rw[Iv] at h;exact wpAny_eqBool_int h
   ·rw[Ir] at h;exact SeqAt.EqAt.int_str i t y u _ _ _ _ h
  ·rcases cE c with ⟨j,u,rfl,rfl⟩|⟨y,u,rfl,rfl⟩
   ·rw[HV] at h;exact SeqAt.EqAt.str_int x t j u _ _ _ _ h
   ·rw[G3] at h;exact wpAny_eqBool_str h
 «strs»:=λk x t v h=>by
  rcases cE h with ⟨i,u,rfl,e⟩|⟨y,u,rfl,e⟩
  ·exact nomatch e
  ·injection e with e1 _
   subst e1
   cases v<;>rfl
theorem tY (prog:Program)(w:World)(i:Int)(t:Tok):(bo prog w).is (.inl i) (.int i t)=true:=yY i t
theorem tj (prog:Program)(w:World)(x:Str)(t:Tok):(bo prog w).is (.inr x) (.str x t)=true:=zA x t
inductive V where
 |non|bl (b:Bool)|int (i:Int)|str (x:Str)|byt (b:Array UInt8)|flt (b:UInt64)|ref (a:Addr)|ty (n:String)
 deriving DecidableEq
noncomputable def aZ:V->Value->Prop
 | .non,u=>u=Value.none
 | .bl b,u=>u=Value.bool b
 | .int i,u=>∃t,u=Value.int i t
 | .str x,u=>∃t,u=Value.str x t
 | .byt b,u=>∃t,u=Value.bytes b t
 | .flt b,u=>∃t,u=Value.float b t
 | .ref a,u=>u=Value.ref a
 | .ty n,u=>u=Value.type n
abbrev aW:List V->List Value->Prop:=Paired aZ
theorem aW.length(r:aW xs us):xs.length=us.length:=Paired.length r
theorem Ar {c d:Type}{R:c->d->Prop}{as:List c}{bs:List d}(h:Paired R as bs):∀{i:Nat} {a:c},as[i]?=some a->∃b,bs[i]?=some b/\R a b:=by
 induction h with
 |nil=>intro i a e;simp at e
 |cons r t ih=>
  intro i a e
  cases i with
  |zero=>simp at e;subst e;exact⟨_,rfl,r⟩
  |succ i=>
   obtain⟨u,h1,h2⟩:=ih (i:=i) (a:=a) (by simpa using e)
   exact⟨u,by simpa using h1,h2⟩
theorem aW.get {xs:List V}{us:List Value}{i:Nat}{x:V}(h:aW xs us)(e:xs[i]?=some x):∃u,us[i]?=some u/\aZ x u:=Ar h e
theorem aW.set {x:V}{u:Value}(r:aZ x u){xs:List V}{us:List Value}(i:Nat)(h:aW xs us):aW (xs.set i x) (us.set i u):=by
 induction h generalizing i with
 |nil=>exact .nil
 |cons q t ih=>
  cases i with
  |zero=>exact .cons r t
  |succ i=>exact .cons q (ih i)
theorem kD {b c:Type}{F:b->c->Prop}{as bs:List b}{cs a:List c}(h:Paired F as cs)(t:Paired F bs a):Paired F (as++bs) (cs++a):=by
 induction h with
 |nil=>exact t
 |cons h s ih=>exact .cons h ih
theorem aW.append(h:aW xs us)(t:aW ys ws):aW (xs++ys) (us++ws):=kD h t
theorem tD {a b:Type}{R:a->b->Prop}(k:Nat){as:List a}{bs:List b}(h:Paired R as bs):Paired R (as.take k) (bs.take k):=by
 induction h generalizing k with
 |nil=>rw[List.take_nil,List.take_nil];exact .nil
 |cons r t ih=>
  cases k with
  |zero=>exact .nil
  |succ k=>exact .cons r (ih k)
theorem aW.take {xs:List V}{us:List Value}(n:Nat)(h:aW xs us):aW (xs.take n) (us.take n):=tD n h
theorem sP {a b:Type}{R:a->b->Prop}(k:Nat){as:List a}{bs:List b}(h:Paired R as bs):Paired R (as.drop k) (bs.drop k):=by
 induction h generalizing k with
 |nil=>rw[List.drop_nil,List.drop_nil];exact .nil
 |cons r t ih=>
  cases k with
  |zero=>exact .cons r t
  |succ k=>exact ih k
theorem aW.drop {xs:List V}{us:List Value}(n:Nat)(h:aW xs us):aW (xs.drop n) (us.drop n):=sP n h
noncomputable def i9:Option V->Option Value->Prop
 |some v,some u=>aZ v u
 |none,none=>True
 |_,_=>False
noncomputable def KV {a:Type}:List (a×V)->List (a×Value)->Prop:=Paired λ(p:a×V) (q:a×Value)=>p.1=q.1/\aZ p.2 q.2
def kV:cS->V
 | .inl i=> .int i
 | .inr x=> .str x
inductive HO where
 |lst (xs:List V)
 |tup (xs:List V)
 |dK (kvs:List (cS×V))|dT (kvs:List (List cS×V))
 |set (S:Int->Bool) (n:Nat)
 |ins (C dx:Addr) (fs:List (Str×V))
 |own (x:Addr)
 |xd (fs:List (Str×V))
 |met (f x:Addr)
 |rng (lo hi:Int)
 |frz (o:Obj) (u:HO)
 |tbl (ps:Array Value)
 |ext (φ:Heap->Prop)
abbrev Hp:=Addr->Option HO
noncomputable def upd (H:Hp) (a:Addr) (o:HO):Hp:=λb=>if b=a then some o else H b
theorem ae:upd H a o a=some o:=by unfold upd;rw[if_pos rfl]
theorem ak(h:b≠a):upd H a o b=H b:=by unfold upd;rw[if_neg h]
theorem gU:upd (upd H a o) a u=upd H a u:=by
 funext b;unfold upd;split<;>rfl
theorem cQ {H:Hp}{a b:Addr}{o u:HO}(h:H a=some o)(h':H b=some u)(d:o≠u):a≠b:=by
 intro e;subst e;rw[h] at h';exact d (Option.some.inj h')
theorem ax {H:Hp}{a b:Addr}{o:HO}(h:H a=some o)(h':H b=none):a≠b:=by
 intro e;subst e;rw[h] at h';cases h'
section
variable (P:Program) (w:World)
noncomputable def bV (H:Hp) (h:Heap) (a:Addr):HO->Prop
 | .lst xs=>xs.length<=sizeLine/\∃(b:List Value) (n:Nat),aW xs b/\h.get? a=some {cls:=.type "list",data:=.seq b.toArray n}
 | .tup xs=>xs.length<=sizeLine/\∃b:List Value,aW xs b/\IsTup h a b.toArray
 | .dK kvs=>kvs.length<=sizeLine/\(a==sysModules)=false/\∃vs,KV kvs vs/\h.DictOf (bo P w) a vs
 | .dT kvs=>kvs.length<=sizeLine/\(a==sysModules)=false/\∃xs:List (List cS×Addr×Value),
   Paired (λ(p:List cS×V) (q:List cS×Addr×Value)=>p.1=q.1/\H q.2.1=some (.tup (p.1.map kV))/\aZ p.2 q.2.2) kvs xs/\
   ∃o es ep,h.get? a=some o/\o.ExactDict/\o.data=.dict es ep/\es.toList=xs.map (entryOfKey (tupleKind (bo P w)))/\(xs.map (·.1)).Nodup
 | .set S n=>h.SetOf (intKind P w) a S n
 | .ins C dx fs=>H dx=some (.own a)/\fs.length<=1000/\dx≠a/\h.get? a=some (Np C dx)/\
   ∃mA,h.Ns1 dx mA/\(∀f,i9 (fs.lookup f) (mA f))/\PySem.Within mA (fs.map (·.1))
 | .own _=>∃o,h.get? a=some o
 | .xd fs=>∃mA,h.Ns1 a mA/\∀f,i9 (fs.lookup f) (mA f)
 | .rng lo hi=>∃t u v,h.get? a=some {cls:=.type "range",data:=.fields #[.int lo t,.int hi u,.int 1 v]}
 | .frz o u=>h.get? a=some o/\bV H h a u
 | .tbl ps=>h.get? a=some {cls:=.none,data:=.fields ps}
 | .met f x=>h.get? a=some (PySem.W.methodObj (.ref f) (.ref x))
 | .ext φ=>φ h/\(∃o,h.get? a=some o)/\∀h1 h2:Heap,φ h1->(∀o,h1.get? a=some o->h2.get? a=some o)->φ h2
def iL (H:Hp) (h:Heap):Prop:=∀a o,H a=some o->bV P w H h a o
end
section
variable {P:Program} {w:World} {H H':Hp} {h h':Heap} {a:Addr} {o:HO}
theorem bV.lt (x:bV P w H h a o):a<h.objs.size:=by
 cases o with
 |lst xs=>obtain⟨_,_,_,_,e⟩:=x;exact LW e
 |tup xs=>obtain⟨_,_,_,p⟩:=x;exact p.lt
 |dK kvs=>obtain⟨_,_,_,_,o,_,_,e,_⟩:=x;exact LW e
 |dT kvs=>obtain⟨_,_,_,_,o,_,_,e,_⟩:=x;exact LW e
 |set S n=>obtain⟨o,_,_,_,e,_⟩:=x;exact LW e
 |ins C dx fs=>obtain⟨_,_,_,e,_⟩:=x;exact LW e
 |own y=>obtain⟨_,e⟩:=x;exact LW e
 |xd fs=>obtain⟨_,⟨_,_,_,e,_⟩,_⟩:=x;exact LW e
 |rng lo hi=>obtain⟨_,_,_,e⟩:=x;exact LW e
 |frz ob u=>obtain⟨e,_⟩:=x;exact LW e
 |tbl ps=>exact LW (show h.get? a=some _ from x)
 |met f y=>exact LW (show h.get? a=some _ from x)
 |ext φ=>obtain⟨_,⟨_,e⟩,_⟩:=x;exact LW e
theorem Paired.mapP {d e:Type}{F G:d->e->Prop}{c:List d}{l₂:List e}(h:Paired F c l₂)(f:∀a b,F a b->G a b):Paired G c l₂:=by
 induction h with
 |nil=>exact .nil
 |cons r t ih=>exact .cons (f _ _ r) ih
theorem bV.stay (x:bV P w H h a o)(k:∀b u,(b=a\/H b=some (.own a))->h.get? b=some u->h'.get? b=some u)
  (B:∀b,H b=some (.own a)->H' b=some (.own a)) (A:∀b xs,H b=some (.tup xs)->H' b=some (.tup xs)):bV P w H' h' a o:=by
 induction o with
 |lst xs=>obtain⟨z,g,n,r,e⟩:=x;exact⟨z,g,n,r,k _ _ (.inl rfl) e⟩
 |tup xs=>obtain⟨z,g,r,j,e,c⟩:=x;exact⟨z,g,r,j,k _ _ (.inl rfl) e,c⟩
 |dK kvs=>obtain⟨z,y,vs,r,j,es,ep,e,c⟩:=x;exact⟨z,y,vs,r,j,es,ep,k _ _ (.inl rfl) e,c⟩
 |dT kvs=>
  obtain⟨z,y,xs,r,j,es,ep,e,c⟩:=x
  exact⟨z,y,xs,Paired.mapP r λp q z=>⟨z.1,A _ _ z.2.1,z.2.2⟩,j,es,ep,k _ _ (.inl rfl) e,c⟩
 |set S n=>obtain⟨j,es,ep,t,e,c⟩:=x;exact⟨j,es,ep,t,k _ _ (.inl rfl) e,c⟩
 |ins C dx fs=>
  obtain⟨d,z,m,e,mA,⟨l,es,ep,s,c⟩,r⟩:=x
  exact⟨B _ d,z,m,k _ _ (.inl rfl) e,mA,⟨l,es,ep,k _ _ (.inr d) s,c⟩,r⟩
 |own y=>obtain⟨j,e⟩:=x;exact⟨j,k _ _ (.inl rfl) e⟩
 |xd fs=>obtain⟨mA,⟨l,es,ep,e,c⟩,r⟩:=x;exact⟨mA,⟨l,es,ep,k _ _ (.inl rfl) e,c⟩,r⟩
 |rng lo hi=>obtain⟨t,u,v,e⟩:=x;exact⟨t,u,v,k _ _ (.inl rfl) e⟩
 |frz j u ih=>obtain⟨e,q⟩:=x;exact⟨k _ _ (.inl rfl) e,ih q⟩
 |tbl ps=>
  have e:h.get? a=some {cls:=.none,data:=.fields ps}:=x
  exact k a _ (.inl rfl) e
 |met f y=>
  have e:h.get? a=some (PySem.W.methodObj (.ref f) (.ref y)):=x
  exact k a _ (.inl rfl) e
 |ext φ=>obtain⟨p,⟨o,e⟩,st⟩:=x;exact⟨st _ _ p λo q=>k _ _ (.inl rfl) q,⟨o,k _ _ (.inl rfl) e⟩,st⟩
theorem iL.lt (x:iL P w H h)(e:H a=some o):a<h.objs.size:=(x a o e).lt
theorem iL.fresh (x:iL P w H h)(e:h.objs.size<=a):H a=none:=by
 cases q:H a with
 |none=>rfl
 |some u=>exact absurd (Me (x.lt q) e) (ML _)
theorem iL.kept (x:iL P w H h)(k:∀b u,h.get? b=some u->h'.get? b=some u):iL P w H h':=λa o e=>
 (x a o e).stay (λb u _ q=>k b u q) (λ_ q=>q) λ_ _ q=>q
theorem iL.laid (x:iL P w H h)(k:∀b u,h.get? b=some u->h'.get? b=some u)(f:h.objs.size<=a)(new:bV P w (upd H a o) h' a o):iL P w (upd H a o) h':=λb u e=>by
 have d:=x.fresh f
 by_cases hb:b=a
 ·subst hb;rw[ae] at e;cases e;exact new
 ·rw[ak hb] at e
  exact(x b u e).stay (λc v _ q=>k c v q) (λc q=>by rw[ak (ax q d)];exact q) λc xs q=>by rw[ak (ax q d)];exact q
end
def Rd (H:Hp) (a:Addr) (u:HO):Prop:=H a=some u\/∃o,H a=some (.frz o u)
theorem Rd.ok(r:Rd H a u)(x:iL P w H h):bV P w H h a u:=by
 rcases r with r|⟨o,r⟩
 ·exact x a u r
 ·obtain⟨_,q⟩:=x a _ r
  exact q
noncomputable def FR:Option HO->Prop
 |some (.lst _)=>True
 |some (.dK _)=>True
 |some (.dT _)=>True
 |some (.set _ _)=>True
 |some (.ins _ _ _)=>True
 |some (.ext _)=>True
 |_=>False
section
variable {P:Program} {w:World} {H:Hp} {h h':Heap} {x e:Addr} {o':HO}
theorem iL.write (ok:iL P w H h)(f:FR (H x))(l:e=x\/H e=some (.own x))(k:∀b u,b≠e->h.get? b=some u->h'.get? b=some u)(g:∃u,h'.get? e=some u)
  (new:bV P w (upd H x o') h' x o'):iL P w (upd H x o') h':=λb u q=>by
 have a:∀c y,H c=some (.own y)->c≠x:=λc y r z=>by subst z;rw[r] at f;exact f
 have d:∀c xs,H c=some (.tup xs)->c≠x:=λc xs r z=>by subst z;rw[r] at f;exact f
 by_cases hb:b=x
 ·subst hb;rw[ae] at q;cases q;exact new
 ·rw[ak hb] at q
  by_cases hbe:b=e
  ·have j:H b=some (.own x):=by
    rcases l with z|z
    ·exact absurd (hbe.trans z) hb
    ·rw[hbe];exact z
   rw[q] at j;cases j
   obtain⟨v,m⟩:=g
   exact⟨v,by rw[hbe];exact m⟩
  ·refine(ok b u q).stay (λc v hc r=>k c v ?_ r) (λc r=>by rw[ak (a c b r)];exact r) λc xs r=>by rw[ak (d c xs r)];exact r
   rcases hc with rfl|hc
   ·exact hbe
   ·rintro rfl
    rcases l with z|z
    ·exact a c b hc z
    ·rw[hc] at z;cases z;exact hb rfl
end
structure Un (fs ex:List Addr) (H H':Hp) (h h':Heap):Prop where
 keep:∀b o,h.get? b=some o->H b=none->b∉fs->b∉ex->h'.get? b=some o
 slot:∀b o,h.get? b=some o->H b=none->b∈fs->b∉ex->∃sl,h'.get? b=some {o with slots:=sl}
 free:∀b o,h.get? b=some o->H b=none->b∉ex->H' b=none
 there:∀b o,h.get? b=some o->b∉ex->∃o',h'.get? b=some o'
 tups:∀b xs,H b=some (.tup xs)->H' b=some (.tup xs)
 frzs:∀b o u,H b=some (.frz o u)->H' b=some (.frz o u)
 tbls:∀b ps,H b=some (.tbl ps)->∃more,H' b=some (.tbl (ps++more))
section
variable {fs fs' ex ex':List Addr} {H H1 H2:Hp} {h h1 h2 h':Heap} {a x e:Addr} {o:HO}
theorem Un.any (u:Un fs ex H H1 h h1){b:Addr}{ob:Obj}(q:h.get? b=some ob)(n:H b=none)(hx:b∉ex):∃a,h1.get? b=some {ob with slots:=a}:=by
 by_cases hb:b∈fs
 ·exact u.slot b ob q n hb hx
 ·exact⟨ob.slots,u.keep b ob q n hb hx⟩
theorem Un.kept (k:∀b u,h.get? b=some u->h'.get? b=some u):Un fs ex H H h h':=
 ⟨λb a q _ _ _=>k b a q,λb a q _ _ _=>⟨a.slots,k b a q⟩,λ_ _ _ n _=>n,λb a q _=>⟨a,k b a q⟩,λ_ _ q=>q,λ_ _ _ q=>q,λ_ ps q=>⟨#[],by rw[q];simp⟩⟩
theorem Un.refl:Un fs ex H H h h:=Un.kept λ_ _ q=>q
theorem Un.laid (k:∀b u,h.get? b=some u->h'.get? b=some u)(d:h.objs.size<=a)(c:H a=none):Un fs ex H (upd H a o) h h' where
 keep:=λb u q _ _ _=>k b u q
 slot:=λb u q _ _ _=>⟨u.slots,k b u q⟩
 free:=λb u q n _=>by rw[ak (L3 (Me (LW q) d))];exact n
 there:=λb u q _=>⟨u,k b u q⟩
 tups:=λb xs q=>by rw[ak (ax q c)];exact q
 frzs:=λb u xs q=>by rw[ak (ax q c)];exact q
 tbls:=λb ps q=>⟨#[],by rw[ak (ax q c),q];simp⟩
theorem Un.write (a:FR (H x))(j:e=x\/H e=some (.own x))(k:∀b u,b≠e->h.get? b=some u->h'.get? b=some u)(c:∃u,h'.get? e=some u):Un fs ex H (upd H x o) h h':=by
 have g:∀b,H b=none->b≠x:=λb n z=>by subst z;rw[n] at a;exact a
 have f:∀b,H b=none->b≠e:=λb n z=>by
  subst z
  rcases j with r|r
  ·exact g b n r
  ·rw[n] at r;cases r
 have d:∀b u,H b=some u->¬FR (some u)->b≠x:=λb u q l z=>by subst z;rw[q] at a;exact l a
 refine⟨λb u q n _ _=>k b u (f b n) q,λb u q n _ _=>⟨u.slots,k b u (f b n) q⟩,λb u q n _=>by rw[ak (g b n)];exact n,λb u q _=>?_,
  λb xs q=>by rw[ak (d b _ q λz=>z)];exact q,λb u xs q=>by rw[ak (d b _ q λz=>z)];exact q,λb ps q=>⟨#[],by rw[ak (d b _ q λz=>z),q];simp⟩⟩
 by_cases hbe:b=e
 ·subst hbe;exact c
 ·exact⟨u,k b u hbe q⟩
end
noncomputable def uX (h:Heap) (H:Hp):List Addr:=(List.range h.objs.size).filter λa=>(H a).isSome
def qo (h:Heap) (H:Hp):Heap:=PySem.W.hideAll h (uX h H)
theorem yq (h:Heap)(H:Hp):(qo h H).objs.size=h.objs.size:=PySem.W.hideAll_size _ _
theorem CJ(e:h.get? b=some o)(n:H b=none):(qo h H).get? b=some o:=
 PySem.W.hideAll_get _ e λa=>by
  have q:(H b).isSome=true:=(List.mem_filter.mp a).2
  rw[n] at q;simp at q
theorem EZ(e:(qo h H).get? b=some o):h.get? b=some o/\H b=none:=by
 have a:h.get? b=some o:=PySem.W.of_hideAll (uX h H) e
 refine⟨a,?_⟩
 cases q:H b with
 |none=>rfl
 |some x=>
  have c:b∈uX h H:=List.mem_filter.mpr ⟨ME.mpr (LW a),by simp[q]⟩
  have z:(qo h H).get? b=none:=PySem.W.hideAll_none (uX h H) c
  rw[z] at e;cases e
noncomputable def iN (g h:Heap) (L:Addr):List (Addr×Obj):=(List.range h.objs.size).filterMap λa=>if a=L\/(g.get? a).isSome=true then none else (h.get? a).map λo=>(a,o)
theorem gb{L:Addr}(h1:a≠L)(c:g.get? a=none)(b:h.get? a=some o):(a,o)∈iN g h L:=
 MF.mpr ⟨a,ME.mpr (LW b),by simp[h1,c,b]⟩
theorem mB{L:Addr}{p:Addr×Obj}(a:p∈iN g h L):p.1≠L/\g.get? p.1=none/\h.get? p.1=some p.2:=by
 obtain⟨b,_,e⟩:=MF.mp a
 split at e
 ·cases e
 ·rename_i hn
  cases q:h.get? b with
  |none=>rw[q] at e;simp at e
  |some u=>
   rw[q] at e
   simp only[NW,Option.some.injEq] at e
   subst e
   refine⟨λz=>hn (.inl z),?_,q⟩
   cases r:g.get? b with
   |none=>rfl
   |some v=>exact(hn (.inr (by simp[r]))).elim
noncomputable def rest (g h:Heap) (L d:Addr):List (Addr×Obj):=(iN g h L).filter λp=>decide (p.1≠d)
theorem mG{L:Addr}:News g L h (iN g h L):=λp d=>let ⟨a,b,c⟩:=mB d;⟨c,a,b⟩
structure Mod (K:LO) (mg:Str->Option Value) (base:Heap):Prop where
 kin:K.In base
 glob:base.Ns mainGlobals mg
 blt:∃mb,base.Ns builtinsNs mb/\∀x:Str,x≠ "__name__" ->mb x=bootBuiltins x
 nolimit:base.NoLimit
structure Cx where
 prog:Program
 w:World
 K:LO
 mg:Str->Option Value
 base:Heap
 A:Around
 N:List Str
 s₀:Shared
 H₀:Hp
 env:Env
 outer:List Env
 stack:List Env
 ex:List Addr
 fn:Str->Bool
 calm:Bool
 pn:List (Addr×Obj)
 xe:Value->Shared->Prop
def zP (l:List Env):List Addr:=l.filterMap (·.frame)
abbrev Cx.fs (X:Cx):List Addr:=zP X.outer
def Ln (a:Scope) (x:Str):Prop:=a.names.lookup x=some .local\/a.names.lookup x=some .cell\/a.names.lookup x=some .free
def IP (a:Scope) (x:Str):Prop:=a.names.lookup x=some .local\/a.names.lookup x=some .cell
def K3 (env:Env) (h:Heap) (m:Str->Option Value) (x:Str) (u:Value):Prop:=
 (env.kindOf x=some .local/\m x=some u)\/((env.kindOf x=some .cell\/env.kindOf x=some .free)/\∃c,env.cells.lookup x=some c/\h.IsCell c (some u))
structure Cx.Ok (X:Cx):Prop where
 mod:Mod X.K X.mg X.base
 kind:X.env.scope.kind=.function
 glob:X.env.globals=mainGlobals
 blt:X.env.builtins=builtinsNs
 above:X.s₀.heap.objs.size<=X.env.locals
 inj:∀x y c,X.env.cells.lookup x=some c->X.env.cells.lookup y=some c->x=y
 has:∀x,(X.env.kindOf x=some .cell\/X.env.kindOf x=some .free)->∃c,X.env.cells.lookup x=some c
 cab:∀x c,X.fn x=true->X.env.cells.lookup x=some c->X.s₀.heap.objs.size<=c
 hd:X.calm=true->X.A.handled=none
 frames:X.A.frames=some X.stack
 stk:X.stack=X.outer\/(X.stack=X.env::X.outer/\X.env.frame=some X.env.locals)
 exf:∀b∈X.ex,b≠X.env.locals/\∀x c,X.env.cells.lookup x=some c->c≠b
 bs:∀b o,X.base.get? b=some o->X.s₀.heap.get? b=some o/\X.H₀ b=none
 bsz:X.base.objs.size<=X.s₀.heap.objs.size
 noex:∀b o,X.base.get? b=some o->b∉X.ex
 exfs:∀b∈X.ex,b∉X.fs
 funs:X.s₀.heap.FunFrames X.base X.outer
 frf:∀b∈X.fs,X.H₀ b=none
structure aJ (X:Cx) (pins:List (Addr×Obj)) (σ:List (Option V)) (H:Hp) (s:Shared):Prop where
 ok:X.Ok
 os:s.os=X.s₀.os
 bare:AllBare s.gens
 base:Un X.fs X.ex X.H₀ H X.s₀.heap s.heap
 loc:∃m,s.heap.Ns X.env.locals m/\∀(i:Nat) (x:Str) (v:V),X.N[i]?=some x->σ[i]?=some (some v)->Ln X.env.scope x->∃u,aZ v u/\K3 X.env s.heap m x u
 cell:∀x c,X.env.cells.lookup x=some c->∃v,s.heap.IsCell c v
 free:H X.env.locals=none
 freeC:∀x c,X.env.cells.lookup x=some c->H c=none
 pin:∀p∈X.pn++pins,s.heap.get? p.1=some p.2/\H p.1=none/\p.1≠X.env.locals/\p.1∉X.fs/\∀v,p.2.data≠.cell v
 hok:iL X.prog X.w H s.heap
 len:σ.length=X.N.length
section
variable {X:Cx} {pins:List (Addr×Obj)} {σ:List (Option V)} {H H':Hp} {s:Shared} {h':Heap}
theorem Cx.Ok.nofr (ok:X.Ok){b:Addr}{o:Obj}(e:X.base.get? b=some o):b∉X.fs:=λa=>by
 have:=(ok.funs.mem a).1
 rw[e] at this;cases this
theorem aJ.bs (I:aJ X pins σ H s):∀b o,X.base.get? b=some o->s.heap.get? b=some o/\H b=none:=λb o e=>
 ⟨I.base.keep b o (I.ok.bs b o e).1 (I.ok.bs b o e).2 (I.ok.nofr e) (I.ok.noex b o e),I.base.free b o (I.ok.bs b o e).1 (I.ok.bs b o e).2 (I.ok.noex b o e)⟩
theorem aJ.bk (I:aJ X pins σ H s):∀b o,X.base.get? b=some o->s.heap.get? b=some o:=λb o e=>(I.bs b o e).1
theorem aJ.mod (I:aJ X pins σ H s):Mod X.K X.mg X.base:=I.ok.mod
theorem aJ.kIn (I:aJ X pins σ H s):X.K.In s.heap:=I.ok.mod.kin.keeps I.bk
theorem aJ.lt (I:aJ X pins σ H s):X.env.locals<s.heap.objs.size:=let ⟨_,hn,_⟩:=I.loc;hn.lt
theorem aJ.sz (I:aJ X pins σ H s):X.s₀.heap.objs.size<=s.heap.objs.size:=LR I.ok.above (Nq I.lt)
theorem aJ.nofs (I:aJ X pins σ H s){a:Addr}(h:s.heap.objs.size<=a):a∉X.fs:=λb=>by
 obtain⟨_,o,c,_⟩:=I.ok.funs.mem b
 exact absurd (Me (LW c) (LR I.sz h)) (ML _)
theorem aJ.cne (I:aJ X pins σ H s):∀x c,X.env.cells.lookup x=some c->c≠X.env.locals:=λx c e z=>by
 obtain⟨v,o,d,hd⟩:=I.cell x c e
 obtain⟨m,⟨o',es,ep,b,a,_⟩,_⟩:=I.loc
 rw[z,b] at d;cases d;rw[a] at hd;cases hd
theorem aJ.funs (I:aJ X pins σ H s):s.heap.FunFrames X.base X.outer:=by
 have all:∀(l:List Env),(∀b∈zP l,b∈X.fs)->X.s₀.heap.FunFrames X.base l->s.heap.FunFrames X.base l:=by
  intro l
  induction l with
  |nil=>intro _ _;trivial
  |cons env r ih=>
   intro f g
   obtain⟨j,⟨L,o,c,h,m,hd⟩,hr⟩:=g
   have a:L∈X.fs:=f L (by unfold zP;rw[Nr,c];exact LX)
   obtain⟨n,e⟩:=I.base.slot L o m (I.ok.frf L a) a λz=>I.ok.exfs L z a
   exact⟨j,⟨L,_,c,h,e,hd⟩,ih (λb d=>f b (by unfold zP;rw[Nr,c];exact LZ _ d)) hr⟩
 exact all X.outer (λ_ d=>d) I.ok.funs
theorem aJ.stack (I:aJ X pins σ H s):s.heap.FunFrames X.base X.stack:=by
 rcases I.ok.stk with e|⟨e,a⟩
 ·rw[e];exact I.funs
 ·rw[e]
  obtain⟨m,b,_⟩:=I.loc
  refine .cons (by rw[I.ok.kind];decide) a b ?_ I.funs
  exact NX (LR I.ok.bsz I.ok.above)
theorem aJ.stkSub (I:aJ X pins σ H s):∀b∈zP X.stack,b∈X.env.locals::X.fs:=λb a=>by
 rcases I.ok.stk with e|⟨e,c⟩
 ·rw[e] at a;exact LZ _ a
 ·rw[e] at a
  unfold zP at a
  rw[Nr,c] at a
  exact a
theorem aJ.stkFree (I:aJ X pins σ H s):∀b∈zP X.stack,H b=none:=λb hb=>by
 rcases LS.mp (I.stkSub b hb) with e|hb
 ·rw[e];exact I.free
 ·obtain⟨_,o,a,_⟩:=I.ok.funs.mem hb
  exact I.base.free b o a (I.ok.frf b hb) λz=>I.ok.exfs b z hb
theorem aJ.step {g':Array GenState}{t':Nat}{d':Drawn}{ch:List Addr}(I:aJ X pins σ H s)
  (B:∀b∈ch,(b∈X.ex\/X.s₀.heap.objs.size<=b)/\b≠X.env.locals/\(∀x c,X.env.cells.lookup x=some c->c≠b)/\∀p∈X.pn++pins,p.1≠b)
  (A:∀b o,b≠X.env.locals->b∉X.fs->b∉ch->s.heap.get? b=some o->H b=none->h'.get? b=some o)
  (D:∀b o,b≠X.env.locals->b∈X.fs->b∉ch->s.heap.get? b=some o->H b=none->∃N,h'.get? b=some {o with slots:=N}) (free:∀b o,b∉ch->s.heap.get? b=some o->H b=none->H' b=none)
  (there:∀b o,b∉ch->s.heap.get? b=some o->∃o',h'.get? b=some o')
  (tups:∀b xs,H b=some (.tup xs)->H' b=some (.tup xs)) (G:∀b o u,H b=some (.frz o u)->H' b=some (.frz o u)) (K:∀b ps,H b=some (.tbl ps)->∃more,H' b=some (.tbl (ps++more)))
  (ns:∀m,s.heap.Ns X.env.locals m->h'.Ns X.env.locals m) (M:iL X.prog X.w H' h') (Y:AllBare g'):
  aJ X pins σ H' {s with heap:=h',gens:=g',drawn:=d',toks:=t'}:=by
 have h:∀b o,X.s₀.heap.get? b=some o->b≠X.env.locals:=λb o e=>L3 (Me (LW e) I.ok.above)
 have g:∀b o,X.s₀.heap.get? b=some o->b∉X.ex->b∉ch:=λb o e y E=>by
  rcases(B b E).1 with z|z
  ·exact y z
  ·exact absurd (Me (LW e) z) (ML _)
 have f:∀x c,X.env.cells.lookup x=some c->∀v,s.heap.IsCell c v->h'.IsCell c v:=λx c e v ⟨o,F,hd⟩=>by
  have a:c∉ch:=λz=>(B c z).2.2.1 x c e rfl
  by_cases hc:c∈X.fs
  ·obtain⟨N,q⟩:=D c o (I.cne x c e) hc a F (I.freeC x c e)
   exact⟨_,q,hd⟩
  ·exact⟨o,A c o (I.cne x c e) hc a F (I.freeC x c e),hd⟩
 refine⟨I.ok,I.os,Y,⟨λb o e n E y=>?_,λb o e n E y=>?_,λb o e n y=>?_,λb o e y=>?_,λb xs e=>tups b xs (I.base.tups b xs e),λb o xs e=>G b o xs (I.base.frzs b o xs e),λb ps e=>?_⟩,?_,λx c e=>?_,?_,λx c e=>?_,λp P=>?_,M,I.len⟩
 ·exact A b o (h b o e) E (g b o e y) (I.base.keep b o e n E y) (I.base.free b o e n y)
 ·obtain⟨N,C⟩:=I.base.slot b o e n E y
  obtain⟨j,J⟩:=D b _ (h b o e) E (g b o e y) C (I.base.free b o e n y)
  exact⟨j,J⟩
 ·obtain⟨o',C⟩:=I.base.there b o e y
  exact free b o' (g b o e y) C (I.base.free b o e n y)
 ·obtain⟨o',C⟩:=I.base.there b o e y
  exact there b o' (g b o e y) C
 ·obtain⟨U,C⟩:=I.base.tbls b ps e
  obtain⟨S,J⟩:=K b _ C
  exact⟨U++S,by rw[J,Array.append_assoc]⟩
 ·obtain⟨m,T,W⟩:=I.loc
  refine⟨m,ns m T,λi x v C J R=>?_⟩
  obtain⟨u,r,l⟩:=W i x v C J R
  refine⟨u,r,?_⟩
  rcases l with l|⟨k,c,e,z⟩
  ·exact .inl l
  ·exact .inr ⟨k,c,e,f x c e _ z⟩
 ·obtain⟨v,z⟩:=I.cell x c e
  exact⟨v,f x c e v z⟩
 ·obtain⟨m,⟨o,_,_,F,_⟩,_⟩:=I.loc
  exact free _ o (λz=>(B _ z).2.1 rfl) F I.free
 ·obtain⟨v,o,F,hd⟩:=I.cell x c e
  exact free c o (λz=>(B c z).2.2.1 x c e rfl) F (I.freeC x c e)
 ·obtain⟨e,n,O,Q,d⟩:=I.pin p P
  have a:p.1∉ch:=λz=>(B p.1 z).2.2.2 p P rfl
  exact⟨A p.1 p.2 O Q a e n,free p.1 p.2 a e n,O,Q,d⟩
theorem aJ.un(I:aJ X pins σ H s)(u:Un X.fs [] H H' s.heap h')(g:iL X.prog X.w H' h'):aJ X pins σ H' {s with heap:=h',toks:=t'}:=by
 obtain⟨m,⟨o,es,ep,h,r⟩,_⟩:=id I.loc
 obtain⟨q,j⟩:=u.any h I.free (by simp)
 exact I.step (g':=s.gens) (d':=s.drawn) (ch:=[]) (λ_ z=>nomatch z) (λb o _ f _ e n=>u.keep b o e n f (by simp)) (λb o _ f _ e n=>u.slot b o e n f (by simp)) (λb o _ e n=>u.free b o e n (by simp)) (λb o _ e=>u.there b o e (by simp)) u.tups u.frzs u.tbls (λx l=>by
  obtain⟨o',d,c,a,p⟩:=l
  rw[h] at a;cases a
  exact⟨_,d,c,j,p⟩) g I.bare
theorem aJ.call {g':Array GenState}{d':Drawn}(I:aJ X pins σ H s)(u:Un (zP X.stack) ch H H' s.heap h')(l:iL X.prog X.w H' h')(C:AllBare g')
  (h:∀b∈ch,(b∈X.ex\/X.s₀.heap.objs.size<=b)/\b≠X.env.locals/\(∀x c,X.env.cells.lookup x=some c->c≠b)/\∀p∈X.pn++pins,p.1≠b):
  aJ X pins σ H' {s with heap:=h',gens:=g',drawn:=d',toks:=t'}:=by
 obtain⟨m,⟨o,es,ep,q,r⟩,_⟩:=id I.loc
 obtain⟨D,j⟩:=u.any q I.free λz=>(h _ z).2.1 rfl
 exact I.step (ch:=ch) h (λb o j A g e n=>u.keep b o e n (λz=>(LS.mp (I.stkSub b z)).elim j A) g) (λb o _ _ g e n=>u.any e n g) (λb o g e n=>u.free b o e n g) (λb o g e=>u.there b o e g) u.tups u.frzs u.tbls (λE y=>by
  obtain⟨o',f,d,a,B⟩:=y
  rw[q] at a;cases a
  exact⟨_,f,d,j,B⟩) l C
theorem aJ.turned{it:Addr}(I:aJ X pins σ H s)(k:∀b o,b≠it->s.heap.get? b=some o->h'.get? b=some o)(g:H it=none)(f:it≠X.env.locals)
  (h1:it∈X.ex\/X.s₀.heap.objs.size<=it) (l:∀x c,X.env.cells.lookup x=some c->c≠it) (w:∀p∈X.pn++pins,p.1≠it):aJ X pins σ H {s with heap:=h',toks:=t'}:=by
 have a:∀b u,H b=some u->b≠it:=λb u e z=>by rw[z,g] at e;cases e
 refine I.step (g':=s.gens) (d':=s.drawn) (ch:=[it]) (λb j=>?_) (λb o _ _ d e _=>k b o (λz=>d (by simp[z])) e) (λb o _ _ d e _=>⟨o.slots,k b o (λz=>d (by simp[z])) e⟩) (λ_ _ _ _ n=>n)
  (λb o d e=>⟨o,k b o (λz=>d (by simp[z])) e⟩) (λ_ _ e=>e) (λ_ _ _ e=>e) (λb ps e=>⟨#[],by rw[e];simp⟩) (λm h=>?_) (λb u e=>?_) I.bare
 ·have e:b=it:=by simpa using j
  subst e
  exact⟨h1,f,l,w⟩
 ·obtain⟨o,es,ep,y,r⟩:=h
  exact⟨o,es,ep,k _ o (L8 f) y,r⟩
 ·refine(I.hok b u e).stay (λc v d q=>k c v ?_ q) (λ_ q=>q) λ_ _ q=>q
  rcases d with z|z
  ·rw[z];exact a b u e
  ·exact a c _ z
theorem aJ.tok (I:aJ X pins σ H s)(t:Nat):aJ X pins σ H {s with toks:=t}:=I.un (h':=s.heap) (t':=t) Un.refl I.hok
theorem aJ.kept(I:aJ X pins σ H s)(k:∀b u,s.heap.get? b=some u->h'.get? b=some u):aJ X pins σ H {s with heap:=h',toks:=t'}:=I.un (Un.kept k) (I.hok.kept k)
theorem aJ.laid(I:aJ X pins σ H s)(k:∀b u,s.heap.get? b=some u->h'.get? b=some u)(c:s.heap.objs.size<=a)(new:bV X.prog X.w (upd H a o) h' a o):
  aJ X pins σ (upd H a o) {s with heap:=h',toks:=t'}:=I.un (Un.laid k c (I.hok.fresh c)) (I.hok.laid k c new)
theorem aJ.write(I:aJ X pins σ H s)(c:FR (H x))(d:e=x\/H e=some (.own x))(k:∀b u,b≠e->s.heap.get? b=some u->h'.get? b=some u)(a:∃u,h'.get? e=some u)
  (new:bV X.prog X.w (upd H x o) h' x o):aJ X pins σ (upd H x o) {s with heap:=h',toks:=t'}:=I.un (Un.write c d k a) (I.hok.write c d k a new)
theorem aJ.pins_of {a:List (Addr×Obj)}(I:aJ X pins σ H s)(h:∀p∈a,s.heap.get? p.1=some p.2/\H p.1=none/\p.1≠X.env.locals/\p.1∉X.fs/\∀v,p.2.data≠.cell v):aJ X a σ H s:=
 ⟨I.ok,I.os,I.bare,I.base,I.loc,I.cell,I.free,I.freeC,λp b=>(L_.mp b).elim (λz=>I.pin p (MM _ z)) (h p),I.hok,I.len⟩
theorem tX {N:List Str}(e:N.Nodup){i j:Nat}{x:Str}(a:N[i]?=some x)(b:N[j]?=some x):i=j:=by
 obtain⟨h1,c⟩:=Mo.mp a
 obtain⟨h2,d⟩:=Mo.mp b
 exact(List.getElem_inj e).mp (c.trans d.symm)
theorem oP{Q:Unit->Shared->Prop}(I:aJ X pins σ H s)(hN:X.N.Nodup)(P:X.N[i]?=some x)(hx:IP X.env.scope x)(r:aZ v u)
  (h:∀s',aJ X pins (σ.set i (some v)) H s'->(∃a,Heap.SameBut a s.heap s'.heap/\(a=X.env.locals\/X.env.cells.lookup x=some a))->Q () s') (hf:X.fn x=true\/X.env.scope.names.lookup x=some .local):wpAny M A (storeName X.env x u) Q E s:=by
 obtain⟨m,Y,hl⟩:=id I.loc
 have C:(X.env.scope.kind==.class||(X.env.scope.kind==.module&&X.env.locals !=X.env.globals))=false:=by rw[I.ok.kind];rfl
 have B:i<σ.length:=by rw[I.len];exact(Mo.mp P).1
 have cne:=I.cne
 have f:∀{a:Addr} {h':Heap},(∃o,s.heap.get? a=some o/\H a=none)->Heap.SameBut a s.heap h'->iL X.prog X.w H h':=fun{a h'} ha G b ob e=>by
  obtain⟨_,_,g⟩:=ha
  refine(I.hok b ob e).stay (λc U hc q=>(G.2 c ?_).trans q) (λ_ q=>q) λ_ _ q=>q
  rintro rfl
  rcases hc with rfl|hc
  ·rw[g] at e;cases e
  ·rw[g] at hc;cases hc
 rcases hx with hk|hk
 ·refine wpAny_storeName_local hk Y (λh' ad G=>?_) C
  obtain⟨oL,_,_,F,_⟩:=id Y
  refine h _ ⟨I.ok,I.os,I.bare,⟨λb o e n O hx=>?_,λb o e n O hx=>?_,I.base.free,λb o e hx=>?_,I.base.tups,I.base.frzs,I.base.tbls⟩,⟨_,ad,λj y Z J K W=>?_⟩,λy c e=>?_,I.free,I.freeC,λp hp=>?_,f ⟨oL,F,I.free⟩ G,by simpa using I.len⟩ ⟨_,G,.inl rfl⟩
  ·exact(G.2 b (L3 (Me (LW e) I.ok.above))).trans (I.base.keep b o e n O hx)
  ·obtain⟨sl,J⟩:=I.base.slot b o e n O hx
   exact⟨sl,(G.2 b (L3 (Me (LW e) I.ok.above))).trans J⟩
  ·obtain⟨o',J⟩:=I.base.there b o e hx
   exact⟨o',(G.2 b (L3 (Me (LW e) I.ok.above))).trans J⟩
  ·by_cases hj:j=i
   ·subst hj
    rw[P] at J;cases J
    rw[List.getElem?_set_self B] at K
    cases K
    exact⟨u,r,.inl ⟨hk,by simp⟩⟩
   ·rw[List.getElem?_set_ne (L8 hj)] at K
    obtain⟨u',r',q⟩:=hl j y Z J K W
    refine⟨u',r',?_⟩
    rcases q with ⟨k,e⟩|⟨k,c,e,z⟩
    ·refine .inl ⟨k,?_⟩
     have:y≠x:=λe=>hj (tX hN J (e▸P))
     simp[this,e]
    ·exact .inr ⟨k,c,e,z.sameBut G (cne y c e)⟩
  ·obtain⟨U,z⟩:=I.cell y c e
   exact⟨U,z.sameBut G (cne y c e)⟩
  ·obtain⟨e,n,S,nf,d⟩:=I.pin p hp
   exact⟨(G.2 p.1 S).trans e,n,S,nf,d⟩
 ·have l:X.fn x=true:=by
   rcases hf with z|z
   ·exact z
   ·rw[z] at hk;cases hk
  obtain⟨c,hc⟩:=I.ok.has x (.inl hk)
  obtain⟨U,z⟩:=I.cell x c hc
  refine wpAny_storeName_cell I.ok.kind hk hc z (λh' R G=>?_)
  obtain⟨oc,w,D⟩:=id z
  refine h {s with heap:=h'} ⟨I.ok,I.os,I.bare,⟨λb o e n O hx=>?_,λb o e n O hx=>?_,I.base.free,λb o e hx=>?_,I.base.tups,I.base.frzs,I.base.tbls⟩,⟨m,Y.sameBut G (L8 (cne x c hc)),λj y Z J K W=>?_⟩,λy T e=>?_,I.free,I.freeC,λp hp=>?_,f ⟨oc,w,I.freeC x c hc⟩ G,by simpa using I.len⟩ ⟨c,G,.inr hc⟩
  ·exact(G.2 b (L3 (Me (LW e) (I.ok.cab x c l hc)))).trans (I.base.keep b o e n O hx)
  ·obtain⟨sl,J⟩:=I.base.slot b o e n O hx
   exact⟨sl,(G.2 b (L3 (Me (LW e) (I.ok.cab x c l hc)))).trans J⟩
  ·obtain⟨o',J⟩:=I.base.there b o e hx
   exact⟨o',(G.2 b (L3 (Me (LW e) (I.ok.cab x c l hc)))).trans J⟩
  ·by_cases hj:j=i
   ·subst hj
    rw[P] at J;cases J
    rw[List.getElem?_set_self B] at K
    cases K
    exact⟨u,r,.inr ⟨.inl hk,c,hc,R⟩⟩
   ·rw[List.getElem?_set_ne (L8 hj)] at K
    obtain⟨u',r',q⟩:=hl j y Z J K W
    refine⟨u',r',?_⟩
    rcases q with q|⟨k,T,e,z'⟩
    ·exact .inl q
    ·refine .inr ⟨k,T,e,z'.sameBut G ?_⟩
     rintro rfl
     exact hj (tX hN J (I.ok.inj _ _ _ e hc▸P))
  ·by_cases hcc:T=c
   ·subst hcc;exact⟨_,R⟩
   ·obtain⟨w2,z2⟩:=I.cell y T e
    exact⟨w2,z2.sameBut G hcc⟩
  ·obtain⟨e,n,S,nf,d⟩:=I.pin p hp
   refine⟨(G.2 p.1 ?_).trans e,n,S,nf,d⟩
   intro q
   rw[q,w] at e
   have q':oc=p.2:=Option.some.inj e
   exact d U (by rw[<-q'];exact D)
theorem rQ{Q:Unit->Shared->Prop}(I:aJ X pins σ H s)(c:X.N.Nodup)(a:X.N[i]?=some x)(hx:IP X.env.scope x)(r:aZ v u)
  (h:∀s',aJ X pins (σ.set i (some v)) H s'->Q () s') (b:X.fn x=true\/X.env.scope.names.lookup x=some .local):wpAny M A (storeName X.env x u) Q E s:=
 oP I c a hx r (λs' I' _=>h s' I') b
theorem aJ.call'(I:aJ X pins σ H s)(l:s'.os=s.os)(u:Un (zP X.stack) ch H H' s.heap s'.heap)(d:iL X.prog X.w H' s'.heap)(j:AllBare s'.gens)
  (a:∀b∈ch,(b∈X.ex\/X.s₀.heap.objs.size<=b)/\b≠X.env.locals/\(∀x c,X.env.cells.lookup x=some c->c≠b)/\∀p∈X.pn++pins,p.1≠b):aJ X pins σ H' s':=by
 obtain⟨h',f,h,g,o'⟩:=s'
 have e:o'=s.os:=l
 subst e
 exact I.call (g':=f) (t':=g) (d':=h) u d j a
end
abbrev XK:=Value->Option Addr->Hp->Prop
abbrev St:=List (Option V)
variable {X:Cx} {pins:List (Addr×Obj)} {σ:St} {H:Hp} {s:Shared} {prog:Program} {w:World} {A:Around} {E:Value->Shared->Prop} {K:LO} {mg:Str->Option Value} {base:Heap}
abbrev VK:=V->Hp->Prop
abbrev TE:=St->Hp->VK->Prop
abbrev TT:=St->Hp->(Bool->Hp->Prop)->Prop
abbrev TA:=St->Hp->(List V->Hp->Prop)->Prop
structure fX where
 nx:St->Hp->Prop
 rt:VK
 bk:St->Hp->Prop:=λ_ _=>False
 ct:St->Hp->Prop:=λ_ _=>False
abbrev TS:=fX->St->Hp->Prop
def EP (X:Cx) (a:List (Addr×Obj)) (b:St) (Q:VK) (u:Value) (c:Shared):Prop:=∃v H',aJ X a b H' c/\aZ v u/\Q v H'
def TP (X:Cx) (a:List (Addr×Obj)) (c:St) (Q:Bool->Hp->Prop) (b:Bool) (d:Shared):Prop:=∃H',aJ X a c H' d/\Q b H'
def AP (X:Cx) (a:List (Addr×Obj)) (b:St) (Q:List V->Hp->Prop) (us:List Value) (c:Shared):Prop:=∃vs H',aJ X a b H' c/\aW vs us/\Q vs H'
def SP (X:Cx) (b:List (Addr×Obj)) (D:fX) (f:Flow) (c:Shared):Prop:=
 match f with
 | .next=>∃a H',aJ X b a H' c/\D.nx a H'
 | .brk=>∃a H',aJ X b a H' c/\D.bk a H'
 | .cont=>∃a H',aJ X b a H' c/\D.ct a H'
 | .ret u=>∃v a H',aJ X b a H' c/\aZ v u/\D.rt v H'
def PE (X:Cx) (e:Expr) (t:TE):Prop:=
 ∀(pins:List (Addr×Obj)) (s:Shared) (σ:St) (H:Hp) (Q:VK),aJ X pins σ H s->t σ H Q->wpAny (model X.prog X.w) X.A (eval e X.env) (EP X pins σ Q) X.xe s
def PT (X:Cx) (e:Expr) (t:TT):Prop:=
 ∀(pins:List (Addr×Obj)) (s:Shared) (σ:St) (H:Hp) (Q:Bool->Hp->Prop),aJ X pins σ H s->t σ H Q->wpAny (model X.prog X.w) X.A (isTrue e X.env (eval e X.env)) (TP X pins σ Q) X.xe s
def PW (X:Cx) (e:Expr) (t:TT):Prop:=
 ∀(a:Sem Value) (pins:List (Addr×Obj)) (s:Shared) (σ:St) (H:Hp) (Q:Bool->Hp->Prop),aJ X pins σ H s->t σ H Q->wpAny (model X.prog X.w) X.A (isTrue e X.env a) (TP X pins σ Q) X.xe s
theorem PW.pt(h:PW X e t):PT X e t:=h _
def PA (X:Cx) (es:List Expr) (t:TA):Prop:=
 ∀(pos:Pos) (pins:List (Addr×Obj)) (s:Shared) (σ:St) (H:Hp) (Q:List V->Hp->Prop),aJ X pins σ H s->t σ H Q->wpAny (model X.prog X.w) X.A (spliced (backTo pos (starEach es X.env))) (AP X pins σ Q) X.xe s
def PS (X:Cx) (st:Stmt) (t:TS):Prop:=
 ∀(pins:List (Addr×Obj)) (s:Shared) (σ:St) (H:Hp) (D:fX),aJ X pins σ H s->t D σ H->wpAny (model X.prog X.w) X.A (exec st X.env) (SP X pins D) X.xe s
def nV (X:Cx) (st:List Stmt) (t:TS):Prop:=
 ∀(pins:List (Addr×Obj)) (s:Shared) (σ:St) (H:Hp) (D:fX),aJ X pins σ H s->t D σ H->wpAny (model X.prog X.w) X.A (execs st X.env) (SP X pins D) X.xe s
theorem cy {c:Type}{t:Sem c}{Q b:c->Shared->Prop}(h:wpAny M A t Q E s)(d:∀a s,Q a s->b a s):wpAny M A t b E s:=Mp h d λ_ _ x=>x
section
def cR (i:Nat):TE:=λσ H Q=>∃v,σ[i]?=some (some v)/\Q v H
def tC (v:V):TE:=λ_ H Q=>Q v H
theorem G9(g:X.N[i]?=some x)(j:Ln X.env.scope x)(hd:(x==("__debug__" :Str))=false:=by decide)(d:(x==("__classdict__" :Str))=false:=by decide):PE X (.Name x pos) (cR i):=by
 intro pins s σ H Q I h
 obtain⟨v,e,h⟩:=h
 obtain⟨m,p,o⟩:=I.loc
 obtain⟨u,r,l⟩:=o i x v g e j
 have a:EP X pins σ Q u s:=⟨v,H,I,r,h⟩
 rcases l with ⟨hk,n⟩|⟨hk,c,f,b⟩
 ·exact wpAny_Name (wpAny_loadName_local I.ok.kind hk p n a) hd
 ·rcases hk with hk|hk
  ·exact wpAny_Name (wpAny_loadName_cell I.ok.kind hk f b a) hd
  ·exact wpAny_Name (wpAny_loadName_free I.ok.kind hk f b a d) hd
theorem ag {i j pos}:PE X (.Constant (.int i) j pos) (tC (.int i)):=λ_ _ _ H _ I h=>wpAny_Constant_int ⟨.int i,H,I.tok _,⟨_,rfl⟩,h⟩
theorem c_ {b j pos}:PE X (.Constant (.bool b) j pos) (tC (.bl b)):=λ_ _ _ H _ I h=>Constant_bool ⟨.bl b,H,I,rfl,h⟩
theorem b_ {j pos}:PE X (.Constant .none j pos) (tC .non):=λ_ _ _ H _ I h=>Constant_none ⟨.non,H,I,rfl,h⟩
theorem aL {x j pos}:PE X (.Constant (.str x) j pos) (tC (.str x)):=λ_ _ _ H _ I h=>Calls.Constant_str ⟨.str x,H,I.tok _,⟨_,rfl⟩,h⟩
def Gl (X:Cx) (x:Str):Prop:=X.env.kindOf x=some .globalImplicit
theorem pL(I:aJ X pins σ H s)(b:Gl X x)(a:X.mg x=some u)(h:Q u s)
  (hd:(x==("__debug__" :Str))=false:=by decide):wpAny (model X.prog X.w) X.A (eval (.Name x pos) X.env) Q E s:=
 Calls.Name_function_global I.ok.kind b (Calls.loadGlobal_global (by rw[I.ok.glob];exact I.mod.glob.keeps I.bk) a h) hd
theorem gi(I:aJ X pins σ H s)(d:Gl X x)(b:X.mg x=none)(a:bootBuiltins x=some u)(h:Q u s)
  (c:x≠ "__name__" :=by decide) (hd:(x==("__debug__" :Str))=false:=by decide):wpAny (model X.prog X.w) X.A (eval (.Name x pos) X.env) Q E s:=by
 obtain⟨e,h1,h2⟩:=I.mod.blt
 exact Calls.Name_function_global I.ok.kind d (Calls.loadGlobal_builtin (by rw[I.ok.glob];exact I.mod.glob.keeps I.bk) b (by rw[I.ok.blt];exact h1.keeps I.bk) ((h2 x c).trans a) h) hd
theorem wK(b:Gl X x)(a:X.mg x=some u)(r:aZ v u)(hd:(x==("__debug__" :Str))=false:=by decide):PE X (.Name x pos) (tC v):=
 λ_ _ _ H _ I h=>pL I b a ⟨v,H,I,r,h⟩ hd
theorem eS(d:Gl X x)(b:X.mg x=none)(a:bootBuiltins x=some u)(r:aZ v u)(c:x≠ "__name__" :=by decide)(hd:(x==("__debug__" :Str))=false:=by decide):PE X (.Name x pos) (tC v):=
 λ_ _ _ H _ I h=>gi I d b a ⟨v,H,I,r,h⟩ c hd
variable {a b:Expr} {ta tb:TE} {pos:Pos}
def PC (X:Cx) (e:CmpOp) (a b:Expr) (t:TE):Prop:=
 ∀(pins:List (Addr×Obj)) (s:Shared) (σ:St) (H:Hp) (Q:VK),aJ X pins σ H s->t σ H Q->
  wpAny (model X.prog X.w) X.A (eval a X.env) (λv d=>wpAny (model X.prog X.w) X.A (eval b X.env) (λu c=>wpAny (model X.prog X.w) X.A (compareOp e v u) (EP X pins σ Q) X.xe c) X.xe d) X.xe s
def tB (t:TE):TT:=λσ H Q=>t σ H λx H1=>∃c,x=.bl c/\Q c H1
theorem GU(h:PC X op a b t)(h1:behindInMarks op b=false:=by rfl):PE X (.Compare a [op] [b] pos) t:=λpins s σ H Q I c=>wpAny_Compare1 (h pins s σ H Q I c) h1
theorem CI(h:PC X op a b t)(h1:behindInMarks op b=false:=by rfl):PT X (.Compare a [op] [b] pos) (tB t):=by
 intro pins s σ H Q I f
 refine wpAny_isTrue_Compare1 (cy (h pins s σ H _ I f) λv m h1=>cy h1 λu l h2=>cy h2 λc j g=>?_) h1
 obtain⟨x,H1,I1,r1,e⟩:=g
 obtain⟨d,rfl,q⟩:=e
 cases r1
 exact MU ⟨H1,I1,q⟩
theorem cx(h:PE X e t)(c:∀a,isTrue e X.env a=(do let v<-a;standAt e.pos;holding [v] (truthy v)):=by intro _;rfl):PT X e (tB t):=by
 intro pins s σ H Q I f
 refine isTrue_plain (cy (h pins s σ H _ I f) λv j g=>?_) (c _)
 obtain⟨x,H1,I1,r1,b⟩:=g
 obtain⟨d,rfl,q⟩:=b
 cases r1
 exact MU ⟨H1,I1,q⟩
variable {tA tB':TT} {rest:List Expr}
def zj (t u:TT):TT:=λσ H Q=>t σ H λc H1=>if c=true then u σ H1 Q else Q false H1
def Hf (t u:TT):TT:=λσ H Q=>t σ H λc H1=>if c=true then Q true H1 else u σ H1 Q
def zi (t:TT):TT:=λσ H Q=>t σ H λc H1=>Q (!c) H1
theorem iP (b:PT X a tA):PW X (.BoolOp .And [a] pos) tA:=by
 intro d pins s σ H Q I h
 refine isTrue_and (cy (b pins s σ H Q I h) λc f e=>?_)
 cases c with
 |true=>exact isTrue_and_nil e
 |false=>exact e
theorem dN (b:PT X a tA):PW X (.BoolOp .Or [a] pos) tA:=by
 intro d pins s σ H Q I h
 refine isTrue_or (cy (b pins s σ H Q I h) λc f e=>?_)
 cases c with
 |false=>exact isTrue_or_nil e
 |true=>exact e
theorem ie (j:PT X a tA)(f:PW X (.BoolOp .And (b::rest) pos) tB'):PW X (.BoolOp .And (a::b::rest) pos) (zj tA tB'):=by
 intro e pins s σ H Q I h
 refine isTrue_and (cy (j pins s σ H _ I h) λc l g=>?_)
 obtain⟨H1,I1,d⟩:=g
 cases c with
 |true=>exact f e pins l σ H1 Q I1 d
 |false=>exact⟨H1,I1,d⟩
theorem eL (j:PT X a tA)(f:PW X (.BoolOp .Or (b::rest) pos) tB'):PW X (.BoolOp .Or (a::b::rest) pos) (Hf tA tB'):=by
 intro e pins s σ H Q I h
 refine isTrue_or (cy (j pins s σ H _ I h) λc l g=>?_)
 obtain⟨H1,I1,d⟩:=g
 cases c with
 |true=>exact⟨H1,I1,d⟩
 |false=>exact f e pins l σ H1 Q I1 d
theorem cg (b:PT X a tA):PT X (.UnaryOp .Not a pos) (zi tA):=by
 intro pins s σ H Q I h
 exact isTrue_not (b pins s σ H (λc H1=>Q (!c) H1) I h)
def CP (a b:TE):TE:=λσ H Q=>a σ H λx H1=>∃c,x=.bl c/\if c=true then b σ H1 Q else Q (.bl false) H1
def Jn (a b:TE):TE:=λσ H Q=>a σ H λx H1=>∃c,x=.bl c/\if c=true then Q (.bl true) H1 else b σ H1 Q
def GG (a:TE):TE:=λσ H Q=>a σ H λx H1=>∃c,x=.bl c/\Q (.bl (!c)) H1
theorem h9 {op}{t:TE}(h:PE X a t):PE X (.BoolOp op [a] pos) t:=λpins s σ H Q I b=>BoolOp_one (h pins s σ H Q I b)
theorem gJ (g:PE X a ta)(e:PE X (.BoolOp .And (b::rest) pos) tb):PE X (.BoolOp .And (a::b::rest) pos) (CP ta tb):=by
 intro pins s σ H Q I h
 refine BoolOp_and (cy (g pins s σ H _ I h) λv j f=>?_)
 obtain⟨x,H1,I1,r1,d⟩:=f
 obtain⟨c,rfl,d⟩:=d
 cases r1
 refine MU ?_
 cases c with
 |true=>exact e pins j σ H1 Q I1 d
 |false=>exact⟨.bl false,H1,I1,rfl,d⟩
theorem J7 (g:PE X a ta)(e:PE X (.BoolOp .Or (b::rest) pos) tb):PE X (.BoolOp .Or (a::b::rest) pos) (Jn ta tb):=by
 intro pins s σ H Q I h
 refine BoolOp_or (cy (g pins s σ H _ I h) λv j f=>?_)
 obtain⟨x,H1,I1,r1,d⟩:=f
 obtain⟨c,rfl,d⟩:=d
 cases r1
 refine MU ?_
 cases c with
 |false=>exact e pins j σ H1 Q I1 d
 |true=>exact⟨.bl true,H1,I1,rfl,d⟩
theorem B4 (d:PE X a ta):PE X (.UnaryOp .Not a pos) (GG ta):=by
 intro pins s σ H Q I h
 refine UnaryOp_ (cy (d pins s σ H _ I h) λv f e=>?_)
 obtain⟨x,H1,I1,r1,b⟩:=e
 obtain⟨c,rfl,b⟩:=b
 cases r1
 exact not_of (MU ⟨.bl (!c),H1,I1,rfl,b⟩)
def Lh (t:TT) (a b:TE):TE:=λσ H Q=>t σ H λc H1=>if c=true then a σ H1 Q else b σ H1 Q
theorem fw(j:PT X c tA)(m:PE X a ta)(g:PE X b tb):PE X (.IfExp c a b pos) (Lh tA ta tb):=by
 intro pins s σ H Q I h
 refine wpAny_IfExp (cy (j pins s σ H _ I h) λd f l=>?_)
 obtain⟨H1,I1,e⟩:=l
 cases d with
 |true=>exact m pins f σ H1 Q I1 e
 |false=>exact g pins f σ H1 Q I1 e
end
def aF (K:LO) (H:Hp) (a:Addr) (xs:List V):Prop:=
 Rd H a (.lst xs)\/
  ∃(o:Obj) (b:Array Value) (n:Nat),K.lookup a=some o/\o.cls=.type "list" /\o.dict=none/\o.data=.seq b n/\b.size<=sizeLine/\aW xs b.toList
def bW (K:LO) (H:Hp) (a:Addr) (xs:List V):Prop:=
 Rd H a (.tup xs)\/
  ∃(o:Obj) (b:Array Value) (n:Nat),K.lookup a=some o/\o.cls=.type "tuple" /\o.data=.seq b n/\b.size<=sizeLine/\aW xs b.toList
noncomputable def KR:Value->Option V
 | .none=>some .non
 | .bool b=>some (.bl b)
 | .int i _=>some (.int i)
 | .str x _=>some (.str x)
 | .bytes b _=>some (.byt b)
 | .float b _=>some (.flt b)
 | .ref a=>some (.ref a)
 | .type n=>some (.ty n)
 |_=>none
theorem aZ.abs(r:aZ x u):KR u=some x:=by
 cases x with
 |non=>cases r;rfl
 |bl _=>cases r;rfl
 |int _=>obtain⟨t,rfl⟩:=r;rfl
 |str _=>obtain⟨t,rfl⟩:=r;rfl
 |byt _=>obtain⟨t,rfl⟩:=r;rfl
 |flt _=>obtain⟨t,rfl⟩:=r;rfl
 |ref _=>cases r;rfl
 |ty _=>cases r;rfl
theorem aZ.inj(r:aZ x u)(q:aZ y u):x=y:=Option.some.inj (r.abs.symm.trans q.abs)
theorem aW.inj:∀{xs ys:List V} {a:List Value},aW xs a->aW ys a->xs=ys
 |_,_,_,.nil,.nil=>rfl
 |_,_,_,.cons r t,.cons r' t'=>by rw[r.inj r',aW.inj t t']
section
variable {a:Addr} {xs ys:List V}
theorem aF.of (h:H a=some (.lst xs)):aF K H a xs:=.inl (.inl h)
theorem bW.of (h:H a=some (.tup xs)):bW K H a xs:=.inl (.inl h)
theorem aJ.list (I:aJ X pins σ H s)(h:aF X.K H a xs):∃b:List Value,aW xs b/\PlainL s.heap a b.toArray/\xs.length<=sizeLine:=by
 rcases h with h|⟨o,b,n,f,c,hd,d,g,r⟩
 ·obtain⟨z,b,n,r,e⟩:=h.ok I.hok
  exact⟨b,r,⟨_,n,e,rfl,rfl,rfl⟩,z⟩
 ·refine⟨b.toList,r,⟨o,n,I.kIn a o f,c,hd,by simpa using d⟩,?_⟩
  have e:=r.length
  simp only[Mt] at e
  lia
theorem aJ.tuple (I:aJ X pins σ H s)(h:bW X.K H a xs):∃b:List Value,aW xs b/\IsTup s.heap a b.toArray/\xs.length<=sizeLine:=by
 rcases h with h|⟨o,b,n,f,d,c,g,r⟩
 ·obtain⟨z,b,r,p⟩:=h.ok I.hok
  exact⟨b,r,p,z⟩
 ·refine⟨b.toList,r,⟨o,I.kIn a o f,d,n,by simpa using c⟩,?_⟩
  have e:=r.length
  simp only[Mt] at e
  lia
theorem aJ.list_inj (I:aJ X pins σ H s)(h:aF X.K H a xs)(h':aF X.K H a ys):xs=ys:=by
 obtain⟨b,r,⟨o,n,e,_,_,d⟩,_⟩:=I.list h
 obtain⟨its',g,⟨o',j,c,_,_,f⟩,_⟩:=I.list h'
 rw[e] at c;cases c
 rw[d] at f
 injection f with d1 _
 have:b=its':=by simpa using congrArg Array.toList d1
 subst this
 exact r.inj g
theorem aJ.tuple_inj (I:aJ X pins σ H s)(h:bW X.K H a xs)(h':bW X.K H a ys):xs=ys:=by
 obtain⟨b,r,⟨o,e,_,n,d⟩,_⟩:=I.tuple h
 obtain⟨its',g,⟨o',c,_,j,f⟩,_⟩:=I.tuple h'
 rw[e] at c;cases c
 rw[d] at f
 injection f with d1 _
 have:b=its':=by simpa using congrArg Array.toList d1
 subst this
 exact r.inj g
end
abbrev Cx.wish (X:Cx) (E:Value->Shared->Prop):Cx:={X with xe:=E}
abbrev Cx.nox (X:Cx):Cx:=X.wish λ_ _=>False
theorem Cx.Ok.wish (ok:X.Ok)(E:Value->Shared->Prop):(X.wish E).Ok:=
 ⟨ok.mod,ok.kind,ok.glob,ok.blt,ok.above,ok.inj,ok.has,ok.cab,ok.hd,ok.frames,ok.stk,ok.exf,ok.bs,ok.bsz,ok.noex,ok.exfs,ok.funs,ok.frf⟩
theorem Cx.Ok.unwish (ok:(X.wish E).Ok):X.Ok:=
 ⟨ok.mod,ok.kind,ok.glob,ok.blt,ok.above,ok.inj,ok.has,ok.cab,ok.hd,ok.frames,ok.stk,ok.exf,ok.bs,ok.bsz,ok.noex,ok.exfs,ok.funs,ok.frf⟩
theorem aJ.wish (I:aJ X pins σ H s)(E:Value->Shared->Prop):aJ (X.wish E) pins σ H s:=⟨I.ok.wish E,I.os,I.bare,I.base,I.loc,I.cell,I.free,I.freeC,I.pin,I.hok,I.len⟩
theorem aJ.unwish (I:aJ (X.wish E) pins σ H s):aJ X pins σ H s:=⟨I.ok.unwish,I.os,I.bare,I.base,I.loc,I.cell,I.free,I.freeC,I.pin,I.hok,I.len⟩
theorem SP.unwish{f:Flow}(h:SP (X.wish E) pins D f s'):SP X pins D f s':=by
 cases f with
 |next=>obtain⟨a,H',I,q⟩:=h;exact⟨a,H',I.unwish,q⟩
 |brk=>obtain⟨a,H',I,q⟩:=h;exact⟨a,H',I.unwish,q⟩
 |cont=>obtain⟨a,H',I,q⟩:=h;exact⟨a,H',I.unwish,q⟩
 |ret u=>obtain⟨v,a,H',I,r,q⟩:=h;exact⟨v,a,H',I.unwish,r,q⟩
theorem nV.nox{st:List Stmt}(h:nV X.nox st t):nV X st t:=λpins s σ H D I a=>
 Mp (h pins s σ H D (I.wish _) a) (λ_ _ q=>q.unwish) λ_ _ z=>False.elim z
section
variable {st:Stmt} {rest:List Stmt} {t u:TS} {e:Expr} {te:TE} {pos:Pos}
def mZ:TS:=λD σ H=>D.nx σ H
def eU (t u:TS):TS:=λD σ H=>t {D with nx:=u D} σ H
theorem fH:nV X [] mZ:=λ_ _ σ H _ I h=>wpAny_execs_nil ⟨σ,H,I,h⟩
theorem ai (h1:PS X st t)(b:nV X rest u):nV X (st::rest) (eU t u):=by
 intro pins s σ H D I h
 refine wpAny_execs_cons (cy (h1 pins s σ H {D with nx:=u D} I h) λf c q=>?_)
 cases f with
 |next=>
  obtain⟨a,H',I',q⟩:=q
  exact b pins c a H' D I' q
 |ret v=>exact q
 |brk=>exact q
 |cont=>exact q
theorem aE (h1:PS X st t):nV X [st] t:=by
 intro pins s σ H D I h
 refine wpAny_execs_cons (cy (h1 pins s σ H D I h) λf a q=>?_)
 cases f with
 |next=>exact wpAny_execs_nil q
 |ret v=>exact q
 |brk=>exact q
 |cont=>exact q
def IH:TS:=λD σ H=>D.bk σ H
theorem sO:PS X (.Break pos) IH:=λ_ _ σ H _ I h=>wpAny_Break ⟨σ,H,I,h⟩
theorem aJ.quiet (I:aJ X pins σ H s):interactive X.env=false:=by simp[interactive,I.ok.kind]
def mO (te:TE):TS:=λD σ H=>te σ H λ_ H1=>D.nx σ H1
theorem aO (c:PE X e te)(a:swapsWith e none pos.line X.env=pure false:=by rfl):PS X (.Expr e pos) (mO te):=by
 intro pins s σ H D I h
 exact wpAny_Expr_any (cy (c pins s σ H _ I h) λv d ⟨x,H1,I1,r1,b⟩=>⟨σ,H1,I1,b⟩) I.quiet a
def Fy (te:TE):TS:=λD σ H=>te σ H D.rt
theorem ay (b:PE X e te):PS X (.Return (some e) pos) (Fy te):=by
 intro pins s σ H D I h
 exact wpAny_Return_some (cy (b pins s σ H _ I h) λv c ⟨x,H1,I1,r1,a⟩=>⟨x,σ,H1,I1,r1,a⟩)
def mW (c:TT) (t u:TS):TS:=λD σ H=>c σ H λb H1=>if b=true then t D σ H1 else u D σ H1
theorem jc(j:PT X c tc)(m:nV X a t)(g:nV X b u):PS X (.If c a b pos) (mW tc t u):=by
 intro pins s σ H D I h
 refine wpAny_If (cy (j pins s σ H _ I h) λd f l=>?_)
 obtain⟨H1,I1,e⟩:=l
 cases d with
 |true=>exact m pins f σ H1 D I1 e
 |false=>exact g pins f σ H1 D I1 e
def HY:TS:=λ_ _ _=>False
theorem cw:PS X st HY:=λ_ _ _ _ _ _ h=>h.elim
end
abbrev TG:=V->St->Hp->(St->Hp->Prop)->Prop
abbrev IS:=List V->St->Hp->(St->Hp->Prop)->Prop
def PG (X:Cx) (a:Expr) (t:TG):Prop:=
 ∀(pins:List (Addr×Obj)) (s:Shared) (σ:St) (H:Hp) (v:V) (u:Value) (Q:St->Hp->Prop),aJ X pins σ H s->aZ v u->t v σ H Q->
  wpAny (model X.prog X.w) X.A (assign a X.env u) (λ_ s'=>∃b H',aJ X pins b H' s'/\Q b H') X.xe s
def Jz (X:Cx) (ts:List Expr) (t:IS):Prop:=
 ∀(pins:List (Addr×Obj)) (s:Shared) (σ:St) (H:Hp) (vs:List V) (b:List Value) (Q:St->Hp->Prop),aJ X pins σ H s->aW vs b->t vs σ H Q->
  wpAny (model X.prog X.w) X.A (assignInOrder ((assignEach ts X.env).map (·.2)) b) (λ_ s'=>∃a H',aJ X pins a H' s'/\Q a H') X.xe s
abbrev HG:=V->V->V->Hp->(Hp->Prop)->Prop
def Kc (X:Cx) (t:HG):Prop:=
 ∀(pins:List (Addr×Obj)) (s:Shared) (σ:St) (H:Hp) (o i v:V) (b a u:Value) (Q:Hp->Prop),aJ X pins σ H s->aZ o b->aZ i a->aZ v u->t o i v H Q->
  wpAny (model X.prog X.w) X.A (setItem b a u) (λ_ s'=>∃H',aJ X pins σ H' s'/\Q H') X.xe s
section
variable {pos:Pos}
def cJ (i:Nat):TG:=λv σ H Q=>Q (σ.set i (some v)) H
theorem FD(c:X.N.Nodup)(a:X.N[i]?=some x)(hx:IP X.env.scope x)(b:X.fn x=true\/X.env.scope.names.lookup x=some .local):PG X (.Name x pos) (cJ i):=by
 intro pins s σ H v u Q I r h
 exact wpAny_assign_Name (rQ I c a hx r (λs' I'=>⟨_,H,I',h⟩) b)
def JY:IS:=λvs σ H Q=>vs=[]/\Q σ H
noncomputable def xU (t:TG) (u:IS):IS:=λvs σ H Q=>∃v r,vs=v::r/\t v σ H λa H'=>u r a H' Q
theorem bq:Jz X [] JY:=by
 intro pins s σ H vs a Q I r h
 obtain⟨e,h⟩:=h
 subst e
 cases r
 exact assignInOrder_nil ⟨σ,H,I,h⟩
theorem aq(h1:PG X e t)(f:Jz X es u)
  (c:(assignEach (e::es) X.env).map (·.2)=assign e X.env::(assignEach es X.env).map (·.2):=by rfl):Jz X (e::es) (xU t u):=by
 intro pins s σ H vs m Q I r h
 obtain⟨v,l,b,h⟩:=h
 subst b
 cases r with
 |cons r rr=>
  rw[c]
  refine assignInOrder_cons (cy (h1 pins s σ H _ _ _ I r h) λ_ j g=>?_)
  obtain⟨a,H1,I1,d⟩:=g
  exact f pins j a H1 _ _ Q I1 rr d
def Ip (K:LO) (n:Nat) (t:IS):TG:=λv σ H Q=>∃a xs,v=.ref a/\bW K H a xs/\xs.length=n/\t xs σ H Q
theorem cV(p:X.calm=true)(h:Jz X es t)
  (y:(assignEach es X.env).length=n:=by rfl) (f:(assignEach es X.env).findIdx? (·.1)=none:=by rfl):PG X (.Tuple es k pos) (Ip X.K n t):=by
 intro pins s σ H v u Q I r d
 obtain⟨a,xs,j,l,q,d⟩:=d
 subst j
 cases r
 obtain⟨c,g,w,z⟩:=I.tuple l
 refine assign_Tuple_tuple (I.ok.hd p) w (by simp[y,<-q,g.length]) f λh' m=>?_
 have x:aJ X pins σ H {s with heap:=h'}:=I.kept (t':=s.toks) λb o e=>m b o (L3 (LW e)) e
 exact h pins _ σ H xs _ Q x (by simpa using g) d
def KM (b a:TE) (t:HG):TG:=λv σ H Q=>b σ H λo H1=>a σ H1 λi H2=>t o i v H2 λH3=>Q σ H3
theorem GZ{t:HG}(p:PE X o to)(d:PE X i ti)(e:Kc X t)
  (q:∀v,assign (.Subscript o i pos) X.env v=(do
   let a<-holding [v] (eval o X.env)
   let b<-holding [v,a] (eval i X.env)
   standAt pos
   holding [v,a,b] (setItem a b v)
   release [v,a,b] []):=by intro _;rfl):PG X (.Subscript o i pos) (KM to ti t):=by
 intro pins s σ H v u Q I r h
 refine LJ (Ms (cy (p pins s σ H _ I h) λa n c=>?_))
 obtain⟨x,H1,I1,r1,f⟩:=c
 refine LJ (Ms (cy (d pins n σ H1 _ I1 f) λb j c=>?_))
 obtain⟨y,H2,I2,g,m⟩:=c
 refine LJ (wpAny_standAt (LJ (Ms (cy (e pins j σ H2 x y v a b u _ I2 r1 g r m) λ_ w c=>?_))))
 obtain⟨H3,I3,l⟩:=c
 exact wpAny_release ⟨σ,H3,I3,l⟩
def kO (te:TE) (g:TG):TS:=λD σ H=>te σ H λx H1=>g x σ H1 D.nx
theorem eY(b:PE X e te)(l:PG X tg g)(a:swapsWithSole [tg] e pos.line X.env=pure false:=by rfl)(d:swappedStores [tg] e X.env=pure none:=by rfl)
  (h1:(assignEach [tg] X.env).map (·.2)=[assign tg X.env]:=by rfl):PS X (.Assign [tg] e pos) (kO te g):=by
 intro pins s σ H D I h
 refine wpAny_Assign_stores (cy (b pins s σ H _ I h) λv j f=>?_) a d
 obtain⟨x,H1,I1,r1,c⟩:=f
 rw[h1]
 exact cy (l pins j σ H1 x v _ I1 r1 c) λ_ m q=>q
theorem Hv(d:X.N.Nodup)(a:X.N[i]?=some x)(hx:IP X.env.scope x)(j:PE X e te)(b:swapsWith e (some (.Name x pos')) pos.line X.env=pure false:=by rfl)(f:X.fn x=true\/X.env.scope.names.lookup x=some .local):
  PS X (.Assign [.Name x pos'] e pos) (kO te (cJ i)):=by
 intro pins s σ H D I h
 refine wpAny_Assign_Name (cy (j pins s σ H _ I h) λv l g=>?_) b
 obtain⟨y,H1,I1,r1,c⟩:=g
 exact rQ I1 d a hx r1 (λm I2=>⟨_,H1,I2,c⟩) f
end
section
variable {pos:Pos}
def uW (c:TT) (e:TS):TS:=λD σ H=>∃W:Nat->St->Hp->Prop,(∃m,W m σ H)/\∀m σ H,W m σ H->
 c σ H λb H1=>if b=true then∃N:St->Hp->Prop,(∀a H',N a H'->∃d,d<m/\W d a H')/\e {D with nx:=N,ct:=N,bk:=D.nx} σ H1 else D.nx σ H1
theorem CT(r:PassesOwn (model X.prog X.w) X.A X.env X.xe)(E:PT X c tc)(B:nV X body tb):PS X (.While c body [] pos) (uW tc tb):=by
 intro pins s σ H D I h
 obtain⟨W,⟨z,x⟩,a⟩:=h
 refine wpAny_While (codeAny_whileLoop (λn s'=>∃g H',aJ X pins g H' s'/\W n g H') ?_ z ⟨σ,H,I,x⟩)
 rintro n G ⟨e,H1,I1,y⟩
 refine NM r (cy (E pins G e H1 _ I1 (a n e H1 y)) λb C F=>?_)
 obtain⟨H2,I2,j⟩:=F
 cases b with
 |true=>
  obtain⟨N,u,j⟩:=j
  rw[if_pos rfl]
  refine NM r (cy (B pins C e H2 _ I2 j) λf J l=>?_)
  cases f with
  |next=>
   obtain⟨d,H3,I3,q⟩:=l
   obtain⟨p,m,o⟩:=u d H3 q
   exact⟨p,m,d,H3,I3,o⟩
  |cont=>
   obtain⟨d,H3,I3,q⟩:=l
   obtain⟨p,m,o⟩:=u d H3 q
   exact⟨p,m,d,H3,I3,o⟩
  |brk=>exact l
  |ret v=>exact l
 |false=>
  rw[if_neg L6]
  exact wpAny_execs_nil ⟨e,H2,I2,j⟩
end
structure It where
 go:Nat->Hp->Prop
 yld:Nat->Hp->V->Hp->Prop
 stop:Nat->Hp->Prop
def kC (X:Cx) (a:List (Addr×Obj)) (H:Hp) (b:Addr):Prop:=
 H b=none/\b≠X.env.locals/\b∉X.fs/\(b∈X.ex\/X.s₀.heap.objs.size<=b)/\(∀x c,X.env.cells.lookup x=some c->c≠b)/\∀p∈X.pn++a,p.1≠b
theorem aJ.fpOk(I:aJ X pins σ H s)(a:s.heap.objs.size<=b)(f:H' b=none):kC X pins H' b:=by
 refine⟨f,Nt (Me I.lt a),I.nofs a,.inr (LR I.sz a),λx c e z=>?_,λp d z=>?_⟩
 ·obtain⟨v,q⟩:=I.cell x c e
  exact absurd (Me q.lt (by rw[z];exact a)) (ML _)
 ·exact absurd (Me (LW (I.pin p d).1) (by rw[z];exact a)) (ML _)
structure nO (P:Program) (w:World) (K:LO) (tg:Expr) (J:It) (fp:List Addr) (it:Addr) (tn:Nat->Heap->Prop):Prop where
 mem:it∈fp
 obj:∀i h,tn i h->∀b∈fp,∃o,h.get? b=some o/\∀v,o.data≠.cell v
 keep:∀i h h',tn i h->(∀b∈fp,∀o,h.get? b=some o->h'.get? b=some o)->tn i h'
 item:∀(X:Cx),X.prog=P->X.w=w->X.K=K->X.calm=true->∀(i:Nat) (pins:List (Addr×Obj)) (s:Shared) (σ:St) (H:Hp) (E:Value->Shared->Prop),aJ X pins σ H s->(∀b∈fp,kC X pins H b)->tn i s.heap->J.go i H->
  wpAny (model P w) X.A (pyNext (.ref it)) (λr s1=>∃u,r=some u/\
   wpAny (model P w) X.A (letOwnedTupleGo tg (.ref it) u) (λ_ s2=>∃x H',aJ X pins σ H' s2/\aZ x u/\J.yld i H x H'/\tn (i+1) s2.heap/\∀b∈fp,H' b=none) E s1) E s
 done:∀(X:Cx),X.prog=P->X.w=w->X.K=K->X.calm=true->∀(i:Nat) (pins:List (Addr×Obj)) (s:Shared) (σ:St) (H:Hp) (E:Value->Shared->Prop),aJ X pins σ H s->(∀b∈fp,kC X pins H b)->tn i s.heap->J.stop i H->
  wpAny (model P w) X.A (pyNext (.ref it)) (λr s1=>r=none/\aJ X pins σ H s1) E s
 self:∀(A:Around) (i:Nat) (s:Shared) (Q:Value->Shared->Prop) (E:Value->Shared->Prop),tn i s.heap->Q (.ref it) s->wpAny (model P w) A (pyIter (.ref it)) Q E s
abbrev TI:=St->Hp->(It->Hp->Prop)->Prop
def Lk (X:Cx) (a:List (Addr×Obj)) (g:St) (f:Expr) (R:It->Hp->Prop) (c:Value) (d:Shared):Prop:=
 ∃(it:Addr) (fp:List Addr) (e:Nat->Heap->Prop) (J:It) (H':Hp),c=.ref it/\aJ X a g H' d/\nO X.prog X.w X.K f J fp it e/\e 0 d.heap/\(∀b∈fp,kC X a H' b)/\R J H'
def PI (X:Cx) (d a:Expr) (b:TI):Prop:=
 ∀(pins:List (Addr×Obj)) (s:Shared) (σ:St) (H:Hp) (R:It->Hp->Prop),aJ X pins σ H s->b σ H R->
  wpAny (model X.prog X.w) X.A (eval a X.env) (λv c=>wpAny (model X.prog X.w) X.A (pyIter v) (Lk X pins σ d R) X.xe c) X.xe s
theorem so{it:Addr}{Q:Unit->Shared->Prop}(d:s.heap.get? it=some o)(b:o.cls=.type n)(hd:o.data=.fields vs)
  (c:["enumerate", "zip", "dict_itemiterator", "dict_reverseitemiterator", "odict_iterator", "itertools.zip_longest", "itertools.pairwise"].contains n=false) (a:Q () s):wpAny M A (letOwnedTupleGo tg (.ref it) u) Q E s:=by
 cases tg<;>first
  |exact LM a
  |(cases u<;>first
    |exact LM a
    |(refine LJ (wpAny_load d ?_)
      rw[b,hd]
      show wpAny M A (if (["enumerate", "zip", "dict_itemiterator", "dict_reverseitemiterator", "odict_iterator", "itertools.zip_longest", "itertools.pairwise"].contains n&&vs[0]?==some (rawInt _))=true then _ else _) Q E s
      rw[if_neg (by intro h;rw[c,Bool.false_and] at h;cases h)]
      exact LM a))
noncomputable def nL (K:LO) (a:Addr):It:=
 ⟨λi H=>∃xs x,aF K H a xs/\xs[i]?=some x,λi H x H'=>H'=H/\∀xs,aF K H a xs->xs[i]?=some x,λi H=>∃xs,aF K H a xs/\xs.length<=i⟩
noncomputable def Ej (K:LO) (a:Addr):It:=
 ⟨λi H=>∃xs x,bW K H a xs/\xs[i]?=some x,λi H x H'=>H'=H/\∀xs,bW K H a xs->xs[i]?=some x,λi H=>∃xs,bW K H a xs/\xs.length<=i⟩
noncomputable def yw (a:Int) (n:Nat):It:=⟨λi _=>i<n,λi H x H'=>H'=H/\x=.int (a+i),λi _=>n<=i⟩
theorem y4 {P:Program}{O:Expr}(a it:Addr):nO P w K O (nL K a) [it] it (λi h=>h.IsListIter it a i) where
 mem:=by simp
 obj:=λi h st b g=>by
  have e:b=it:=by simpa using g
  subst e
  obtain⟨o,e,c,d⟩:=st
  exact⟨o,e,λv z=>by rw[d] at z;cases z⟩
 keep:=λi h h' st k=>st.at λo e=>k it (by simp) o e
 item:=by
  intro X A F q J i pins s σ H E I l st hg
  subst A F q
  obtain⟨xs,x,m,G⟩:=hg
  obtain⟨f,B,p,M⟩:=I.list m
  obtain⟨u,U,T⟩:=B.get G
  obtain⟨y,D,S,n,r,C⟩:=l it (by simp)
  refine wpAny_pyNext_list_item st p.isList (x:=u) (by simpa using U) λh' j sb=>?_
  have N:aJ X pins σ H {s with heap:=h'}:=I.turned (t':=s.toks) (λb o g e=>(sb.2 b g).trans e) y D n r C
  obtain⟨o,e,c,d⟩:=id j
  exact⟨u,rfl,so (s:={s with heap:=h'}) e c d (by decide) ⟨x,H,N,T,⟨rfl,λys Q=>by rw[I.list_inj Q m];exact G⟩,j,λb g=>(l b g).1⟩⟩
 done:=by
  intro X A F q J i pins s σ H E I l st hg
  subst A F q
  obtain⟨xs,m,G⟩:=hg
  obtain⟨f,B,p,M⟩:=I.list m
  obtain⟨y,D,S,n,r,C⟩:=l it (by simp)
  have W:=B.length
  exact wpAny_pyNext_list_end (I.ok.hd J) st p.isList (by simp;lia) λh' R=>⟨rfl,I.turned (t':=s.toks) (λb o g e=>R b o g e) y D n r C⟩
 self:=λ_ _ _ _ _ st h=>wpAny_pyIter_listiter st h
theorem vm {P:Program}{O:Expr}(a it:Addr):nO P w K O (Ej K a) [it] it (λi h=>h.IsTupleIter it a i) where
 mem:=by simp
 obj:=λi h st b g=>by
  have e:b=it:=by simpa using g
  subst e
  obtain⟨o,e,c,d⟩:=st
  exact⟨o,e,λv z=>by rw[d] at z;cases z⟩
 keep:=λi h h' st k=>st.at λo e=>k it (by simp) o e
 item:=by
  intro X A F q J i pins s σ H E I l st hg
  subst A F q
  obtain⟨xs,x,m,G⟩:=hg
  obtain⟨f,B,p,M⟩:=I.tuple m
  obtain⟨u,U,T⟩:=B.get G
  obtain⟨y,D,S,n,r,C⟩:=l it (by simp)
  refine wpAny_pyNext_tuple_item st (show s.heap.IsTuple a f.toArray from p) (x:=u) (by simpa using U) λh' j sb=>?_
  have N:aJ X pins σ H {s with heap:=h'}:=I.turned (t':=s.toks) (λb o g e=>(sb.2 b g).trans e) y D n r C
  obtain⟨o,e,c,d⟩:=id j
  exact⟨u,rfl,so (s:={s with heap:=h'}) e c d (by decide) ⟨x,H,N,T,⟨rfl,λys Q=>by rw[I.tuple_inj Q m];exact G⟩,j,λb g=>(l b g).1⟩⟩
 done:=by
  intro X A F q J i pins s σ H E I l st hg
  subst A F q
  obtain⟨xs,m,G⟩:=hg
  obtain⟨f,B,p,M⟩:=I.tuple m
  obtain⟨y,D,S,n,r,C⟩:=l it (by simp)
  have W:=B.length
  exact wpAny_pyNext_tuple_end (I.ok.hd J) st (show s.heap.IsTuple a f.toArray from p) (by simp;lia) λh' R=>⟨rfl,I.turned (t':=s.toks) (λb o g e=>R b o g e) y D n r C⟩
 self:=λ_ _ _ _ _ st h=>wpAny_pyIter_tupleiter st h
theorem uI {P:Program}{B:Expr}(it:Addr)(f:Int)(n:Nat):nO P w K B (yw f n) [it] it (λi h=>IsRangeIter h it (f+(i:Nat)*1) ((n:Int) - (i:Nat)) 1) where
 mem:=by simp
 obj:=λi h st b a=>by
  have e:b=it:=by simpa using a
  subst e
  exact⟨_,st,λv z=>by
   have C:Data.fields _=Data.cell v:=z
   cases C⟩
 keep:=λi h h' st k=>k it (by simp) _ st
 item:=by
  intro X u x r p i pins s σ H E I d st hg
  subst u x r
  obtain⟨l,q,F,g,j,m⟩:=d it (by simp)
  have W:=Walks.range (prog:=X.prog) (w:=X.w) (I.ok.hd p) it f 1 n
  refine W.item i s _ _ hg st λv h' tk y c G=>?_
  obtain⟨t,rfl⟩:=y
  have A:aJ X pins σ H {s with heap:=h',toks:=tk}:=I.turned (λb o a e=>G b o (by simpa using a) e) l q g j m
  refine⟨_,rfl,so (s:={s with heap:=h',toks:=tk}) (n:= "range_iterator") c rfl rfl (by decide) ⟨.int (f+i),H,A,⟨t,?_⟩,⟨rfl,rfl⟩,c,λb a=>(d b a).1⟩⟩
  rw[Int.mul_one]
 done:=by
  intro X u x r p i pins s σ H E I d st hg
  obtain⟨l,q,F,g,j,m⟩:=d it (by simp)
  exact wpAny_pyNext_range_end (I.ok.hd p) st (by have:n<=i:=hg;lia) λh' D=>⟨rfl,I.turned (t':=s.toks) (λb o a e=>D b o a e) l q g j m⟩
 self:=λ_ _ _ _ _ st h=>wpAny_pyIter_rangeiter st h
section
variable {tg:Expr}
def pk (K:LO) (tl:TE):TI:=λσ H R=>tl σ H λx H1=>∃a,x=.ref a/\(∃xs,aF K H1 a xs)/\R (nL K a) H1
def Jr (K:LO) (tl:TE):TI:=λσ H R=>tl σ H λx H1=>∃a,x=.ref a/\(∃xs,bW K H1 a xs)/\R (Ej K a) H1
theorem aD(n:PE X l tl):PI X tg l (pk X.K tl):=by
 intro pins s σ H R I h
 refine cy (n pins s σ H _ I h) λv d m=>?_
 obtain⟨x,H1,I1,r1,f⟩:=m
 obtain⟨a,e,⟨xs,g⟩,q⟩:=f
 subst e
 cases r1
 obtain⟨c,u,p,r⟩:=I1.list g
 refine Nu p.isList ?_
 refine⟨d.heap.objs.size,[d.heap.objs.size],_,_,H1,rfl,I1.kept (t':=d.toks) λb o e=>LU _ e,y4 a _,⟨_,L4 _ rfl,rfl,rfl⟩,λb j=>?_,q⟩
 have e:b=d.heap.objs.size:=by simpa using j
 subst e
 exact I1.fpOk (LL _) (I1.hok.fresh (LL _))
theorem A9(n:PE X l tl):PI X tg l (Jr X.K tl):=by
 intro pins s σ H R I h
 refine cy (n pins s σ H _ I h) λv d m=>?_
 obtain⟨x,H1,I1,r1,f⟩:=m
 obtain⟨a,e,⟨xs,g⟩,q⟩:=f
 subst e
 cases r1
 obtain⟨c,u,p,r⟩:=I1.tuple g
 refine wpAny_pyIter_tuple (show d.heap.IsTuple a c.toArray from p) ?_
 refine⟨d.heap.objs.size,[d.heap.objs.size],_,_,H1,rfl,I1.kept (t':=d.toks) λb o e=>LU _ e,vm a _,⟨_,L4 _ rfl,rfl,rfl⟩,λb j=>?_,q⟩
 have e:b=d.heap.objs.size:=by simpa using j
 subst e
 exact I1.fpOk (LL _) (I1.hok.fresh (LL _))
theorem sg {R:It->Hp->Prop}{lo a:Int}{t u v:Tok}{tk:Nat}(I:aJ X pins σ H s)(h1: -(2^62)<=lo)(j:lo<2^62)(l: -(2^62)<=a)(g:a<2^62)
  (q:R (yw lo (a - lo).toNat) H):wpAny (model X.prog X.w) X.A (pyIter (.ref s.heap.objs.size)) (Lk X pins σ tg R) E {s with heap:=s.heap.push {cls:=.type "range",data:=.fields #[.int lo t,.int a u,.int 1 v]},toks:=tk}:=by
 refine wpAny_pyIter_range (IsRange.new ..) (small_one h1 j l g) ?_
 have c:aJ X pins σ H {s with heap:=s.heap.push {cls:=.type "range",data:=.fields #[.int lo t,.int a u,.int 1 v]},toks:=tk}:=I.kept λb o e=>LU _ e
 refine⟨(s.heap.push {cls:=.type "range",data:=.fields #[.int lo t,.int a u,.int 1 v]}).objs.size,[(s.heap.push {cls:=.type "range",data:=.fields #[.int lo t,.int a u,.int 1 v]}).objs.size],_,_,H,rfl,
  c.kept (t':=tk) λb o e=>LU _ e,uI _ lo (a - lo).toNat,?_,λb f=>?_,q⟩
 ·have d:lo+((0:Nat):Int)*1=lo:=by simp
  have h:(((a - lo).toNat:Nat):Int) - ((0:Nat):Int)=Builtin.Range.rangeSize lo a 1:=by rw[rangeSize_one];split<;>lia
  rw[d,h]
  exact L4 _ rfl
 ·have e:b=(s.heap.push {cls:=.type "range",data:=.fields #[.int lo t,.int a u,.int 1 v]}).objs.size:=by simpa using f
  subst e
  exact c.fpOk (LL _) (c.hok.fresh (LL _))
def sT (a:TA):TI:=λσ H R=>a σ H λvs H1=>∃j:Int,vs=[.int j]/\ -(2^62)<=j/\j<2^62/\R (yw 0 j.toNat) H1
def C9 (a:TA):TI:=λσ H R=>a σ H λvs H1=>∃i j:Int,vs=[.int i,.int j]/\(-(2^62)<=i/\i<2^62/\ -(2^62)<=j/\j<2^62)/\R (yw i (j - i).toNat) H1
theorem yJ(m:Gl X "range")(d:X.mg "range" =none)(l:PA X [a] ta)(c:starEach [a] X.env=[(false,eval a X.env)]:=by rfl):PI X tg (.Call (.Name "range" p) [a] [] pos) (sT ta):=by
 intro pins s σ H R I h
 refine Call_ (gi I m d boot_range (PyProof.Rows.callWith_type1 (cy (l pos pins s σ H _ I h) λo n g=>?_) c rfl))
 obtain⟨vs,H1,I1,r1,b⟩:=g
 obtain⟨j,e,b,f,q⟩:=b
 subst e
 cases r1 with
 |cons r rr=>
  cases rr
  obtain⟨t,rfl⟩:=r
  exact call_range_1 (sg I1 (by lia) (by lia) b f (by simpa using q))
theorem iO(u:Gl X "range")(g:X.mg "range" =none)(o:PA X [a,b] ta)(f:starEach [a,b] X.env=[(false,eval a X.env),(false,eval b X.env)]:=by rfl)(c:starEach [b] X.env=[(false,eval b X.env)]:=by rfl):
  PI X tg (.Call (.Name "range" p) [a,b] [] pos) (C9 ta):=by
 intro pins s σ H R I h
 refine Call_ (gi I u g boot_range (PyProof.Rows.callWith_type1 (cy (o pos pins s σ H _ I h) λy x n=>?_) (by rw[f,c]) (by rw[c];rfl)))
 obtain⟨vs,H1,I1,r1,d⟩:=n
 obtain⟨i,j,e,⟨d,m,l,w⟩,q⟩:=d
 subst e
 cases r1 with
 |cons r rr=>
  cases rr with
  |cons r' rr=>
   cases rr
   obtain⟨t,rfl⟩:=r
   obtain⟨z,rfl⟩:=r'
   exact call_range_2 (sg I1 d m l w q)
def gY (d:TI) (g:TG) (e:TS):TS:=λD σ H=>d σ H λJ H1=>∃W:Nat->Nat->St->Hp->Prop,(∃m,W 0 m σ H1)/\∀i m σ H,W i m σ H->
 (J.stop i H/\D.nx σ H)\/(J.go i H/\∃N:St->Hp->Prop,(∀a H',N a H'->∃c,c<m/\W (i+1) c a H')/\∀x H',J.yld i H x H'->g x σ H' λb H2=>e {D with nx:=N,ct:=N,bk:=D.nx} b H2)
noncomputable def mY (fp:List Addr) (h:Heap):List (Addr×Obj):=fp.filterMap λb=>(h.get? b).map λo=>(b,o)
theorem gQ(a:b∈fp)(e:h.get? b=some o):(b,o)∈mY fp h:=MF.mpr ⟨b,a,by rw[e];rfl⟩
theorem yE{p:Addr×Obj}(a:p∈mY fp h):p.1∈fp/\h.get? p.1=some p.2:=by
 obtain⟨b,c,e⟩:=MF.mp a
 cases q:h.get? b with
 |none=>rw[q] at e;cases e
 |some o=>
  rw[q] at e
  have d:(b,o)=p:=Option.some.inj e
  subst d
  exact⟨c,q⟩
theorem aJ.pinned(I:aJ X pins σ H s)(j:∀b∈fp,kC X pins H b)(m:∀b∈fp,∃o,s.heap.get? b=some o/\∀v,o.data≠.cell v):aJ X (pins++mY fp s.heap) σ H s:=
 I.pins_of λp g=>(L_.mp g).elim (λz=>I.pin p (MC _ z)) λz=>by
  obtain⟨a,e⟩:=yE z
  obtain⟨h,l,f,_⟩:=j p.1 a
  obtain⟨o,c,d⟩:=m p.1 a
  rw[e] at c;cases c
  exact⟨e,h,l,f,d⟩
theorem aJ.unpinned {pl:List (Addr×Obj)}(I:aJ X (pins++pl) σ H s):aJ X pins σ H s:=I.pins_of λp a=>I.pin p (MC _ (MM _ a))
theorem Hj(M:PassesOwn (model X.prog X.w) X.A X.env X.xe)(hc:X.calm=true)(hi:PI X tg iter wi)(hg:PG X tg g)(C:nV X body tb)
  (hs:∀x,foldedSetIterable iter X.env x=pure x:=by intro _;rfl):PS X (.For tg iter body [] pos) (gY wi g tb):=by
 intro pins s σ H D I h
 refine wpAny_For (cy (hi pins s σ H _ I h) λv s1 h1=>cy h1 λbd s2 h2=>?_) hs
 obtain⟨it,fp,Y,J,H2,e,I2,T,y,Z,W,⟨m0,w0⟩,q⟩:=h2
 subst e
 have a:∀{H':Hp},(∀b∈fp,H' b=none)->∀b∈fp,kC X pins H' b:=λhn b C=>⟨hn b C,(Z b C).2⟩
 refine codeAny_forLoop_any (λn s'=>∃i B H',aJ X pins B H' s'/\Y i s'.heap/\(∀b∈fp,H' b=none)/\W i n B H') ?_ m0 ⟨0,σ,H2,I2,y,λb C=>(Z b C).1,w0⟩
 rintro n S ⟨i,E,H3,I3,p,l,w3⟩
 rcases q i n E H3 w3 with ⟨G,qn⟩|⟨go,N,hN,step⟩
 ·refine NM M (cy (T.done X rfl rfl rfl hc i pins S E H3 X.xe I3 (a l) p G) λr s4 ⟨hr,I4⟩=>?_)
  subst hr
  exact wpAny_execs_nil ⟨E,H3,I4,qn⟩
 ·refine NM M (cy (T.item X rfl rfl rfl hc i pins S E H3 X.xe I3 (a l) p go) λr s4 O=>?_)
  obtain⟨u,hr,h4⟩:=O
  subst hr
  refine NM M (cy h4 λ_ U O=>?_)
  obtain⟨x,H5,I5,r5,y5,j,w⟩:=O
  have Q:=I5.pinned (a w) (T.obj _ _ j)
  refine NM M (cy (hg _ U E H5 x u _ Q r5 (step x H5 y5)) λ_ s6 O=>?_)
  obtain⟨P,H6,I6,q6⟩:=O
  refine NM M (cy (C _ s6 P H6 _ I6 q6) λf R F=>?_)
  have c:∀{z:St} {H7:Hp},aJ X (pins++mY fp U.heap) z H7 R->N z H7->∃m,m<n/\∃i B H',aJ X pins B H' R/\Y i R.heap/\(∀b∈fp,H' b=none)/\W i m B H':=fun{z H7} I7 K=>by
   obtain⟨m',hm,w7⟩:=hN z H7 K
   refine⟨m',hm,i+1,z,H7,I7.unpinned,T.keep _ _ _ j λb C o e=>(I7.pin (b,o) (MC _ (MC _ (gQ C e)))).1,λb C=>?_,w7⟩
   obtain⟨o,e,d⟩:=T.obj _ _ j b C
   exact(I7.pin (b,o) (MC _ (MC _ (gQ C e)))).2.1
  cases f with
  |next=>obtain⟨z,H7,I7,K⟩:=F;exact c I7 K
  |cont=>obtain⟨z,H7,I7,K⟩:=F;exact c I7 K
  |brk=>obtain⟨z,H7,I7,F⟩:=F;exact⟨z,H7,I7.unpinned,F⟩
  |ret v=>obtain⟨x7,z,H7,I7,r7,F⟩:=F;exact⟨x7,z,H7,I7.unpinned,r7,F⟩
end
theorem bN {a:Addr}{xs:List V}{g:TG}{f:TS}{D:fX}(b:Nat->St->Hp->Prop)(h0:b 0 σ H)(n:∀i σ H,i<=xs.length->b i σ H->aF K H a xs)
  (j:∀i x σ H,xs[i]?=some x->b i σ H->g x σ H λd H2=>f {D with nx:=b (i+1),ct:=b (i+1),bk:=D.nx} d H2) (hd:∀σ H,b xs.length σ H->D.nx σ H):
  ∃W:Nat->Nat->St->Hp->Prop,(∃m,W 0 m σ H)/\∀i m σ H,W i m σ H->
   ((nL K a).stop i H/\D.nx σ H)\/((nL K a).go i H/\∃N:St->Hp->Prop,(∀c H',N c H'->∃h,h<m/\W (i+1) h c H')/\∀x H',(nL K a).yld i H x H'->g x σ H' λd H2=>f {D with nx:=N,ct:=N,bk:=D.nx} d H2):=by
 refine⟨λi m σ H=>m=xs.length - i/\i<=xs.length/\b i σ H,⟨xs.length,by simp,L0 _,h0⟩,?_⟩
 rintro i m σ H ⟨rfl,hi,p⟩
 have q:=n i σ H hi p
 by_cases hlt:i<xs.length
 ·refine .inr ⟨⟨xs,xs[i],q,by simp[hlt]⟩,b (i+1),λc H' l=>⟨xs.length - (i+1),by omega,rfl,hlt,l⟩,λx H' y=>?_⟩
  obtain⟨e,y⟩:=y
  subst e
  exact j i x σ _ (y xs q) p
 ·have e:i=xs.length:=by omega
  subst e
  exact .inl ⟨⟨xs,q,LL _⟩,hd σ H p⟩
theorem dC {d:Int}{n:Nat}{g:TG}{f:TS}{D:fX}(a:Nat->St->Hp->Prop)(h0:a 0 σ H)
  (j:∀i σ H,i<n->a i σ H->g (.int (d+i)) σ H λc H2=>f {D with nx:=a (i+1),ct:=a (i+1),bk:=D.nx} c H2) (hd:∀σ H,a n σ H->D.nx σ H):
  ∃W:Nat->Nat->St->Hp->Prop,(∃m,W 0 m σ H)/\∀i m σ H,W i m σ H->
   ((yw d n).stop i H/\D.nx σ H)\/((yw d n).go i H/\∃N:St->Hp->Prop,(∀b H',N b H'->∃h,h<m/\W (i+1) h b H')/\∀x H',(yw d n).yld i H x H'->g x σ H' λc H2=>f {D with nx:=N,ct:=N,bk:=D.nx} c H2):=by
 refine⟨λi m σ H=>m=n - i/\i<=n/\a i σ H,⟨n,by simp,L0 _,h0⟩,?_⟩
 rintro i m σ H ⟨rfl,hi,p⟩
 by_cases hlt:i<n
 ·refine .inr ⟨hlt,a (i+1),λb H' l=>⟨n - (i+1),by lia,rfl,hlt,l⟩,λx H' y=>?_⟩
  obtain⟨e,y⟩:=y
  subst e y
  exact j i σ _ hlt p
 ·have e:i=n:=by lia
  subst e
  exact .inl ⟨LL _,hd σ H p⟩
abbrev R2:=V->V->Hp->VK->Prop
def gy (X:Cx) (f:Value->Value->Sem Value) (r:R2):Prop:=
 ∀(pins:List (Addr×Obj)) (s:Shared) (σ:St) (H:Hp) (x y:V) (v u:Value) (Q:VK),aJ X pins σ H s->aZ x v->aZ y u->r x y H Q->
  wpAny (model X.prog X.w) X.A (f v u) (EP X pins σ Q) X.xe s
def K0 (X:Cx) (f:Value->Sem Value) (r:V->Hp->VK->Prop):Prop:=
 ∀(pins:List (Addr×Obj)) (s:Shared) (σ:St) (H:Hp) (x:V) (v:Value) (Q:VK),aJ X pins σ H s->aZ x v->r x H Q->
  wpAny (model X.prog X.w) X.A (f v) (EP X pins σ Q) X.xe s
def cT (X:Cx) (f:Value) (r:List V->Hp->VK->Prop):Prop:=
 ∀(pins:List (Addr×Obj)) (s:Shared) (σ:St) (H:Hp) (xs:List V) (a:List Value) (Q:VK),aJ X pins σ H s->aW xs a->r xs H Q->
  wpAny (model X.prog X.w) X.A (call f a) (EP X pins σ Q) X.xe s
def fv (r:R2) (b a:TE):TE:=λσ H Q=>b σ H λx H1=>a σ H1 λy H2=>r x y H2 Q
def KH (r:V->Hp->VK->Prop) (a:TE):TE:=λσ H Q=>a σ H λx H1=>r x H1 Q
def rI (C:Int->Int->Prop) (g:Int->Int->V):R2:=λx y H Q=>∃i j,x=.int i/\y=.int j/\C i j/\Q (g i j) H
def r8 (g:Int->Int->V):R2:=λx y H Q=>∃i j,x=.int i/\y=.int j/\Q (g i j) H
def rU (g:Int->V):V->Hp->VK->Prop:=λx H Q=>∃i,x=.int i/\Q (g i) H
section
variable {a b c:Expr} {ta tb tc:TE} {pos:Pos}
theorem Hc (j:PE X a ta)(o:PE X b tb){R:V->V->Hp->Prop}(I:aJ X pins σ H s)
  (h:ta σ H λx H1=>tb σ H1 λy H2=>R x y H2) {Q:Value->Shared->Prop} {f:Value->Value->Sem Value}
  (m:∀v u e x y H2,aJ X pins σ H2 e->aZ x v->aZ y u->R x y H2->wpAny (model X.prog X.w) X.A (f v u) Q X.xe e):
  wpAny (model X.prog X.w) X.A (eval a X.env) (λv c=>wpAny (model X.prog X.w) X.A (eval b X.env) (λu d=>wpAny (model X.prog X.w) X.A (f v u) Q X.xe d) X.xe c) X.xe s:=by
 refine cy (j pins s σ H _ I h) λv q g=>?_
 obtain⟨x,H1,I1,r1,l⟩:=g
 refine cy (o pins q σ H1 _ I1 l) λu e g=>?_
 obtain⟨y,H2,I2,n,p⟩:=g
 exact m v u e x y H2 I2 r1 n p
theorem au(j:gy X (binaryOp op) r)(c:PE X a ta)(e:PE X b tb):PE X (.BinOp a op b pos) (fv r ta tb):=by
 intro pins s σ H Q I h
 exact wpAny_BinOp (Hc c e I h λv u f x y H2 I2 d g q=>j pins f σ H2 x y v u Q I2 d g q)
theorem oG {b:UnaryOp}{r:V->Hp->VK->Prop}(f:K0 X (unaryOp b) r)(d:PE X a ta):PE X (.UnaryOp b a pos) (KH r ta):=by
 intro pins s σ H Q I h
 exact UnaryOp_ (cy (d pins s σ H _ I h) λv e ⟨x,H1,I1,r1,c⟩=>f pins e σ H1 x v Q I1 r1 c)
theorem Ky {f:Value->Value->Sem Value}{C:Int->Int->Prop}{g:Int->Int->Int}
  (a:∀(i j:Int) (t u:Tok) (s:Shared) (Q:Value->Shared->Prop) (E:Value->Shared->Prop),C i j->Q (.int (g i j) s.toks) {s with toks:=s.toks+1}->wpAny (model X.prog X.w) X.A (f (.int i t) (.int j u)) Q E s):
  gy X f (rI C λi j=> .int (g i j)):=by
 intro pins s σ H x y v u Q I b e h
 obtain⟨i,j,rfl,rfl,d,q⟩:=h
 obtain⟨t,rfl⟩:=b
 obtain⟨c,rfl⟩:=e
 exact a i j t c s _ _ d ⟨.int (g i j),H,I.tok _,⟨_,rfl⟩,q⟩
theorem JA {f:Value->Value->Sem Value}{g:Int->Int->Int}
  (a:∀(i j:Int) (t u:Tok) (s:Shared) (Q:Value->Shared->Prop) (E:Value->Shared->Prop),Q (.int (g i j) s.toks) {s with toks:=s.toks+1}->wpAny (model X.prog X.w) X.A (f (.int i t) (.int j u)) Q E s):
  gy X f (r8 λi j=> .int (g i j)):=by
 intro pins s σ H x y v u Q I b d h
 obtain⟨i,j,rfl,rfl,q⟩:=h
 obtain⟨t,rfl⟩:=b
 obtain⟨c,rfl⟩:=d
 exact a i j t c s _ _ ⟨.int (g i j),H,I.tok _,⟨_,rfl⟩,q⟩
theorem D9 {f:Value->Value->Sem Value}{g:Int->Int->Bool}
  (a:∀(i j:Int) (t u:Tok) (s:Shared) (Q:Value->Shared->Prop) (E:Value->Shared->Prop),Q (.bool (g i j)) s->wpAny (model X.prog X.w) X.A (f (.int i t) (.int j u)) Q E s):
  gy X f (r8 λi j=> .bl (g i j)):=by
 intro pins s σ H x y v u Q I b d h
 obtain⟨i,j,rfl,rfl,q⟩:=h
 obtain⟨t,rfl⟩:=b
 obtain⟨c,rfl⟩:=d
 exact a i j t c s _ _ ⟨.bl (g i j),H,I,rfl,q⟩
def J_ (i j:Int):Prop:=0<=j/\j<=1000000/\i.natAbs<2^64
def EY (i j:Int):Prop:=(-(2^64)<i/\i<2^64)\/(-(2^64)<j/\j<2^64)
theorem EY.ok(h:EY i j):IntMulOk i j:=by
 rcases h with ⟨h1,h2⟩|⟨h1,h2⟩
 ·exact .of_left (intBits_le_64 h1 h2)
 ·exact .of_right (intBits_le_64 h1 h2)
theorem aS:gy X (binaryOp .Add) (r8 λi j=> .int (i+j)):=JA λ_ _ _ _ _ _ _ q=>add_int q
theorem dO:gy X (binaryOp .Sub) (r8 λi j=> .int (i - j)):=JA λ_ _ _ _ _ _ _ q=>sub_int q
theorem gW:gy X (binaryOp .Mult) (rI EY λi j=> .int (i*j)):=Ky λ_ _ _ _ _ _ _ a q=>mul_int q a.ok
theorem cf:gy X (binaryOp .Mod) (rI (λ_ j=>0<j) λi j=> .int (i%j)):=Ky λi j _ _ _ _ _ a q=>by
 exact mod_int' (by lia) (by rw[Int.fmod_eq_emod_of_nonneg i (by lia)];exact q)
theorem pN:gy X (binaryOp .Pow) (rI J_ λi j=> .int (i^j.toNat)):=Ky λ_ _ _ _ _ _ _ a q=>pow_int_small a.1 a.2.1 a.2.2 q
theorem Lr {f:Value->Sem Value}{g:Int->Int}
  (a:∀(i:Int) (t:Tok) (s:Shared) (Q:Value->Shared->Prop) (E:Value->Shared->Prop),Q (.int (g i) s.toks) {s with toks:=s.toks+1}->wpAny (model X.prog X.w) X.A (f (.int i t)) Q E s):
  K0 X f (rU λi=> .int (g i)):=by
 intro pins s σ H x v Q I b h
 obtain⟨i,rfl,q⟩:=h
 obtain⟨t,rfl⟩:=b
 exact a i t s _ _ ⟨.int (g i),H,I.tok _,⟨_,rfl⟩,q⟩
theorem j9:K0 X (unaryOp .USub) (rU λi=> .int (-i)):=Lr λ_ _ _ _ _ q=>neg_int q
end
noncomputable def GW:V->V->Bool
 | .non,.non=>true| .non,.int _=>true| .int _,.non=>true| .non,.bl _=>true| .bl _,.non=>true| .non,.str _=>true| .str _,.non=>true
 | .int _,.int _=>true| .bl _,.bl _=>true| .str _,.str _=>true| .byt _,.byt _=>true
 | .int _,.str _=>true| .str _,.int _=>true| .bl _,.str _=>true| .str _,.bl _=>true
 |_,_=>false
def Km:R2:=λx y H Q=>GW x y=true/\Q (.bl (decide (x=y))) H
def Kh:R2:=λx y H Q=>GW x y=true/\Q (.bl (!decide (x=y))) H
theorem lU:decide (V.int i=V.int j)=(i==j):=by
 rw[Nv]
 simp
theorem vJ:decide (V.bl i=V.bl j)=(i==j):=by
 rw[Nv]
 simp
theorem we:decide (V.str i=V.str j)=(i==j):=by
 rw[Nv]
 simp
theorem vU {i j:Array UInt8}:decide (V.byt i=V.byt j)=(i.toList==j.toList):=by
 rw[Nv]
 cases i
 cases j
 simp
section
variable {a b c:Expr} {ta tb tc:TE} {pos:Pos}
theorem bw(I:aJ X pins σ H s)(q:Q (.bl k) H)(e:k=k'):EP X pins σ Q (.bool k') s:=by
 subst e
 exact⟨.bl k,H,I,rfl,q⟩
theorem di:gy X (compareOp .Eq) Km:=by
 intro pins s σ H x y v u Q I d a h
 obtain⟨c,q⟩:=h
 cases x with
 |non=>
  cases d
  cases y with
  |non=>cases a;exact PySem.EqNone.eq_none_none (bw I q (by simp))
  |bl j=>cases a;exact PySem.EqNone.eq_none_bool (bw I q (by simp))
  |int j=>obtain⟨b,rfl⟩:=a;exact PySem.EqNone.eq_none_int (bw I q (by simp))
  |str j=>obtain⟨b,rfl⟩:=a;exact PySem.EqNone.eq_none_str (bw I q (by simp))
  |_=>exact absurd (show false=true from c) L6
 |bl i=>
  cases d
  cases y with
  |non=>cases a;exact PySem.EqNone.eq_bool_none (bw I q (by simp))
  |bl j=>cases a;exact eq_bool (bw I q vJ)
  |str j=>obtain⟨b,rfl⟩:=a;exact PySem.EqMixed.eq_bool_str (bw I q (by simp))
  |_=>exact absurd (show false=true from c) L6
 |int i=>
  obtain⟨t,rfl⟩:=d
  cases y with
  |non=>cases a;exact PySem.EqNone.eq_int_none (bw I q (by simp))
  |int j=>obtain⟨b,rfl⟩:=a;exact eq_int (bw I q lU)
  |str j=>obtain⟨b,rfl⟩:=a;exact PySem.EqMixed.eq_int_str (bw I q (by simp))
  |_=>exact absurd (show false=true from c) L6
 |str i=>
  obtain⟨t,rfl⟩:=d
  cases y with
  |non=>cases a;exact PySem.EqNone.eq_str_none (bw I q (by simp))
  |bl j=>cases a;exact PySem.EqMixed.eq_str_bool (bw I q (by simp))
  |int j=>obtain⟨b,rfl⟩:=a;exact PySem.EqMixed.eq_str_int (bw I q (by simp))
  |str j=>obtain⟨b,rfl⟩:=a;exact eq_str (bw I q we)
  |_=>exact absurd (show false=true from c) L6
 |byt i=>
  obtain⟨t,rfl⟩:=d
  cases y with
  |byt j=>obtain⟨b,rfl⟩:=a;exact PySem.W.eq_bytes (bw I q vU)
  |_=>exact absurd (show false=true from c) L6
 |_=>cases y<;>exact absurd (show false=true from c) L6
theorem f_:gy X (compareOp .NotEq) Kh:=by
 intro pins s σ H x y v u Q I d a h
 obtain⟨c,q⟩:=h
 cases x with
 |non=>
  cases d
  cases y with
  |non=>cases a;exact PySem.EqNone.ne_none_none (bw I q (by simp))
  |bl j=>cases a;exact PySem.EqNone.ne_none_bool (bw I q (by simp))
  |int j=>obtain⟨b,rfl⟩:=a;exact PySem.EqNone.ne_none_int (bw I q (by simp))
  |str j=>obtain⟨b,rfl⟩:=a;exact PySem.EqNone.ne_none_str (bw I q (by simp))
  |_=>exact absurd (show false=true from c) L6
 |bl i=>
  cases d
  cases y with
  |non=>cases a;exact PySem.EqNone.ne_bool_none (bw I q (by simp))
  |bl j=>cases a;exact ne_bool (bw I q (congrArg not vJ))
  |str j=>obtain⟨b,rfl⟩:=a;exact PySem.EqMixed.ne_bool_str (bw I q (by simp))
  |_=>exact absurd (show false=true from c) L6
 |int i=>
  obtain⟨t,rfl⟩:=d
  cases y with
  |non=>cases a;exact PySem.EqNone.ne_int_none (bw I q (by simp))
  |int j=>obtain⟨b,rfl⟩:=a;exact ne_int (bw I q (congrArg not lU))
  |str j=>obtain⟨b,rfl⟩:=a;exact PySem.EqMixed.ne_int_str (bw I q (by simp))
  |_=>exact absurd (show false=true from c) L6
 |str i=>
  obtain⟨t,rfl⟩:=d
  cases y with
  |non=>cases a;exact PySem.EqNone.ne_str_none (bw I q (by simp))
  |bl j=>cases a;exact PySem.EqMixed.ne_str_bool (bw I q (by simp))
  |int j=>obtain⟨b,rfl⟩:=a;exact PySem.EqMixed.ne_str_int (bw I q (by simp))
  |str j=>obtain⟨b,rfl⟩:=a;exact ne_str (bw I q (congrArg not we))
  |_=>exact absurd (show false=true from c) L6
 |byt i=>
  obtain⟨t,rfl⟩:=d
  cases y with
  |byt j=>obtain⟨b,rfl⟩:=a;exact PySem.W.ne_bytes (bw I q (congrArg not vU))
  |_=>exact absurd (show false=true from c) L6
 |_=>cases y<;>exact absurd (show false=true from c) L6
theorem jV:gy X (compareOp .Lt) (r8 λi j=> .bl (decide (i<j))):=D9 λ_ _ _ _ _ _ _ q=>lt_int q
theorem dv:gy X (compareOp .LtE) (r8 λi j=> .bl (decide (i<=j))):=D9 λ_ _ _ _ _ _ _ q=>le_int q
theorem oK:gy X (compareOp .Gt) (r8 λi j=> .bl (decide (j<i))):=D9 λ_ _ _ _ _ _ _ q=>gt_int q
theorem xx:gy X (compareOp .GtE) (r8 λi j=> .bl (decide (j<=i))):=D9 λ_ _ _ _ _ _ _ q=>ge_int q
theorem pj:gy X (compareOp .In) (λx y H Q=>∃i j,x=.str i/\y=.str j/\Q (.bl (!(Builtin.Str.occurrences j i 0 j.length 1).isEmpty)) H):=by
 intro pins s σ H x y v u Q I a b h
 obtain⟨i,j,rfl,rfl,q⟩:=h
 obtain⟨t,rfl⟩:=a
 obtain⟨c,rfl⟩:=b
 exact in_str (bw I q rfl)
theorem fN:gy X (compareOp .Is) (λx y H Q=>y=.non/\Q (.bl (decide (x=.non))) H):=by
 intro pins s σ H x y v u Q I a b h
 obtain⟨rfl,q⟩:=h
 cases b
 refine is_none_gen (bw I q ?_)
 cases x<;>first
  |(cases a;rfl)
  |(obtain⟨t,rfl⟩:=a;rfl)
theorem Em:gy X (compareOp .IsNot) (λx y H Q=>y=.non/\Q (.bl (!decide (x=.non))) H):=by
 intro pins s σ H x y v u Q I a b h
 obtain⟨rfl,q⟩:=h
 cases b
 refine isnot_none_gen (bw I q ?_)
 cases x<;>first
  |(cases a;rfl)
  |(obtain⟨t,rfl⟩:=a;rfl)
theorem jC:gy X (compareOp .NotIn) (λx y H Q=>∃i j,x=.str i/\y=.str j/\Q (.bl (!(!(Builtin.Str.occurrences j i 0 j.length 1).isEmpty))) H):=by
 intro pins s σ H x y v u Q I a b h
 obtain⟨i,j,rfl,rfl,q⟩:=h
 obtain⟨t,rfl⟩:=a
 obtain⟨c,rfl⟩:=b
 exact notIn_str (bw I q rfl)
theorem BX (b:Expr){a:CmpOp}(h:a≠.In:=by decide)(e:a≠.NotIn:=by decide):behindInMarks a b=false:=by
 have c:(a==CmpOp.In)=false:=by cases a<;>first|rfl|exact absurd rfl h
 have d:(a==CmpOp.NotIn)=false:=by cases a<;>first|rfl|exact absurd rfl e
 cases b<;>simp[behindInMarks,c,d]
theorem lV(l:gy X (compareOp op) r)(j:PE X a ta)(e:PE X b tb)(c:behindInMarks op b=false):PE X (.Compare a [op] [b] pos) (fv r ta tb):=by
 intro pins s σ H Q I h
 exact wpAny_Compare1 (Hc j e I h λv u f x y H2 I2 d g q=>l pins f σ H2 x y v u Q I2 d g q) c
def jD (t:TE):TT:=λσ H Q=>t σ H λx H'=>∃k,x=.bl k/\Q k H'
theorem gI(w:gy X (compareOp op) r)(p:PE X a ta)(l:PE X b tb)(g:behindInMarks op b=false):PT X (.Compare a [op] [b] pos) (jD (fv r ta tb)):=by
 intro pins s σ H Q I h
 refine wpAny_isTrue_Compare1 (cy (p pins s σ H _ I h) λv q ⟨x,H1,I1,r1,d⟩=>cy (l pins q σ H1 _ I1 d) λu m ⟨y,H2,I2,j,o⟩=>
  cy (w pins m σ H2 x y v u _ I2 r1 j o) λc A ⟨z,H3,I3,f,k,e,n⟩=>?_) g
 subst e
 cases f
 exact MU ⟨H3,I3,n⟩
def vg (r c:R2) (e d a:TE):TE:=λσ H Q=>e σ H λx H1=>d σ H1 λy H2=>r x y H2 λz H3=>∃k,z=.bl k/\
 (if k=true then a σ H3 λb H4=>c y b H4 Q else Q (.bl false) H3)
theorem mV(K:gy X (compareOp op) r)(f:gy X (compareOp op') r')(F:PE X a ta)(A:PE X b tb)(C:PE X c tc)
  (w:lastMarks [op,op'] [b,c]=false:=by with_unfolding_all rfl):PE X (.Compare a [op,op'] [b,c] pos) (vg r r' ta tb tc):=by
 intro pins s σ H Q I h
 refine Compare_chain (cy (F pins s σ H _ I h) λv G ⟨x,H1,I1,r1,n⟩=>chain_link (cy (A pins G σ H1 _ I1 n) λu B ⟨y,H2,I2,g,D⟩=>
  cy (K pins B σ H2 x y v u _ I2 r1 g D) λd p ⟨z,H3,I3,q,k,e,j⟩=>?_)) w
 subst e
 cases q
 refine MU ?_
 cases k with
 |false=>exact ite_ff ⟨.bl false,H3,I3,rfl,j⟩
 |true=>exact ite_tt (chain_last (cy (C pins p σ H3 _ I3 j) λE m ⟨o,H4,I4,l,J⟩=>f pins m σ H4 y o u E Q I4 g l J))
theorem d_(B:gy X (compareOp op) r)(f:gy X (compareOp op') r')(l:PE X a ta)(J:PE X b tb)(M:PE X c tc)
  (G:lastMarks [op,op'] [b,c]=false:=by with_unfolding_all rfl):PT X (.Compare a [op,op'] [b,c] pos) (jD (vg r r' ta tb tc)):=by
 intro pins s σ H Q I h
 refine isTrue_chain (cy (l pins s σ H _ I h) λv S ⟨x,H1,I1,r1,E⟩=>test_link (cy (J pins S σ H1 _ I1 E) λu q ⟨y,H2,I2,j,N⟩=>
  cy (B pins q σ H2 x y v u _ I2 r1 j N) λd n ⟨z,H3,I3,o,k,e,g⟩=>?_)) G
 subst e
 cases o
 refine MU ?_
 cases k with
 |false=>
  obtain⟨k',K,P⟩:=g
  cases K
  exact ite_ff ⟨H3,I3,P⟩
 |true=>
  refine ite_tt (test_last (cy (M pins n σ H3 _ I3 g) λO D ⟨F,H4,I4,C,A⟩=>cy (f pins D σ H4 y F u O _ I4 j C A) λU W R=>?_))
  obtain⟨Y,H5,I5,p,T,w,m⟩:=R
  subst w
  cases p
  exact MU ⟨H5,I5,m⟩
theorem m_:(sizeLine:Nat)<2^63:=by rw[sizeLine_eq];decide
theorem bE:gy X (binaryOp .Add) (λx y H Q=>∃i j,x=.str i/\y=.str j/\i.length+j.length<=sizeLine/\Q (.str (i++j)) H):=by
 intro pins s σ H x y v u Q I b d h
 obtain⟨i,j,rfl,rfl,a,q⟩:=h
 obtain⟨t,rfl⟩:=b
 obtain⟨c,rfl⟩:=d
 exact add_str (λc tk=>⟨.str (i++j),H,I.tok _,⟨_,rfl⟩,q⟩) a
theorem dF(r:aW [x] us):∃u,us=[u]/\aZ x u:=by
 cases r with
 |cons r1 r2=>cases r2;exact⟨_,rfl,r1⟩
theorem kW(r:aW [x,y] us):∃u w',us=[u,w']/\aZ x u/\aZ y w':=by
 cases r with
 |cons r1 r2=>
  cases r2 with
  |cons r3 r4=>cases r4;exact⟨_,_,rfl,r1,r3⟩
theorem jL:cT X (.builtin "abs") (λxs H Q=>∃i,xs=[.int i]/\Q (.int (if i<0 then -i else i)) H):=by
 intro pins s σ H xs a Q I r h
 obtain⟨i,rfl,q⟩:=h
 obtain⟨u,rfl,t,rfl⟩:=dF r
 exact call_abs_int λu tk=>⟨.int (if i<0 then -i else i),H,I.tok _,⟨_,rfl⟩,q⟩
theorem eM (a:X.calm=true):cT X (.builtin "max") (λxs H Q=>∃i j,xs=[.int i,.int j]/\Q (.int (if j>i then j else i)) H):=by
 intro pins s σ H xs b Q I r h
 obtain⟨i,j,rfl,q⟩:=h
 obtain⟨u,d,rfl,⟨t,rfl⟩,⟨c,rfl⟩⟩:=kW r
 refine max_two_ints (I.ok.hd a) λh' tk k=>⟨_,H,I.kept k,?_,q⟩
 by_cases hj:j>i
 ·rw[if_pos hj,if_pos hj];exact⟨_,rfl⟩
 ·rw[if_neg hj,if_neg hj];exact⟨_,rfl⟩
theorem gA (a:X.calm=true):cT X (.builtin "min") (λxs H Q=>∃i j,xs=[.int i,.int j]/\Q (.int (if j<i then j else i)) H):=by
 intro pins s σ H xs b Q I r h
 obtain⟨i,j,rfl,q⟩:=h
 obtain⟨u,d,rfl,⟨t,rfl⟩,⟨c,rfl⟩⟩:=kW r
 refine min_two_ints (I.ok.hd a) λh' tk k=>⟨_,H,I.kept k,?_,q⟩
 by_cases hj:j<i
 ·rw[if_pos hj,if_pos hj];exact⟨_,rfl⟩
 ·rw[if_neg hj,if_neg hj];exact⟨_,rfl⟩
theorem bf:cT X (.type "str") (λxs H Q=>∃i,xs=[.int i]/\i.natAbs.log2<1920/\Q (.str (toString i)) H):=by
 intro pins s σ H xs b Q I r h
 obtain⟨i,rfl,a,q⟩:=h
 obtain⟨u,rfl,t,rfl⟩:=dF r
 exact PySem.P.str_of_int a ⟨.str _,H,I.tok _,⟨_,rfl⟩,q⟩
def Cz (K:LO) (x:V) (H:Hp) (n:Nat):Prop:=
 match x with
 | .str y=>y.length<=sizeLine/\n=y.length
 | .byt y=>y.size<=sizeLine/\n=y.size
 | .ref p=>(∃xs,aF K H p xs/\n=xs.length)\/∃xs,bW K H p xs/\n=xs.length
 |_=>False
theorem aU:cT X (.builtin "len") (λxs H Q=>∃x n,xs=[x]/\Cz X.K x H n/\Q (.int n) H):=by
 intro pins s σ H xs w Q I r h
 obtain⟨x,n,rfl,e,q⟩:=h
 obtain⟨u,rfl,f⟩:=dF r
 have o:sizeLine=16777216:=sizeLine_eq
 cases x with
 |str y=>
  obtain⟨t,rfl⟩:=f
  obtain⟨m,c⟩:y.length<=sizeLine/\n=y.length:=e
  subst c
  exact len_str (by lia) ⟨.int _,H,I.tok _,⟨_,rfl⟩,q⟩
 |byt y=>
  obtain⟨t,rfl⟩:=f
  obtain⟨m,c⟩:y.size<=sizeLine/\n=y.size:=e
  subst c
  exact PySem.W.len_bytes (by lia) ⟨.int _,H,I.tok _,⟨_,rfl⟩,q⟩
 |ref p=>
  cases f
  have c:(∃xs,aF X.K H p xs/\n=xs.length)\/∃xs,bW X.K H p xs/\n=xs.length:=e
  rcases c with ⟨xs,j,c⟩|⟨xs,j,c⟩
  ·subst c
   obtain⟨b,g,d,l⟩:=I.list j
   have a:=g.length
   exact Calls.call_len_list d.isList (by simp only[Ma];lia) ⟨.int xs.length,H,I.tok _,⟨_,by simp only[Ma];rw[a]⟩,q⟩
  ·subst c
   obtain⟨b,g,d,l⟩:=I.tuple j
   have a:=g.length
   exact len_tuple d (by simp only[Ma];lia) ⟨.int xs.length,H,I.tok _,⟨_,by simp only[Ma];rw[a]⟩,q⟩
 |_=>exact(show False from e).elim
end
structure uB (h:Heap) (x dx C:Addr) (mA:Str->Option Value):Prop where
 obj:h.get? x=some (Np C dx)
 ns:h.Ns1 dx mA
 ne:dx≠x
set_option tactic.hygienic true in
theorem zv {h:Heap}{f:Addr}{c:Str->Option Value}(n:h.Ns1 f c):∃d,h.get? f=some d/\∀name,PySem.W.lookIn name d=some (c name):=by
 obtain⟨o,es,ep,m,hd,l,_,g⟩:=n
 refine⟨o,m,λname=>?_⟩
 have e:=g name
 unfold nsFind findBy at e
 rw[<-Array.find?_toList] at e
 unfold PySem.W.lookIn
 rw[hd]
 dsimp only
 split
 ·rename_i y q
  rw[q] at e
  exact congrArg some e
 ·rename_i q
  rw[q] at e
  have a:es.toList.any (·.refKey)=false:=by
   rw[NY]
   intro y j
   obtain⟨z,t,b⟩:=l y (Nc.mp j)
   simp[DictEntry.refKey,b]
  have p:¬es.toList.any (·.refKey)=true:=by rw[a];exact L6
  rw[if_neg p]
  exact congrArg some e
theorem uB.look(I:uB h x dx C mA):∃a,PySem.W.InstAt h x (Np C dx) C (some a)/\∀name,PySem.W.lookIn name a=some (mA name):=
 let ⟨a,ho,hl⟩:=zv I.ns
 ⟨a,⟨I.obj,rfl,rfl,ho⟩,hl⟩
section
variable {x dx C f:Addr} {mA:Str->Option Value} {name:Str} {v:Value}
theorem EW(X:K.In s.heap)(I:uB s.heap x dx C mA)(f:Oe K C name=true)(e:Oo K C=true)
  (d:Mq K (.ref C) name=some none) (b:mA name=some v) (a:PySem.W.handedIn v=true) (h:Q v {s with toks:=s.toks+1}):
  wpAny (model prog w) A (getAttr (.ref x) name expr) Q E s:=by
 obtain⟨g,J,c⟩:=I.look
 exact PySem.W.get_value X J (PySem.W.plainGet_of f).1 (PySem.W.findObj_own e d rfl (by rw[c,b])) a h
theorem Cw {pl:Sem Bool}{Q:Value×List Value->Shared->Prop}(X:K.In s.heap)(I:uB s.heap x dx C mA)(a:Oe K C name=true)
  (g:Mq K (.ref C) name=some (some (.ref f))) (e:Nw K (.ref f)=true) (c:mA name=none) (h:Q (.ref f,[.ref x]) s):
  wpAny (model prog w) A (getMethod (.ref x) name pl) Q E s:=by
 obtain⟨b,J,d⟩:=I.look
 exact PySem.W.method_fn X J (PySem.W.plainGet_of a).1 (PySem.W.plainGet_of a).2 g (beq_iff_eq.mp e) (by show(PySem.W.lookIn name b).map (·.isSome)=some false;rw[d,c];rfl) h
theorem FJ{ns:List Str}{Q:Unit->Shared->Prop}(X:K.In s.heap)(I:uB s.heap x dx C mA)
  (o:Mq K (.ref C) "__setattr__" =some (some (.builtin "object.__setattr__"))) (n:PySem.W.plainOver K C=true) (u:PySem.W.takerIn K C name=some none) (B:Oo K C=true)
  (z:PySem.Within mA ns) (hsz:ns.length<=sizeLine)
  (h:∀h',uB h' x dx C (λy=>if y=name then some v else mA y)->Heap.SameBut dx s.heap h'->Q () {s with heap:=h',toks:=s.toks+2}):
  wpAny (model prog w) A (setAttr (.ref x) name v) Q E s:=by
 obtain⟨G,J,H⟩:=I.look
 refine PySem.W.set_plain X J o (PySem.W.osa_open (s:={s with toks:=s.toks+1}) (r:=none) X J n u λb=>?_)
 obtain⟨D,q,d⟩:=PySem.W.any_some B
 have p:s.heap.get? x=some ⟨.ref C,some dx,.plain,#[]⟩:=I.obj
 refine LJ (LM (LJ (LJ (wpAny_loadPart p (LJ (PySem.W.Looks.here (s:={s with toks:=s.toks+1}) (PySem.W.looks_clsIn X q) ?_))))))
 rw[d]
 refine LM (a:=some dx) (LJ (LM (LJ ?_)))
 refine wpAny_nsSet1 (s:={s with toks:=s.toks+1}) I.ns λh' m l=>?_
 obtain⟨F,j,g,f,e,c⟩:=m.count (PySem.Within.cons name v z)
 refine LJ (wpAny_lookBehind f (by rw[e];exact pastItsLine_dict (LR c (by rw[L5];lia))) ?_)
 exact LM (h _ ⟨(l.2 _ (L8 I.ne)).trans I.obj,m,I.ne⟩ l)
theorem A6{b:List (Str×Value)}(X:K.In s.heap)(c:PySem.W.makesIn K C=true)
  (d:Mq K (.ref C) "__init__" =some (some (.ref f))) (e:PySem.W.typeIn K (.ref f)=some (.type "function"))
  (h:codeAny (model prog w) (A.under (.builtin "type.__call__" ⟨.ref C::vs,b⟩)) (.call (.ref f) ⟨.ref (s.heap.objs.size+1)::vs,b⟩) (PySem.W.InitBack (s.heap.objs.size+1) R)
   {s with heap:=(s.heap.push Nd).push (Np C s.heap.objs.size)}):
  codeAny (model prog w) A (.call (.ref C) ⟨vs,b⟩) R s:=by
 exact PySem.W.make_core (PySem.W.makes_of X c) (PySem.W.looks_findIn X d) (λa=>PySem.W.bind_fn X a e) (.inl rfl) h
end
noncomputable def eW (f:Str) (v:V):List (Str×V)->List (Str×V)
 |[]=>[(f,v)]
 |(g,x)::r=>if g=f then (g,v)::r else (g,x)::eW f v r
theorem aK (f g:Str)(v:V):∀fs:List (Str×V),(eW f v fs).lookup g=if g=f then some v else fs.lookup g
 |[]=>by
  show Nf g [(f,v)]=_
  by_cases h:g=f
  ·have a:(g==f)=true:=beq_iff_eq.mpr h
   simp only[Nf,a,if_pos h]
  ·have a:(g==f)=false:=beq_eq_false_iff_ne.mpr h
   simp only[Nf,a,if_neg h]
 |(k,x)::r=>by
  have b:=aK f g v r
  rw[show eW f v ((k,x)::r)=(if k=f then (k,v)::r else (k,x)::eW f v r) from rfl]
  by_cases hk:k=f
  ·rw[if_pos hk]
   by_cases h:g=k
   ·have a:(g==k)=true:=beq_iff_eq.mpr h
    simp only[Nf,a,if_pos (h.trans hk)]
   ·have a:(g==k)=false:=beq_eq_false_iff_ne.mpr h
    simp only[Nf,a,if_neg (λe:g=f=>h (e.trans hk.symm))]
  ·rw[if_neg hk]
   by_cases h:g=k
   ·have a:(g==k)=true:=beq_iff_eq.mpr h
    simp only[Nf,a,if_neg (λe:g=f=>hk (h.symm.trans e))]
   ·have a:(g==k)=false:=beq_eq_false_iff_ne.mpr h
    simp only[Nf,a]
    exact b
theorem kF (f:Str)(v:V):∀fs:List (Str×V),f∈(eW f v fs).map (·.1)/\∀g,g∈fs.map (·.1)->g∈(eW f v fs).map (·.1)
 |[]=>⟨by simp[eW],λg h=>by simp at h⟩
 |(k,x)::r=>by
  obtain⟨b,a⟩:=kF f v r
  rw[show eW f v ((k,x)::r)=(if k=f then (k,v)::r else (k,x)::eW f v r) from rfl]
  by_cases hk:k=f
  ·rw[if_pos hk]
   subst hk
   exact⟨by simp,λg h=>by simpa using h⟩
  ·rw[if_neg hk]
   refine⟨?_,λg h=>?_⟩
   ·rw[L1]
    exact LZ _ b
   ·rw[L1] at h|-
    rcases LS.mp h with e|e
    ·exact LS.mpr (.inl e)
    ·exact LZ _ (a g e)
theorem bH (f:Str)(v:V):∀fs:List (Str×V),(eW f v fs).length<=fs.length+1
 |[]=>by simp[eW]
 |(k,x)::r=>by
  have a:=bH f v r
  rw[show eW f v ((k,x)::r)=(if k=f then (k,v)::r else (k,x)::eW f v r) from rfl]
  by_cases hk:k=f
  ·rw[if_pos hk,L5,L5];lia
  ·rw[if_neg hk,L5,L5];lia
theorem i9.some_of{o:Option Value}(r:i9 (some v) o):∃u,o=some u/\aZ v u:=by
 cases o with
 |none=>exact(show False from r).elim
 |some u=>exact⟨u,rfl,r⟩
theorem i9.none_of {o:Option Value}(r:i9 none o):o=none:=by
 cases o with
 |none=>rfl
 |some u=>exact(show False from r).elim
theorem yh(r:aZ v u):PySem.W.handedIn u=true:=by
 cases v with
 |non=>cases(show u=Value.none from r);rfl
 |bl b=>cases(show u=Value.bool b from r);rfl
 |int i=>obtain⟨t,e⟩:=(show∃t,u=Value.int i t from r);cases e;rfl
 |str x=>obtain⟨t,e⟩:=(show∃t,u=Value.str x t from r);cases e;rfl
 |byt b=>obtain⟨t,e⟩:=(show∃t,u=Value.bytes b t from r);cases e;rfl
 |flt b=>obtain⟨t,e⟩:=(show∃t,u=Value.float b t from r);cases e;rfl
 |ref a=>cases(show u=Value.ref a from r);rfl
 |ty n=>cases(show u=Value.type n from r);rfl
section
variable {P:Program} {H':Hp} {h h':Heap} {a C dx:Addr} {fs fs':List (Str×V)}
theorem lG (b:iL P w H h)(e:H a=some (.ins C dx fs)):∃mA,uB h a dx C mA/\(∀f,i9 (fs.lookup f) (mA f))/\PySem.Within mA (fs.map (·.1))/\fs.length<=1000/\H dx=some (.own a):=by
 obtain⟨d,z,c,g,mA,n,r,q⟩:=(show bV P w H h a (.ins C dx fs) from b a _ e)
 exact⟨mA,⟨g,n,c⟩,r,q,z,d⟩
end
structure j6 (K:LO) (C:Addr):Prop where
 pg:Oe K C Str.empty=true
 hd:Oo K C=true
 po:PySem.W.plainOver K C=true
 sa:Mq K (.ref C) "__setattr__" =some (some (.builtin "object.__setattr__"))
theorem j6.get {C:Addr}(c:j6 K C)(f:Str):Oe K C f=true:=c.pg
def bC (K:LO) (C:Addr) (f:Str):Prop:=Mq K (.ref C) f=some none
theorem bC.taker {C:Addr}{f:Str}(n:bC K C f):PySem.W.takerIn K C f=some none:=by
 unfold PySem.W.takerIn
 rw[show Mq K (.ref C) f=some none from n]
 rfl
structure E2 (K:LO) (C:Addr) (m:Str) (f:Addr):Prop where
 at_:Mq K (.ref C) m=some (some (.ref f))
 fn:Nw K (.ref f)=true
 kp:Mv K (.ref f)=true
section
variable {a C dx:Addr} {fs:List (Str×V)} {f:Str} {v:V}
theorem vO(I:aJ X pins σ H s)(e:H a=some (.ins C dx fs))(c:j6 X.K C)(n:bC X.K C f)(l:fs.lookup f=some v)
  (h:∀u s',aJ X pins σ H s'->aZ v u->Q u s'):wpAny (model X.prog X.w) A (getAttr (.ref a) f b) Q E s:=by
 obtain⟨mA,O,r,_,_,_⟩:=lG I.hok e
 obtain⟨u,g,d⟩:=i9.some_of (v:=v) (o:=mA f) (by rw[<-l];exact r f)
 exact EW I.kIn O (c.get f) c.hd n g (yh d) (h u _ (I.tok _) d)
theorem gZ{pl:Sem Bool}{Q:Value×List Value->Shared->Prop}(I:aJ X pins σ H s)(e:H a=some (.ins C dx fs))(c:j6 X.K C)(k:E2 X.K C m g)(l:fs.lookup m=none)
  (h:Q (.ref g,[.ref a]) s):wpAny (model X.prog X.w) A (getMethod (.ref a) m pl) Q E s:=by
 obtain⟨mA,O,r,_,_,_⟩:=lG I.hok e
 have b:mA m=none:=i9.none_of (by rw[<-l];exact r m)
 exact Cw I.kIn O (c.get m) k.at_ k.fn b h
theorem uh{Q:Unit->Shared->Prop}(I:aJ X pins σ H s)(e:H a=some (.ins C dx fs))(c:j6 X.K C)(n:bC X.K C f)(p:fs.length<1000)(m:aZ y u)
  (h:∀s',aJ X pins σ (upd H a (.ins C dx (eW f y fs))) s'->Q () s'):wpAny (model X.prog X.w) A (setAttr (.ref a) f u) Q E s:=by
 obtain⟨mA,O,r,wi,_,d⟩:=lG I.hok e
 have j:(fs.map (·.1)).length<=sizeLine:=by rw[LK,sizeLine_eq];lia
 refine FJ I.kIn O c.sa c.po n.taker c.hd wi j λh' O' sb=>h _ ?_
 have hd:∃o,h'.get? dx=some o:=let ⟨o,_,_,e',_⟩:=O'.ns;⟨o,e'⟩
 refine I.write (x:=a) (e:=dx) (by rw[e];exact True.intro) (.inr d) (λb q l z=>(sb.2 b l).trans z) hd ?_
 refine⟨by rw[ak O.ne];exact d,?_,O.ne,O'.obj,_,O'.ns,λg=>?_,λg hg=>?_⟩
 ·have:=bH f y fs;lia
 ·show i9 ((eW f y fs).lookup g) (if g=f then some u else mA g)
  rw[aK]
  by_cases q:g=f
  ·rw[if_pos q,if_pos q];exact m
  ·rw[if_neg q,if_neg q];exact r g
 ·by_cases q:g=f
  ·rw[q];exact(kF f y fs).1
  ·refine(kF f y fs).2 g (wi g λz=>hg ?_)
   show(if g=f then some u else mA g)=none
   rw[if_neg q];exact z
theorem aJ.made (I:aJ X pins σ H s):aJ X pins σ (upd (upd H s.heap.objs.size (.own (s.heap.objs.size+1))) (s.heap.objs.size+1) (.ins C s.heap.objs.size []))
  {s with heap:=(s.heap.push Nd).push (Np C s.heap.objs.size)}:=by
 have c:(s.heap.push Nd).get? s.heap.objs.size=some Nd:=L4 s.heap rfl
 have h:((s.heap.push Nd).push (Np C s.heap.objs.size)).get? (s.heap.objs.size+1)=some (Np C s.heap.objs.size):=by
  have:=L4 (s.heap.push Nd) (o:=Np C s.heap.objs.size) rfl
  rwa [Mz] at this
 have f:(s.heap.push Nd).Ns s.heap.objs.size (λ_=>none):=⟨Nd,#[],_,c,rfl,(λe l=>absurd l (by simp)),λ_=>rfl⟩
 have j:=I.laid (a:=s.heap.objs.size) (o:=.own (s.heap.objs.size+1)) (h':=s.heap.push Nd) (t':=s.toks) (λb u q=>LU _ q) (LL _) ⟨_,c⟩
 refine j.laid (a:=s.heap.objs.size+1) (o:=.ins C s.heap.objs.size []) (t':=s.toks) (λb u q=>LU _ q) (Nat.le_of_eq (Mz _ _)) ?_
 have d:s.heap.objs.size≠s.heap.objs.size+1:=L3 (NZ _)
 refine⟨by rw[ak d,ae],L0 _,d,h,λ_=>none,(Heap.Ns1.of_empty f).at λo q=>LU _ q,λ_=>True.intro,λy g=>absurd rfl g⟩
theorem FN(b:attributeBase e f env (eval e env)=eval e env)
  (h:wpAny (model prog w) A (eval e env) (λo a=>wpAny (model prog w) A (getAttr o f true) Q E a) E s):wpAny (model prog w) A (eval (.Attribute e f pos) env) Q E s:=
 Attribute_any_ h (by rw[arm_eval_Attribute,b])
end
def yP (K:LO) (b:TE) (f:Str):TE:=λσ H Q=>b σ H λx H1=>∃a C dx fs v,x=.ref a/\H1 a=some (.ins C dx fs)/\j6 K C/\bC K C f/\fs.lookup f=some v/\Q v H1
def K4 (K:LO) (c b:TE) (f:Str):TS:=λD σ H=>b σ H λy H1=>c σ H1 λx H2=>∃a C dx fs,x=.ref a/\H2 a=some (.ins C dx fs)/\j6 K C/\bC K C f/\fs.length<1000/\
 D.nx σ (upd H2 a (.ins C dx (eW f y fs)))
section
variable {o e value:Expr} {f:Str} {pos pos' tpos:Pos} {ta tv:TE}
theorem a9 (b:PE X e ta)(j:attributeBase e f X.env (eval e X.env)=eval e X.env):PE X (.Attribute e f pos) (yP X.K ta f):=by
 intro pins s σ H Q I h
 refine FN j (cy (b pins s σ H _ I h) λu w o=>?_)
 obtain⟨x,H1,I1,g,a,C,dx,fs,v,ex,d,c,n,l,q⟩:=o
 subst ex
 obtain rfl:u=Value.ref a:=g
 exact vO I1 d c n l λr p I2 m=>⟨v,H1,I2,m,q⟩
theorem fb (b:PE X o ta)(e:PE X value tv)(d:swapsWith value (some (.Attribute o f pos')) pos.line X.env=pure false):PS X (.Assign [.Attribute o f pos'] value pos) (K4 X.K ta tv f):=by
 intro pins s σ H D I h
 refine plainObj_wpAny_Assign_Attribute (cy (e pins s σ H _ I h) λu z ⟨y,H1,I1,r,q⟩=>cy (b pins z σ H1 _ I1 q) λm B w=>?_) d
 obtain⟨x,H2,I2,j,a,C,dx,fs,ex,g,c,n,l,p⟩:=w
 subst ex
 obtain rfl:m=Value.ref a:=j
 exact uh I2 g c n l r λA I3=>⟨σ,_,I3,p⟩
end
section
variable {Q:Value->Shared->Prop} {c:Value} {b:Bool}
inductive gS (K:LO) (H:Hp):V->Value->Prop where
 |non:gS K H .non (.type "NoneType")
 |bl (x:Bool):gS K H (.bl x) (.type "bool")
 |int (i:Int):gS K H (.int i) (.type "int")
 |str (x:Str):gS K H (.str x) (.type "str")
 |flt (x:UInt64):gS K H (.flt x) (.type "float")
 |lst {a:Addr} {xs:List V} (e:H a=some (.lst xs)):gS K H (.ref a) (.type "list")
 |frz {a:Addr} {o:Obj} {xs:List V} (e:H a=some (.frz o (.lst xs))):gS K H (.ref a) (.type "list")
 |tup {a:Addr} {xs:List V} (e:H a=some (.tup xs)):gS K H (.ref a) (.type "tuple")
 |dK {a:Addr} {kvs:List (cS×V)} (e:H a=some (.dK kvs)):gS K H (.ref a) (.type "dict")
 |dT {a:Addr} {kvs:List (List cS×V)} (e:H a=some (.dT kvs)):gS K H (.ref a) (.type "dict")
 |ins {a C dx:Addr} {fs:List (Str×V)} (e:H a=some (.ins C dx fs)) (cl:j6 K C) (ha:Mq K (.ref C) "__class__" =some (some (.builtin "object.__class__")))
   (hn:Oq K (.builtin "object.__class__") "__get__" =some (some (.builtin "getset_descriptor.__get__"))) (htk:PySem.W.takesIn K (.builtin "object.__class__")=some true)
   (hm:PySem.W.mroIn K C (.type "object")=some true):gS K H (.ref a) (.ref C)
theorem ph(I:aJ X pins σ H s)(d:aZ x u)(ty:gS X.K H x t)(e:Mf X.K t c=some b)(h:∀tk,Q (.bool b) {s with toks:=tk}):
  wpAny (model X.prog X.w) A (call (.builtin "isinstance") [u,c]) Q E s:=by
 cases ty with
 |non=>cases(show u=Value.none from d);exact MN PySem.W.kitx_none I.kIn True.intro e (λz=>nomatch z) h
 |bl y=>cases(show u=Value.bool y from d);exact MN PySem.W.kitx_bool I.kIn True.intro e (λz=>nomatch z) h
 |int i=>obtain⟨t,q⟩:=(show∃t,u=Value.int i t from d);cases q;exact MN PySem.W.kitx_int I.kIn True.intro e (λz=>nomatch z) h
 |str y=>obtain⟨t,q⟩:=(show∃t,u=Value.str y t from d);cases q;exact MN PySem.W.kitx_str I.kIn True.intro e (λz=>nomatch z) h
 |flt y=>obtain⟨t,q⟩:=(show∃t,u=Value.float y t from d);cases q;exact MN PySem.W.kitx_float I.kIn True.intro e (λz=>nomatch z) h
 | @lst a xs ea=>
  cases(show u=Value.ref a from d)
  obtain⟨_,_,n,_,h1⟩:=(show bV X.prog X.w H s.heap a (.lst xs) from I.hok a _ ea)
  exact MN PySem.W.kitx_list I.kIn ⟨_,h1,rfl⟩ e (λz=>nomatch z) h
 | @frz a ob xs ea=>
  cases(show u=Value.ref a from d)
  obtain⟨_,_,_,n,_,h1⟩:=(show bV X.prog X.w H s.heap a (.frz ob (.lst xs)) from I.hok a _ ea)
  exact MN PySem.W.kitx_list I.kIn ⟨_,h1,rfl⟩ e (λz=>nomatch z) h
 | @tup a xs ea=>
  cases(show u=Value.ref a from d)
  obtain⟨_,_,_,p⟩:=(show bV X.prog X.w H s.heap a (.tup xs) from I.hok a _ ea)
  obtain⟨o,h1,h2,_⟩:=p
  exact MN PySem.W.kitx_tuple I.kIn ⟨o,h1,h2⟩ e (λz=>nomatch z) h
 | @dK a kvs ea=>
  cases(show u=Value.ref a from d)
  obtain⟨_,_,vs,_,p⟩:=(show bV X.prog X.w H s.heap a (.dK kvs) from I.hok a _ ea)
  obtain⟨o,es,ep,h1,h2,_⟩:=p
  exact MN PySem.W.kitx_dict I.kIn ⟨o,h1,h2.1⟩ e (λz=>nomatch z) h
 | @dT a kvs ea=>
  cases(show u=Value.ref a from d)
  obtain⟨_,_,xs,_,o,es,ep,h1,h2,_⟩:=(show bV X.prog X.w H s.heap a (.dT kvs) from I.hok a _ ea)
  exact MN PySem.W.kitx_dict I.kIn ⟨o,h1,h2.1⟩ e (λz=>nomatch z) h
 | @ins a C dx fs ea cl ha hn htk hm=>
  cases(show u=Value.ref a from d)
  obtain⟨mA,O,_⟩:=lG I.hok ea
  obtain⟨f,J,_⟩:=O.look
  exact MN (PySem.W.kitx_own (cl.get _) cl.hd ha hn htk hm) I.kIn J e (λz=>nomatch z) h
end
structure bL (k:Nat) (A:Around):Prop where
 hd:A.handled=none
 dp:A.depth+3*k+5<recursionLimit
 un:A.units+16*k+200<cLine
 gd:A.guards=some []
theorem bL.mono(r:bL k A)(h:j<=k):bL j A:=⟨r.hd,by have:=r.dp;lia,by have:=r.un;lia,r.gd⟩
theorem bL.deeper(r:bL (k+1) A)(env:Env):bL k (A.deeper env):=
 ⟨r.hd,by have:=r.dp;show A.depth+1+3*k+5<_;lia,by have:=r.un;show A.units+3+16*k+200<_;lia,r.gd⟩
theorem u9 {C:Addr}{us:List Value}{a:List (Str×Value)}:(A.under (.builtin "type.__call__" ⟨.ref C::us,a⟩)).depth=A.depth+1:=by
 first|rfl|simp[Around.under,Code.weight,Code.isCreation,Code.isGuard,Code.isCaller,Code.frames,Code.isFrame,guardIds]
theorem uv {C:Addr}{us:List Value}{a:List (Str×Value)}:(A.under (.builtin "type.__call__" ⟨.ref C::us,a⟩)).units=A.units+1:=by
 first|rfl|simp[Around.under,Code.cUnits,Code.frames,Code.isFrame]
theorem tO {C:Addr}{us:List Value}{a:List (Str×Value)}:(A.under (.builtin "type.__call__" ⟨.ref C::us,a⟩)).guards=A.guards:=by
 first|rfl|simp[Around.under,Code.isGuard,Code.guards,guardIds]
theorem bL.make(r:bL (k+1) A)(C:Addr)(us:List Value)(a:List (Str×Value)):bL k (A.under (.builtin "type.__call__" ⟨.ref C::us,a⟩)):=
 ⟨r.hd,by have:=r.dp;rw[u9];lia,by have:=r.un;rw[uv];lia,by rw[tO];exact r.gd⟩
theorem bL.depth(r:bL k A):A.depth<recursionLimit:=by have:=r.dp;lia
theorem bL.units(r:bL k A):A.units+64<cLine:=by have:=r.un;lia
def dw:TA:=λ_ H Q=>Q [] H
def a8 (a:TE) (tr:TA):TA:=λσ H Q=>a σ H λx H1=>tr σ H1 λxs H2=>Q (x::xs) H2
section
variable {e:Expr} {es:List Expr} {te:TE} {t:TA} {pos:Pos}
theorem dj:PA X [] dw:=λ_ _ _ _ H Q I h=>Calls.spliced_nil ⟨[],H,I,.nil,h⟩
theorem aw (j:PE X e te)(c:PA X es t)(a:starEach (e::es) X.env=(false,eval e X.env)::starEach es X.env:=by rfl):PA X (e::es) (a8 te t):=by
 intro pos pins s σ H Q I h
 rw[a]
 refine Calls.spliced_cons (cy (j pins s σ H _ I h) λu l g=>?_)
 obtain⟨x,H1,I1,r1,b⟩:=g
 exact cy (c pos pins l σ H1 _ I1 b) λm n ⟨xs,H2,I2,d,f⟩=>⟨x::xs,H2,I2,.cons r1 d,f⟩
def nQ (t:TA):TE:=λσ H Q=>t σ H λxs H1=>xs.length<=sizeLine/\∀p,H1 p=none->Q (.ref p) (upd H1 p (.tup xs))
def yS (t:TA):TE:=λσ H Q=>t σ H λxs H1=>xs.length<=sizeLine/\∀p,H1 p=none->Q (.ref p) (upd H1 p (.lst xs))
theorem bZ {x1}(h:PA X es t):PE X (.Tuple es x1 pos) (nQ t):=by
 intro pins s σ H Q I c
 refine wpAny_Tuple_spliced (cy (h pos pins s σ H _ I c) λf a ⟨xs,H1,I1,r,z,q⟩=>⟨by rw[<-r.length];exact z,?_⟩)
 have d:H1 a.heap.objs.size=none:=I1.hok.fresh (LL _)
 refine⟨.ref a.heap.objs.size,upd H1 a.heap.objs.size (.tup xs),I1.laid (t':=a.toks) (λb u e=>LU _ e) (LL _) ?_,rfl,q _ d⟩
 exact⟨z,f,r,⟨_,L4 _ rfl,rfl,_,rfl⟩⟩
theorem bg (h:PA X es t):PE X (.List es pos) (yS t):=by
 intro pins s σ H Q I c
 refine wpAny_List_spliced (cy (h pos pins s σ H _ I c) λf a ⟨xs,H1,I1,r,z,q⟩=>⟨by rw[<-r.length];exact z,?_⟩)
 have d:H1 a.heap.objs.size=none:=I1.hok.fresh (LL _)
 refine⟨.ref a.heap.objs.size,upd H1 a.heap.objs.size (.lst xs),I1.laid (t':=a.toks) (λb u e=>LU _ e) (LL _) ?_,rfl,q _ d⟩
 exact⟨z,f,0,r,L4 _ rfl⟩
end
abbrev Sp:=List V->Hp->VK->XK->Prop
abbrev DP:=List Env->Hp->Shared->XK->Value->Shared->Prop
structure vh (P:Program) (w:World) (K:LO) (mg:Str->Option Value) (base:Heap) (A:Around) (outer:List Env) (s:Shared) (H:Hp):Prop where
 frames:A.frames=some outer
 mod:Mod K mg base
 bs:∀b o,base.get? b=some o->s.heap.get? b=some o/\H b=none
 bsz:base.objs.size<=s.heap.objs.size
 funs:s.heap.FunFrames base outer
 frf:∀b∈zP outer,H b=none
 hok:iL P w H s.heap
 bare:AllBare s.gens
def CE (a:List Env) (P:Program) (w:World) (H:Hp) (s:Shared) (Q:VK) (u:Value) (b:Shared):Prop:=
 ∃v H',b.os=s.os/\AllBare b.gens/\Un (zP a) [] H H' s.heap b.heap/\iL P w H' b.heap/\aZ v u/\Q v H'
def CR (CX:DP) (a:List Env) (P:Program) (w:World) (H:Hp) (s:Shared) (Q:VK) (E:XK) (r:Result) (b:Shared):Prop:=
 match r with
 | .ok (.ret u)=>CE a P w H s Q u b
 | .ok _=>False
 | .error e=>CX a H s E e b
structure fz (P:Program) (w:World) (K:LO) (mg:Str->Option Value) (base:Heap) (CX:DP) (k:Nat) (f:Addr) (fd:FuncData) (ps:List Str) (sp:Sp):Prop where
 len:∀vs H Q E,sp vs H Q E->vs.length=ps.length
 run:∀(A:Around) (outer:List Env) (s:Shared) (H:Hp) (args:Args) (us:List Value) (vs:List V) (Q:VK) (E:XK),bL k A->vh P w K mg base A outer s H->BindsTo s fd args (ps.zip us)->aW vs us->sp vs H Q E->
  codeAny (model P w) A (.call (.ref f) args) (CR CX outer P w H s Q E) s
theorem vh.make {P:Program}{a:List Env}(e:vh P w K mg base A a s H)(C:Addr)(us:List Value)(b:List (Str×Value)):
  vh P w K mg base (A.under (.builtin "type.__call__" ⟨.ref C::us,b⟩)) a s H:=⟨by first|exact e.frames|(simpa[Around.under,Code.envs,Code.isFrame,pushEnvs] using e.frames),e.mod,e.bs,e.bsz,e.funs,e.frf,e.hok,e.bare⟩
section
variable {s':Shared}
theorem aJ.env0 (I:aJ X pins σ H s):vh X.prog X.w X.K X.mg X.base X.A X.stack s H:=
 ⟨I.ok.frames,I.ok.mod,I.bs,LR I.ok.bsz I.sz,I.stack,I.stkFree,I.hok,I.bare⟩
theorem aJ.after(I:aJ X pins σ H s)(h:CE X.stack X.prog X.w H s Q u s'):EP X pins σ Q u s':=by
 obtain⟨v,H',os,a,un,c,r,q⟩:=h
 obtain⟨f,g,d,t,e⟩:=s'
 obtain rfl:e=s.os:=os
 exact⟨v,H',I.call (h':=f) (g':=g) (d':=d) (t':=t) (ch:=[]) un c a (λb z=>absurd z (by simp)),r,q⟩
end
def dY (sp:Sp) (a:List V) (E:XK) (t:TA):TE:=λσ H Q=>t σ H λvs H1=>sp (vs++a) H1 Q E
def sL (C:Addr) (m:Str) (sp:Sp) (b:List V) (E:XK) (c:TE) (t:TA):TE:=λσ H Q=>c σ H λx H1=>∃a dx fs,x=.ref a/\H1 a=some (.ins C dx fs)/\fs.lookup m=none/\
 t σ H1 λvs H2=>sp (x::(vs++b)) H2 Q E
def nK (C:Addr) (sp:Sp) (a:List V) (E:XK) (t:TA):TE:=λσ H Q=>t σ H λvs H1=>∀x dx,H1 x=none->H1 dx=none->dx≠x->
 sp (.ref x::(vs++a)) (upd (upd H1 dx (.own x)) x (.ins C dx [])) (λv H2=>v=.non/\Q (.ref x) H2) E
def cC (K:LO) (fd:FuncData) (ps:List Str) (b:List Value):Prop:=
 ∀(s:Shared) (a:List Value),K.In s.heap->(a++b).length=ps.length->BindsTo s fd ⟨a,[]⟩ (ps.zip (a++b))
theorem cC.all {fd:FuncData}{ps:List Str}(h:∀a:List Value,a.length=ps.length->bindArgs fd ⟨a,[]⟩=pure (ps.zip a)):cC K fd ps []:=λs a _ b=>by
 rw[Mb] at b|-
 exact .of_eq (h a b)
def jj (CX:DP) (X:Cx) (E:XK):Prop:=∀(pins:List (Addr×Obj)) (σ:St) (H:Hp) (s:Shared) (e:Value) (s':Shared),aJ X pins σ H s->CX X.stack H s E e s'->X.xe e s'
section
variable {CX:DP} {k:Nat} {f C:Addr} {fd:FuncData} {ps:List Str} {sp:Sp} {dvs:List V} {ds:List Value} {E:XK} {x m:Str} {p pos apos:Pos} {e o:Expr} {es:List Expr} {ta:TE} {t:TA}
theorem kI(F:fz X.prog X.w X.K X.mg X.base CX k f fd ps sp)(d:bL k X.A)(c:cC X.K fd ps ds)(hd:aW dvs ds)(hx:jj CX X E)
  (I:aJ X pins σ H s) (r:aW vs us) (h:sp (vs++dvs) H Q E):wpAny (model X.prog X.w) X.A (call (.ref f) us) (EP X pins σ Q) X.xe s:=by
 have b:aW (vs++dvs) (us++ds):=r.append hd
 have g:(us++ds).length=ps.length:=by rw[<-b.length];exact F.len _ _ _ _ h
 refine wpAny_call (codeAny_mono (F.run X.A X.stack s H ⟨us,[]⟩ (us++ds) (vs++dvs) Q E d I.env0 (c s us I.kIn g) b h) λr s' a=>?_)
 cases r with
 |error e=>exact hx pins σ H s e s' I a
 |ok fl=>
  cases fl with
  |ret u=>exact I.after a
  |next=>exact False.elim a
  |brk=>exact False.elim a
  |cont=>exact False.elim a
theorem EK (F:fz X.prog X.w X.K X.mg X.base CX k f fd ps sp)(c:bL k X.A)(n:Gl X x)(d:X.mg x=some (.ref f))(m:Mv X.K (.ref f)=true)(g:cC X.K fd ps ds)(hd:aW dvs ds)(hx:jj CX X E)
  (j:PA X (e::es) t) (a:(x==("__debug__" :Str))=false:=by decide) (l:starEach (e::es) X.env=(false,eval e X.env)::starEach es X.env:=by rfl) (b:(backTo pos (starEach es X.env)).any (·.1)=false:=by rfl):
  PE X (.Call (.Name x p) (e::es) [] pos) (dY sp dvs E t):=by
 intro pins s σ H Q I h
 refine Ng (pL I n d ?_ a)
 refine Os (h₀:=X.base) I.ok.mod.kin m (cy (j pos pins s σ H _ I h) λu o ⟨vs,H1,I1,r,q⟩=>⟨I1.kIn,?_⟩) l b
 exact kI F c g hd hx I1 r q
theorem FO {pl:Sem Bool}(O:PE X o ta)(c:j6 X.K C)(j:E2 X.K C m f)(F:fz X.prog X.w X.K X.mg X.base CX k f fd ps sp)(p:bL k X.A)(B:cC X.K fd ps ds)(hd:aW dvs ds)(hx:jj CX X E)(G:PA X (e::es) t)
  (d:starEach (e::es) X.env=(false,eval e X.env)::starEach es X.env:=by rfl) (b:(backTo pos (starEach es X.env)).any (·.1)=false:=by rfl)
  (M:eval (.Call (.Attribute o m apos) (e::es) [] pos) X.env=(do
   let n<-eval o X.env
   standAt apos.atName
   let (f,first)<-holding [n] (getMethod n m pl)
   callWith pos f first (backTo pos (starEach (e::es) X.env)) (backToKw pos (keywordEach [] X.env))):=by rfl):
  PE X (.Call (.Attribute o m apos) (e::es) [] pos) (sL C m sp dvs E ta t):=by
 intro pins s σ H Q I h
 refine Ot (pl:=pl) (cy (O pins s σ H _ I h) λu J N=>?_) M
 obtain⟨x,H1,I1,z,a,dx,fs,ex,y,l,q⟩:=N
 subst ex
 obtain rfl:u=Value.ref a:=z
 refine gZ I1 y c j l ?_
 refine Os (first:=[.ref a]) (h₀:=X.base) I.ok.mod.kin j.kp (cy (G pos pins J σ H1 _ I1 q) λg P ⟨vs,H2,I2,r,D⟩=>⟨I2.kIn,?_⟩) d b
 exact kI (us:=.ref a::g) (vs:=.ref a::vs) F p B hd hx I2 (.cons rfl r) D
theorem AE {pl:Sem Bool}(e:PE X o ta)(c:j6 X.K C)(b:E2 X.K C m f)(F:fz X.prog X.w X.K X.mg X.base CX k f fd ps sp)(g:bL k X.A)(p:cC X.K fd ps ds)(hd:aW dvs ds)(hx:jj CX X E)
  (r:eval (.Call (.Attribute o m apos) [] [] pos) X.env=(do
   let d<-eval o X.env
   standAt apos.atName
   let (f,first)<-holding [d] (getMethod d m pl)
   callWith pos f first (backTo pos (starEach [] X.env)) (backToKw pos (keywordEach [] X.env))):=by rfl):
  PE X (.Call (.Attribute o m apos) [] [] pos) (sL C m sp dvs E ta dw):=by
 intro pins s σ H Q I h
 refine Ot (pl:=pl) (cy (e pins s σ H _ I h) λu z y=>?_) r
 obtain⟨x,H1,I1,n,a,dx,fs,ex,j,l,q⟩:=y
 subst ex
 obtain rfl:u=Value.ref a:=n
 refine gZ I1 j c b l ?_
 exact PySem.W.callWith_K0 (first:=[.ref a]) I1.kIn b.kp (kI (us:=[.ref a]) (vs:=[.ref a]) F g p hd hx I1 (.cons rfl .nil) q)
structure Mk (K:LO) (C f:Addr):Prop where
 makes:PySem.W.makesIn K C=true
 init:Mq K (.ref C) "__init__" =some (some (.ref f))
 fn:Nw K (.ref f)=true
 kp:Mv K (.ref C)=true
theorem Cu(M:Mk X.K C f)(F:fz X.prog X.w X.K X.mg X.base CX k f fd ps sp)(g:bL (k+1) X.A)(n:cC X.K fd ps ds)(hd:aW dvs ds)
  (hx:jj CX X E) (I:aJ X pins σ H s) (r:aW vs us)
  (h:∀x dx,H x=none->H dx=none->dx≠x->sp (.ref x::(vs++dvs)) (upd (upd H dx (.own x)) x (.ins C dx [])) (λv H2=>v=.non/\Q (.ref x) H2) E):
  wpAny (model X.prog X.w) X.A (call (.ref C) us) (EP X pins σ Q) X.xe s:=by
 have c:=h (s.heap.objs.size+1) s.heap.objs.size (I.hok.fresh (Nat.le_succ _)) (I.hok.fresh (LL _)) (L3 (NZ _))
 have b:=aJ.made (C:=C) I
 have d:aW (V.ref (s.heap.objs.size+1)::(vs++dvs)) (Value.ref (s.heap.objs.size+1)::(us++ds)):=.cons rfl (r.append hd)
 have o:(Value.ref (s.heap.objs.size+1)::us++ds).length=ps.length:=by
  have e:=d.length
  rw[F.len _ _ _ _ c] at e
  exact e.symm
 refine wpAny_call (A6 (f:=f) I.kIn M.makes M.init (beq_iff_eq.mp M.fn) (codeAny_mono (F.run _ X.stack _ _ ⟨Value.ref (s.heap.objs.size+1)::us,[]⟩ (Value.ref (s.heap.objs.size+1)::(us++ds)) _ _ E (g.make C us [])
  (b.env0.make C us []) (n _ (Value.ref (s.heap.objs.size+1)::us) b.kIn o) d c) λr s' a=>?_))
 cases r with
 |error e=>exact hx pins σ _ _ e s' b a
 |ok fl=>
  cases fl with
  |ret u=>
   obtain⟨v,H',I3,m,j,l⟩:=b.after a
   subst j
   exact⟨m,⟨V.ref (s.heap.objs.size+1),H',I3,rfl,l⟩⟩
  |next=>exact False.elim a
  |brk=>exact False.elim a
  |cont=>exact False.elim a
theorem wO (M:Mk X.K C f)(F:fz X.prog X.w X.K X.mg X.base CX k f fd ps sp)(c:bL (k+1) X.A)(m:Gl X x)(d:X.mg x=some (.ref C))(g:cC X.K fd ps ds)(hd:aW dvs ds)(hx:jj CX X E)
  (j:PA X (e::es) t) (a:(x==("__debug__" :Str))=false:=by decide) (l:starEach (e::es) X.env=(false,eval e X.env)::starEach es X.env:=by rfl) (b:(backTo pos (starEach es X.env)).any (·.1)=false:=by rfl):
  PE X (.Call (.Name x p) (e::es) [] pos) (nK C sp dvs E t):=by
 intro pins s σ H Q I h
 refine Ng (pL I m d ?_ a)
 refine Os (h₀:=X.base) I.ok.mod.kin M.kp (cy (j pos pins s σ H _ I h) λo n ⟨vs,H1,I1,r,q⟩=>⟨I1.kIn,?_⟩) l b
 exact Cu M F c g hd hx I1 r q
end
structure fE (N P:List Str) (sc:Scope):Prop where
 kind:sc.kind=.function
 co:sc.isCoroutine=false
 gen:sc.isGenerator=false
 nd:N.Nodup
 pre:N.take P.length=P
 par:∀x∈P,sc.names.lookup x=some .local\/sc.names.lookup x=some .cell
 nofree:∀y∈sc.names,y.2≠.free
theorem pI {a:Str->Option NameKind}:∀{binds:List (Str×Value)} {m:Str->Option Value},(∀v,(x,v)∉binds)->bindL a binds m x=m x
 |[],_,_=>rfl
 |(n,v)::r,m,h=>by
  unfold bindL
  rw[pI λw b=>h w (LZ _ b)]
  split
  ·have:x≠n:=by rintro rfl;exact h v LX
   simp[this]
  ·rfl
theorem pH {a:Str->Option NameKind}:∀{binds:List (Str×Value)} {m:Str->Option Value},(∀v,(x,v)∉binds)->bindC a binds m x=m x
 |[],_,_=>rfl
 |(n,v)::r,m,h=>by
  unfold bindC
  rw[pH λw b=>h w (LZ _ b)]
  split
  ·rfl
  ·have:x≠n:=by rintro rfl;exact h v LX
   simp[this]
theorem oW {a:Str->Option NameKind}:∀{P:List Str} {vs:List Value} {i:Nat} {m:Str->Option Value},P.Nodup->P[i]?=some x->vs[i]?=some v->a x=some .local->
  bindL a (P.zip vs) m x=some v
 |[],_,_,_,_,h,_,_=>by simp at h
 |_::_,[],_,_,_,_,h,_=>by simp at h
 |p::P,w::vs,0,m,nd,h1,h2,hk=>by
  simp at h1 h2;subst h1;subst h2
  show bindL a ((p,w)::P.zip vs) m p=_
  unfold bindL
  rw[pI λv b=>(MG.mp nd).1 (List.of_mem_zip b).1,if_pos hk]
  simp
 |p::P,w::vs,i+1,m,nd,h1,h2,hk=>by
  show bindL a ((p,w)::P.zip vs) m x=_
  unfold bindL
  exact oW (i:=i) (MG.mp nd).2 (by simpa using h1) (by simpa using h2) hk
theorem oX {a:Str->Option NameKind}:∀{P:List Str} {vs:List Value} {i:Nat} {m:Str->Option Value},P.Nodup->P[i]?=some x->vs[i]?=some v->a x≠some .local->
  bindC a (P.zip vs) m x=some v
 |[],_,_,_,_,h,_,_=>by simp at h
 |_::_,[],_,_,_,_,h,_=>by simp at h
 |p::P,w::vs,0,m,nd,h1,h2,hk=>by
  simp at h1 h2;subst h1;subst h2
  show bindC a ((p,w)::P.zip vs) m p=_
  unfold bindC
  rw[pH λv b=>(MG.mp nd).1 (List.of_mem_zip b).1,if_neg hk]
  simp
 |p::P,w::vs,i+1,m,nd,h1,h2,hk=>by
  show bindC a ((p,w)::P.zip vs) m x=_
  unfold bindC
  exact oX (i:=i) (MG.mp nd).2 (by simpa using h1) (by simpa using h2) hk
noncomputable def h_ (N:List Str) (vs:List V):St:=vs.map some++List.replicate (N.length - vs.length) none
noncomputable def qZ (CX:DP) (P:Program) (w:World) (K:LO) (mg:Str->Option Value) (base:Heap) (N:List Str) (a:Str) (scope:Scope) (f:Addr) (c:Value) (A:Around) (outer:List Env) (s:Shared) (H:Hp) (E:XK):Cx where
 prog:=P
 w:=w
 K:=K
 mg:=mg
 base:=base
 A:=A.deeper (envOfC a scope s.heap.objs.size f c)
 N:=N
 s₀:=s
 H₀:=H
 env:=envOfC a scope s.heap.objs.size f c
 outer:=outer
 stack:=envOfC a scope s.heap.objs.size f c::outer
 ex:=[]
 calm:=true
 fn:=λ_=>true
 pn:=[]
 xe:=λe s'=>wpAny (model P w) (A.deeper (envOfC a scope s.heap.objs.size f c)) (leaving (envOfC a scope s.heap.objs.size f c) e) (λ_ b=>CX outer H s E e b) (λd b=>CX outer H s E d b) s'
theorem tL {a:Scope}{n:Nat}{x:Str}(h:a.names.lookup x=some .cell):∃c,(cellsFrom n a.names []).lookup x=some c:=by
 have q:=PySem.W.cellsFrom_some a.names n [] (.inl h)
 exact OI.mp q
theorem yL {CX:DP}{P:Program}{N ps:List Str}{m:Str}{scope:Scope}{f:Addr}{C:Value}{l:List Env}{s1:Shared}{E:XK}{us:List Value}{vs:List V}
  (S:fE N ps scope) (hd:A.handled=none) (o:vh P w K mg base A l s H) (I:vs.length=ps.length) (r:aW vs us)
  (x:InCallC s s.heap.objs.size (bindL (envOfC m scope s.heap.objs.size f C).kindOf (ps.zip us) λ_=>none) (cellsFrom (s.heap.objs.size+1) scope.names []) (bindC (envOfC m scope s.heap.objs.size f C).kindOf (ps.zip us) λ_=>none) s1):
  aJ (qZ CX P w K mg base N m scope f C A l s H E) [] (h_ N vs) H s1:=by
 have j:ps.length<=N.length:=by have:=congrArg List.length S.pre;rw[Mg] at this;lia
 obtain⟨h1,tk,rfl,D⟩:=x.done
 have d:∀b:Addr,b∉(qZ CX P w K mg base N m scope f C A l s H E).ex:=λb z=>absurd (show b∈([]:List Addr) from z) (by simp)
 refine⟨⟨o.mod,S.kind,rfl,rfl,LL _,λy z c h1 h2=>?_,λy hy=>?_,λy c _ h=>?_,λ_=>hd,Around.frames_deeper o.frames,.inr ⟨rfl,rfl⟩,λb z=>absurd z (d b),o.bs,o.bsz,λb _ _=>d b,λb z=>absurd z (d b),o.funs,o.frf⟩,
  rfl,o.bare,Un.kept D,⟨_,x.toInCall.ns,λi y v h1 h2 J=>?_⟩,λy c h=>⟨_,x.cell y c h⟩,o.hok.fresh (LL _),λy c h=>?_,λp B=>absurd (show p∈([]:List (Addr×Obj)) from B) (by simp),o.hok.kept D,?_⟩
 ·exact name_of_addr x.apart (PySem.mem_of_lookup h1) (PySem.mem_of_lookup h2)
 ·have hy:scope.names.lookup y=some .cell\/scope.names.lookup y=some .free:=hy
  rcases hy with hy|hy
  ·exact tL hy
  ·exact absurd rfl (S.nofree _ (PySem.mem_of_lookup hy))
 ·exact Nq (x.above y c (PySem.mem_of_lookup h))
 ·have hi:i<vs.length:=by
   unfold h_ at h2
   by_cases hi:i<vs.length
   ·exact hi
   ·rw[Ny (by simpa using hi)] at h2
    rw[List.getElem?_replicate] at h2
    split at h2<;>cases h2
  have ha:vs[i]?=some v:=by
   unfold h_ at h2
   rw[Of (by simpa using hi),L7] at h2
   cases e:vs[i]? with
   |none=>rw[e] at h2;cases h2
   |some a=>rw[e] at h2;cases h2;rfl
  obtain⟨u,F,G⟩:=r.get ha
  have B:ps[i]?=some y:=by
   rw[<-S.pre,List.getElem?_take_of_lt (by lia)];exact h1
  have g:ps.Nodup:=by rw[<-S.pre];exact S.nd.sublist (List.take_sublist _ _)
  refine⟨u,G,?_⟩
  rcases S.par y (L9 B) with k|k
  ·exact .inl ⟨k,oW g B F k⟩
  ·obtain⟨c,e⟩:=tL (n:=s.heap.objs.size+1) k
   refine .inr ⟨.inl k,c,e,?_⟩
   have q:=x.cell y c e
   rw[oX g B F (by show scope.names.lookup y≠_;rw[k];decide)] at q
   exact q
 ·exact o.hok.fresh (Nq (x.above y c (PySem.mem_of_lookup h)))
 ·unfold h_
  show _=N.length
  rw[LP,LK,Nz]
  lia
theorem F9 {CX:DP}{P:Program}{k:Nat}{f:Addr}{name h:Str}{l:Arguments}{m:List Stmt}{scope:Scope}{U kV D T j R oc:Value}{X od:Option Addr}
  {G:Array (Option Value)} {N ps:List Str} {sp:Sp} (lk:K.lookup f=some ⟨oc,od,.func (Mh name h l m scope U kV D T X j R),G⟩) (O:MO K j h=true) (S:fE N ps scope)
  (len:∀vs H Q E,sp vs H Q E->vs.length=ps.length)
  (z:∀(A:Around) (g:List Env) (s:Shared) (H:Hp) (vs:List V) (Q:VK) (E:XK),bL k (A.deeper (envOfC h scope s.heap.objs.size f j))->sp vs H Q E->
   ∃t,nV (qZ CX P w K mg base N h scope f j A g s H E) m t/\t {nx:=λ_ H'=>Q .non H',rt:=Q} (h_ N vs) H):
  fz P w K mg base CX (k+1) f (Mh name h l m scope U kV D T X j R) ps sp:=by
 refine⟨len,λA g s H Z us vs Q E hr F hb r C=>?_⟩
 have hl:=len _ _ _ _ C
 have Y:K.In s.heap:=F.mod.kin.keeps λb o e=>(F.bs b o e).1
 have d:s.heap.NoLimit:=F.mod.nolimit.keeps λb o e=>(F.bs b o e).1
 have a:∀y∈ps.zip us,scope.names.lookup y.1=some .local\/(scope.names.lookup y.1=some .cell/\((cellsFrom (s.heap.objs.size+1) scope.names []).lookup y.1).isSome=true):=λ⟨n,v⟩ hy=>by
  rcases S.par n (List.of_mem_zip hy).1 with q|q
  ·exact .inl q
  ·exact .inr ⟨q,PySem.W.cellsFrom_some _ _ _ (.inl q)⟩
 refine codeAny_call_function hr.depth (Y _ _ lk) rfl S.co S.gen rfl (PySem.W.codeRec_of Y O) (hb _ _ _ _ ?_)
 refine wpAny_newFunctionEnv_cells S.kind a λa2 he s1 x=>?_
 subst he
 refine⟨d.keeps x.toInCall.keep,codeAny_func ?_⟩
 obtain⟨t,ht,hq⟩:=z A g s H vs Q E (hr.deeper _) C
 have I:aJ (qZ CX P w K mg base N h scope f j A g s H E) [] (h_ N vs) H s1:=yL S hr.hd F hl r x
 refine Mp (ht [] s1 (h_ N vs) H _ I hq) (λfl s' B=>?_) λe s' B=>B
 have c:∀{p:St} {H':Hp} {v:V} {u:Value},aJ (qZ CX P w K mg base N h scope f j A g s H E) [] p H' s'->aZ v u->Q v H'->CE g P w H s Q u s':=
  fun{p H' v u} J M q=>⟨v,H',J.os,J.bare,J.base,J.hok,M,q⟩
 cases fl with
 |ret u=>
  obtain⟨v,p,H',J,M,q⟩:=B
  exact c J M q
 |next=>
  obtain⟨p,H',J,q⟩:=B
  exact c (v:=V.non) (u:=Value.none) J rfl q
 |brk=>
  obtain⟨_,_,_,q⟩:=B
  exact False.elim q
 |cont=>
  obtain⟨_,_,_,q⟩:=B
  exact False.elim q
section
variable {x:Str} {p pos:Pos} {e:Expr} {es:List Expr} {t:TA} {id T:String} {r:List V->Hp->VK->Prop}
def nM (r:List V->Hp->VK->Prop) (t:TA):TE:=λσ H Q=>t σ H λvs H1=>r vs H1 Q
theorem Dv (l:cT X (.builtin id) r)(q:Gl X x)(g:X.mg x=none)(f:bootBuiltins x=some (.builtin id))(m:PA X (e::es) t)(n:x≠ "__name__" :=by decide)(a:(x==("__debug__" :Str))=false:=by decide)
  (d:starEach (e::es) X.env=(false,eval e X.env)::starEach es X.env:=by rfl) (b:(backTo pos (starEach es X.env)).any (·.1)=false:=by rfl):PE X (.Call (.Name x p) (e::es) [] pos) (nM r t):=by
 intro pins s σ H Q I h
 refine Ng (gi I q g f ?_ n a)
 exact PyProof.Rows.callWith_builtin1 (cy (m pos pins s σ H _ I h) λj o ⟨vs,H1,I1,r1,c⟩=>l pins o σ H1 vs j Q I1 r1 c) d b
theorem yN (l:cT X (.type T) r)(q:Gl X x)(g:X.mg x=none)(f:bootBuiltins x=some (.type T))(m:PA X (e::es) t)(n:x≠ "__name__" :=by decide)(a:(x==("__debug__" :Str))=false:=by decide)
  (d:starEach (e::es) X.env=(false,eval e X.env)::starEach es X.env:=by rfl) (b:(backTo pos (starEach es X.env)).any (·.1)=false:=by rfl):PE X (.Call (.Name x p) (e::es) [] pos) (nM r t):=by
 intro pins s σ H Q I h
 refine Ng (gi I q g f ?_ n a)
 exact PyProof.Rows.callWith_type1 (cy (m pos pins s σ H _ I h) λj o ⟨vs,H1,I1,r1,c⟩=>l pins o σ H1 vs j Q I1 r1 c) d b
end
end L2
namespace HT
open PySem PyProof.Rows
noncomputable def lexLt:List Int->List Int->Bool
 |[],[]=>false
 |[],_::_=>true
 |_::_,[]=>false
 |x::xs,y::ys=>if x=y then lexLt xs ys else decide (x<y)
theorem lexLt_cons (x y:Int)(xs ys:List Int):lexLt (x::xs) (y::ys)=if x=y then lexLt xs ys else decide (x<y):=rfl
theorem lexLt_nil_nil:lexLt [] []=false:=rfl
theorem lexLt_nil_cons (y:Int)(ys:List Int):lexLt [] (y::ys)=true:=rfl
theorem lexLt_cons_nil (x:Int)(xs:List Int):lexLt (x::xs) []=false:=rfl
theorem cat_tup(x:IsTup s.heap t vs.toArray)(r:IsTup s.heap b ws.toArray)(o:vs≠[])
  (h1:ws=[]->Q (.ref t) s) (y:ws≠[]->Q (.ref s.heap.objs.size) {s with heap:=s.heap.push {cls:=.type "tuple",data:=.seq (vs++ws).toArray}})
  (hsz:vs.length+ws.length<=sizeLine):wpAny (model prog w) A (binaryOp .Add (.ref t) (.ref b)) Q E s:=by
 obtain⟨⟨cls,p,data,m⟩,l,u,n,hd⟩:=id x
 obtain⟨⟨j,d,h,c⟩,a,g,q,f⟩:=id r
 subst u hd g f
 have e:vs.toArray++ws.toArray=(vs++ws).toArray:=by simp
 by_cases hw:ws=[]
 ·exact concat_meets ⟨_,l,rfl⟩ ⟨_,a,rfl⟩ noFill_tuple_add seq_tuple_add PySem.F.slot_tuple_add OJ (OK _ _)
   (tuple_addW1 t b vs.toArray ws.toArray n q p d m c (by simpa using o) (by simp[hw])) ⟨l,a,h1 hw⟩
 ·refine concat_meets ⟨_,l,rfl⟩ ⟨_,a,rfl⟩ noFill_tuple_add seq_tuple_add PySem.F.slot_tuple_add OJ (OK _ _)
   (tuple_addW2 t b vs.toArray ws.toArray n q p d m c (by simpa using o) (by simpa using hw) (by rw[Ma,Ma];exact hsz)) ⟨l,a,?_⟩
  rw[e]
  exact y hw
noncomputable def sIx (n d:Nat):Option Int->Nat
 |none=>d
 |some v=>if v<0 then (v+(n:Int)).toNat else min v.toNat n
theorem sIx_none (n d:Nat):sIx n d none=d:=rfl
theorem sIx_nat (n d k:Nat):sIx n d (some (k:Int))=min k n:=by
 show(if (k:Int)<0 then ((k:Int)+(n:Int)).toNat else min (k:Int).toNat n)=min k n
 rw[if_neg (by lia),MH]
end HT
namespace L2
open PySem PySem.Spec PyProof.Rows
variable {X:Cx} {pins:List (Addr×Obj)} {σ:St} {H:Hp} {s:Shared} {prog:Program} {w:World} {A:Around} {E:Value->Shared->Prop} {K:LO} {mg:Str->Option Value} {base:Heap}
abbrev TO:=St->Hp->(Option Int->Hp->Prop)->Prop
def PO (X:Cx) (e:Option Expr) (t:TO):Prop:=
 ∀(pins:List (Addr×Obj)) (s:Shared) (σ:St) (H:Hp) (Q:Option Int->Hp->Prop),aJ X pins σ H s->t σ H Q->
  wpAny (model X.prog X.w) X.A (evalPart e X.env) (λu s'=>∃o H',aJ X pins σ H' s'/\IsPart u o/\Q o H') X.xe s
def lI:TO:=λ_ H Q=>Q none H
noncomputable def ij (t:TE):TO:=λσ H Q=>t σ H λx H1=>∃i,x=.int i/\Q (some i) H1
theorem vf{ns:List Int}:∀{a:List Value},aW (ns.map V.int) a->IntsAre a ns:=by
 induction ns with
 |nil=>intro a r;rw[MV] at r;cases r;exact .nil
 |cons n ns ih=>
  intro a r
  cases r with
  |cons r1 r2=>
   obtain⟨t,e⟩:=r1
   subst e
   exact .cons n t (ih r2)
section
variable {e:Expr} {te:TE} {lo hi:Option Expr} {tl th:TO} {pos p2:Pos}
theorem eB:PO X none lI:=by
 intro pins s σ H Q I h
 exact LM ⟨none,H,I,.none,h⟩
theorem bT (h:PE X e te):PO X (some e) (ij te):=by
 intro pins s σ H Q I b
 refine cy (h pins s σ H _ I b) λu d c=>?_
 obtain⟨x,H1,I1,r1,a⟩:=c
 obtain⟨i,rfl,q⟩:=a
 obtain⟨t,rfl⟩:=r1
 exact⟨some i,H1,I1,.int i t,q⟩
def Lj (X:Cx) (r:V->Option Int->Option Int->Hp->VK->Prop):Prop:=
 ∀(pins:List (Addr×Obj)) (s:Shared) (σ:St) (H:Hp) (x:V) (v a c:Value) (lo hi:Option Int) (b:Addr) (Q:VK),aJ X pins σ H s->aZ x v->s.heap.IsSliceOf b a c .none->IsPart a lo->IsPart c hi->r x lo hi H Q->
  ∃T id,typeLookup (.type T) "__getitem__" =pure (some (.builtin id))/\s.TypeIs v T/\wpAny (model X.prog X.w) X.A (getItem v (.ref b)) (EP X pins σ Q) X.xe s
def JO (r:V->Option Int->Option Int->Hp->VK->Prop) (te:TE) (tl th:TO):TE:=λσ H Q=>te σ H λx H1=>tl σ H1 λl H2=>th σ H2 λu H3=>r x l u H3 Q
theorem cD {r:V->Option Int->Option Int->Hp->VK->Prop}(g:Lj X r)(E:PE X e te)(C:PO X lo tl)(B:PO X hi th):PE X (.Subscript e (.Slice lo hi none p2) pos) (JO r te tl th):=by
 intro pins s σ H Q I h
 refine Subscript_ (cy (E pins s σ H _ I h) λv z f=>?_)
 obtain⟨x,H1,I1,r1,y⟩:=f
 refine wpAny_Slice (cy (C pins z σ H1 _ I1 y) λd j ⟨l,H2,I2,w,A⟩=>cy (B pins j σ H2 _ I2 A) λc a f=>?_)
 obtain⟨u,H3,I3,o,p⟩:=f
 refine LM ?_
 have D:aJ X pins σ H3 {a with heap:=a.heap.push {cls:=.type "slice",data:=.fields #[d,c,.none]}}:=I3.kept (t':=a.toks) λb F q=>LU _ q
 obtain⟨T,id,m,n,hg⟩:=g pins {a with heap:=a.heap.push {cls:=.type "slice",data:=.fields #[d,c,.none]}} σ H3 x v d c l u a.heap.objs.size Q D r1 (Heap.IsSliceOf.new ..) w o p
 exact tail_any (ops:=[.ref a.heap.objs.size,v]) n m hg (by with_unfolding_all rfl)
noncomputable def fu (xs:List V) (a b:Option Int):List V:=(xs.drop (HT.sIx xs.length 0 a)).take (HT.sIx xs.length xs.length b - HT.sIx xs.length 0 a)
theorem rY (xs:List V)(b a:Option Int):(fu xs b a).length<=xs.length:=by
 unfold fu
 rw[Mg,List.length_drop]
 omega
def JI (K:LO):R2:=λx y H Q=>∃a b xs ys,x=.ref a/\y=.ref b/\bW K H a xs/\bW K H b ys/\xs≠[]/\xs.length+ys.length<=sizeLine/\
 (ys=[]->Q (.ref a) H)/\(ys≠[]->∀p,H p=none->Q (.ref p) (upd H p (.tup (xs++ys))))
theorem aW.nil_iff(r:aW xs us):us=[]↔xs=[]:=by
 cases r with
 |nil=>simp
 |cons _ _=>simp
theorem Fi:gy X (binaryOp .Add) (JI X.K):=by
 intro pins s σ H x y v u Q I j n h
 obtain⟨a,b,xs,ys,rfl,rfl,ha,l,p,f,g,m⟩:=h
 cases j
 cases n
 obtain⟨d,r1,p1,_⟩:=I.tuple ha
 obtain⟨c,e,p2,_⟩:=I.tuple l
 refine HT.cat_tup p1 p2 (λz=>p (r1.nil_iff.mp z)) (λz=>⟨.ref a,H,I,rfl,g (e.nil_iff.mp z)⟩) (λz=>?_) (by rw[<-r1.length,<-e.length];exact f)
 refine⟨.ref s.heap.objs.size,_,I.laid (t':=s.toks) (o:=.tup (xs++ys)) (λb r q=>LU _ q) (LL _) ?_,rfl,m (λw=>z (e.nil_iff.mpr w)) _ (I.hok.fresh (LL _))⟩
 exact⟨by rw[LP];exact f,_,r1.append e,IsTup.new _ _⟩
end
noncomputable def DO (n:Nat) (i:Int):Option Nat:=if 0<=i then (if i<n then some i.toNat else none) else if -(n:Int)<=i then some (i+n).toNat else none
noncomputable def jq {α:Type} (xs:List α) (i:Int):Option α:=(DO xs.length i).bind λj=>xs[j]?
theorem xS(h:DO n i=some j):seqIndex? i n=some j/\j<n/\ -(n:Int)<=i/\i<n:=by
 unfold DO at h
 by_cases h0:0<=i
 ·rw[if_pos h0] at h
  by_cases h1:i<n
  ·rw[if_pos h1] at h
   have e:i.toNat=j:=Option.some.inj h
   exact⟨by rw[seqIndex_of h0 h1,e],by lia,by lia,h1⟩
  ·rw[if_neg h1] at h;cases h
 ·rw[if_neg h0] at h
  by_cases h1: -(n:Int)<=i
  ·rw[if_pos h1] at h
   have e:(i+n).toNat=j:=Option.some.inj h
   exact⟨by rw[seqIndex_neg (by lia) h1,e],by lia,h1,by lia⟩
  ·rw[if_neg h1] at h;cases h
theorem qI {a:Type}{xs:List a}{v:a}(h:jq xs i=some v):∃j,seqIndex? i xs.length=some j/\xs[j]?=some v/\j<xs.length/\ -(xs.length:Int)<=i/\i<xs.length:=by
 unfold jq at h
 cases e:DO xs.length i with
 |none=>rw[e] at h;cases h
 |some j=>
  rw[e] at h
  obtain⟨h1,h2,c,b⟩:=xS e
  exact⟨j,h1,h,h2,c,b⟩
theorem bS {a:Type}{xs:List a}{j:Nat}{v:a}(h:xs[j]?=some v):jq xs (j:Int)=some v:=by
 have b:j<xs.length:=(Mo.mp h).1
 have e:DO xs.length (j:Int)=some j:=by
  unfold DO
  rw[if_pos (by lia),if_pos (by lia)];simp
 unfold jq;rw[e];exact h
def xw (b:Expr):Prop:=∀o i,subscripted b false o i=operate [o,i] (getItem o i)
def GV (X:Cx) (r:R2):Prop:=
 ∀(value a:Expr) (pins:List (Addr×Obj)) (s:Shared) (σ:St) (H:Hp) (x y:V) (v u:Value) (Q:VK),aJ X pins σ H s->aZ x v->aZ y u->r x y H Q->
  subscripted a false v u=operate [v,u] (getItem v u)->wpAny (model X.prog X.w) X.A (subscriptTail value a v u) (EP X pins σ Q) X.xe s
def FH (X:Cx) (id:String) (r:V->List V->Hp->VK->Prop):Prop:=
 ∀(pins:List (Addr×Obj)) (s:Shared) (σ:St) (H:Hp) (x:V) (xs:List V) (v:Value) (a:List Value) (Q:VK),aJ X pins σ H s->aZ x v->aW xs a->r x xs H Q->
  wpAny (model X.prog X.w) X.A (call (.builtin id) (v::a)) (EP X pins σ Q) X.xe s
section
variable {a b:Expr} {ta tb:TE} {pos:Pos}
theorem Ji(d:GV X r)(l:PE X a ta)(f:PE X b tb)(c:xw b):PE X (.Subscript a b pos) (fv r ta tb):=by
 intro pins s σ H Q I h
 exact Subscript_ (Hc l f I h λv u g x y H2 I2 e j q=>d a b pins g σ H2 x y v u Q I2 e j q (c _ _))
def ow (K:LO):R2:=λx y H Q=>∃p xs i v,x=.ref p/\y=.int i/\aF K H p xs/\jq xs i=some v/\Q v H
def nW (K:LO):R2:=λx y H Q=>∃p xs i v,x=.ref p/\y=.int i/\bW K H p xs/\jq xs i=some v/\Q v H
def J0:R2:=λx y H Q=>∃z i c,x=.str z/\y=.int i/\z.length<=sizeLine/\jq z.cps.toList i=some c/\Q (.str ⟨#[c]⟩) H
theorem aV:GV X (ow X.K):=by
 intro value d pins s σ H x y v u Q I o A h l
 obtain⟨p,xs,i,z,rfl,rfl,n,C,q⟩:=h
 cases o
 obtain⟨t,rfl⟩:=A
 obtain⟨c,r,e,E⟩:=I.list n
 obtain⟨j,h1,h2,G,m,D⟩:=qI C
 obtain⟨w,g,b⟩:=r.get h2
 have B:=r.length
 have F:=m_
 have a:EP X pins σ Q w s:=⟨z,H,I,b,q⟩
 by_cases h0:0<=i
 ·have f:i.toNat=j:=by
   rw[seqIndex_of h0 D] at h1
   exact Option.some.inj h1
  exact item_listR e.isList h0 (by lia) (by rw[f];simpa using g) a l
 ·have f:(i+(c.toArray.size:Int)).toNat=j:=by
   rw[seqIndex_neg (by lia) m] at h1
   rw[Ma,<-B]
   exact Option.some.inj h1
  exact subscriptTail_builtinR (x:=w) e.isList.typeIs slot_list_getitem.lookup
   (wpAny_getItem_list_neg (Q:=λr s'=>r=w/\EP X pins σ Q r s') e.isList (by lia) (by rw[Ma]<;>lia) (by lia) (by rw[f];simpa using g) ⟨rfl,a⟩) l
theorem aI:GV X (nW X.K):=by
 intro value d pins s σ H x y v u Q I m n h g
 obtain⟨p,xs,i,z,rfl,rfl,l,A,q⟩:=h
 cases m
 obtain⟨t,rfl⟩:=n
 obtain⟨c,r,e,B⟩:=I.tuple l
 obtain⟨j,h1,h2,E,C,F⟩:=qI A
 obtain⟨w,f,b⟩:=r.get h2
 have o:=r.length
 have D:=m_
 have a:EP X pins σ Q w s:=⟨z,H,I,b,q⟩
 exact subscriptTail_builtinR (x:=w) e.typeIs slot_tuple_getitem.lookup
  (getItem_tuple (j:=j) (Q:=λr s'=>r=w/\EP X pins σ Q r s') e (by lia) (by lia) (by rw[Ma,<-o];exact h1) (by simpa using f) ⟨rfl,a⟩) g
theorem u7:GV X J0:=by
 intro value a pins s σ H x y v u Q I f g h d
 obtain⟨z,i,c,rfl,rfl,r,o,q⟩:=h
 obtain⟨t,rfl⟩:=f
 obtain⟨w,rfl⟩:=g
 obtain⟨j,h1,h2,A,l,e⟩:=qI o
 have n:z.cps.toList.length=z.length:=by simp[Str.length]
 rw[n] at h1 l e
 have p:=m_
 exact tail_any (typeIs_str s z t) slot_str_getitem.lookup (getItem_str (c:=c) (by
  have b:decide (i< -(2^63:Int))=false:=decide_eq_false (by lia)
  have m:decide (i>=2^63)=false:=decide_eq_false (by lia)
  rw[b,m,Bool.or_false]) (by rw[h1];simpa using h2) ⟨.str ⟨#[c]⟩,H,I.tok _,⟨_,rfl⟩,q⟩) d
theorem uK (its:List Value)(n j:Nat)(u:Value):Obj.mapSeq (·.setIfInBounds j u) {cls:=.type "list",data:=.seq its.toArray n}={cls:=.type "list",data:=.seq (its.set j u).toArray n}:=by
 simp[Obj.mapSeq]
theorem aJ.lst(I:aJ X pins σ H s)(h:H p=some (.lst xs)):
  ∃(a:List Value) (n:Nat),aW xs a/\s.heap.get? p=some {cls:=.type "list",data:=.seq a.toArray n}/\xs.length<=sizeLine:=by
 obtain⟨z,a,n,r,e⟩:=I.hok p _ h
 exact⟨a,n,r,e,z⟩
theorem aJ.lstUpd {p:Addr}{xs ys:List V}{its its':List Value}{n a:Nat}{f:Obj->Obj}(I:aJ X pins σ H s)(h:H p=some (.lst xs))
  (g:s.heap.get? p=some {cls:=.type "list",data:=.seq its.toArray n}) (c:f {cls:=.type "list",data:=.seq its.toArray n}={cls:=.type "list",data:=.seq its'.toArray a}) (r:aW ys its') (hz:ys.length<=sizeLine) (t:Nat):
  aJ X pins σ (upd H p (.lst ys)) {s with heap:=s.heap.update p f,toks:=t}:=by
 have e:(s.heap.update p f).get? p=some {cls:=.type "list",data:=.seq its'.toArray a}:=by
  rw[MW f g (by rw[c]<;>rfl),c]
 refine I.write (x:=p) (e:=p) (by rw[h];trivial) (.inl rfl) (λb u d q=>(Heap.get?_update_other _ _ (L8 d)).trans q) ⟨_,e⟩ ?_
 exact⟨hz,its',a,r,e⟩
noncomputable def J9:V->V->V->Hp->(Hp->Prop)->Prop:=λo i v H Q=>∃p xs k j,o=.ref p/\i=.int k/\H p=some (.lst xs)/\DO xs.length k=some j/\Q (upd H p (.lst (xs.set j v)))
theorem zM:Kc X J9:=by
 intro pins s σ H o i v C B u Q I y z w h
 obtain⟨p,xs,k,j,rfl,rfl,g,x,q⟩:=h
 cases y
 obtain⟨t,rfl⟩:=z
 obtain⟨a,n,r,d,m⟩:=I.lst g
 obtain⟨h1,h2,e,f⟩:=xS x
 have c:=r.length
 have A:=m_
 have l:aJ X pins σ (upd H p (.lst (xs.set j v))) {s with heap:=s.heap.update p (Obj.mapSeq (·.setIfInBounds j u))}:=
  I.lstUpd g d (uK a n j u) (r.set w j) (by rw[List.length_set];exact m) s.toks
 by_cases h0:0<=k
 ·have b:k.toNat=j:=by
   rw[seqIndex_of h0 f] at h1
   exact Option.some.inj h1
  exact PySem.W.ki_setAt d h0 (by lia) (by rw[Ma,<-c];exact f) (by rw[b];exact⟨_,l,q⟩)
 ·have b:(k+(a.toArray.size:Int)).toNat=j:=by
   rw[seqIndex_neg (by lia) e] at h1
   rw[Ma,<-c]
   exact Option.some.inj h1
  exact PySem.W.ki_setBack d (by lia) (by rw[Ma,<-c];exact e) (by lia) (by rw[b];exact⟨_,l,q⟩)
theorem qR (b a:Option Int)(n:Nat):(sliceBounds b a none n).1=((HT.sIx n 0 b:Nat):Int)/\(sliceBounds b a none n).2.1=((HT.sIx n n a:Nat):Int)/\(sliceBounds b a none n).2.2=1:=by
 refine⟨?_,?_,rfl⟩
 ·cases b with
  |none=>simp[sliceBounds,HT.sIx]
  |some i=>
   simp only[sliceBounds,HT.sIx,Option.getD_none,show(1:Int)>0 by decide,if_true]
   by_cases h:i<0
   ·simp only[h,if_true]<;>lia
   ·simp only[h,if_false]<;>lia
 ·cases a with
  |none=>simp[sliceBounds,HT.sIx]
  |some i=>
   simp only[sliceBounds,HT.sIx,Option.getD_none,show(1:Int)>0 by decide,if_true]
   by_cases h:i<0
   ·simp only[h,if_true]<;>lia
   ·simp only[h,if_false]<;>lia
theorem oj (its:List Value)(a b:Option Int):slicePick its.toArray a b none=((its.drop (HT.sIx its.length 0 a)).take (HT.sIx its.length its.length b - HT.sIx its.length 0 a)).toArray:=by
 obtain⟨h1,h2,c⟩:=qR a b its.toArray.size
 unfold slicePick
 rw[h1,h2,c]
 simp only[sliceRange_one,pick_run,Ma]<;>rfl
noncomputable def Bi (K:LO):V->Option Int->Option Int->Hp->VK->Prop:=λx lo hi H Q=>∃a xs,x=.ref a/\aF K H a xs/\∀p,H p=none->Q (.ref p) (upd H p (.lst (fu xs lo hi)))
theorem cW:Lj X (Bi X.K):=by
 intro pins s σ H x v w p lo hi u Q I l g f m h
 obtain⟨a,xs,rfl,n,q⟩:=h
 cases l
 obtain⟨d,r,e,j⟩:=I.list n
 have c:=r.length
 refine⟨"list",_,slot_list_getitem.lookup,e.isList.typeIs,?_⟩
 refine wpAny_getItem_list_slice e.isList g f m .none (by simp) ?_ (by rw[Ma]<;>lia)
 rw[oj,<-c]
 refine⟨.ref s.heap.objs.size,_,I.laid (t':=s.toks) (o:=.lst (fu xs lo hi)) (λb y q=>LU _ q) (LL _) ?_,rfl,q _ (I.hok.fresh (LL _))⟩
 exact⟨LR (rY xs lo hi) j,_,0,(r.drop (HT.sIx xs.length 0 lo)).take (HT.sIx xs.length xs.length hi - HT.sIx xs.length 0 lo),L4 _ rfl⟩
noncomputable def jv:V->Bool
 | .non=>true
 | .bl _=>true
 | .int _=>true
 | .str _=>true
 |_=>false
noncomputable def FS:V->V->Bool
 | .non,.non=>true
 | .bl a,.bl b=>a==b
 | .bl a,.int b=>(if a then 1 else 0)==b
 | .int a,.bl b=>a==(if b then 1 else 0)
 | .int a,.int b=>a==b
 | .str a,.str b=>a==b
 |_,_=>false
theorem HP(f:aZ y u)(c:aZ x v)(g:jv y=true)(e:jv x=true):SeqAt.EqAt A s u v (FS y x):=by
 cases y with
 |non=>
  cases f
  cases x with
  |non=>cases c;exact SeqAt.EqAt.same _
  |bl b=>cases c;exact SeqAt.EqAt.none_bool b
  |int b=>obtain⟨t,rfl⟩:=c;exact SeqAt.EqAt.none_int b t
  |str b=>obtain⟨t,rfl⟩:=c;exact SeqAt.EqAt.none_str b t
  |_=>exact absurd (show false=true from e) L6
 |bl a=>
  cases f
  cases x with
  |non=>cases c;exact SeqAt.EqAt.bool_none a
  |bl b=>cases c;exact SeqAt.EqAt.bool_bool a b
  |int b=>obtain⟨t,rfl⟩:=c;exact SeqAt.EqAt.bool_int a b t
  |str b=>obtain⟨t,rfl⟩:=c;exact SeqAt.EqAt.bool_str a b t
  |_=>exact absurd (show false=true from e) L6
 |int a=>
  obtain⟨d,rfl⟩:=f
  cases x with
  |non=>cases c;exact SeqAt.EqAt.int_none a d
  |bl b=>cases c;exact SeqAt.EqAt.int_bool a d b
  |int b=>obtain⟨t,rfl⟩:=c;exact SeqAt.EqAt.int_int a d b t
  |str b=>obtain⟨t,rfl⟩:=c;exact SeqAt.EqAt.int_str a d b t
  |_=>exact absurd (show false=true from e) L6
 |str a=>
  obtain⟨d,rfl⟩:=f
  cases x with
  |non=>cases c;exact SeqAt.EqAt.str_none a d
  |bl b=>cases c;exact SeqAt.EqAt.str_bool a d b
  |int b=>obtain⟨t,rfl⟩:=c;exact SeqAt.EqAt.str_int a d b t
  |str b=>obtain⟨t,rfl⟩:=c;exact SeqAt.EqAt.str_str a d b t
  |_=>exact absurd (show false=true from e) L6
 |_=>exact absurd (show false=true from g) L6
noncomputable def EO (x:V) (u:Value):Bool:=match u with
 | .none=>FS .non x
 | .bool b=>FS (.bl b) x
 | .int i _=>FS (.int i) x
 | .str z _=>FS (.str z) x
 |_=>false
theorem zQ(r:aZ y u)(f:jv y=true):EO x u=FS y x:=by
 cases y with
 |non=>cases r;rfl
 |bl b=>cases r;rfl
 |int i=>obtain⟨t,rfl⟩:=r;rfl
 |str z=>obtain⟨t,rfl⟩:=r;rfl
 |_=>exact absurd (show false=true from f) L6
theorem p7:∀{xs:List V} {a:List Value},aW xs a->xs.all jv=true->a.any (EO x)=xs.any λy=>FS y x
 |_,_,.nil,_=>rfl
 |y::xs,u::a,.cons r t,f=>by
  rw[List.all_cons,MD] at f
  rw[MX,MX,zQ r f.1,p7 t f.2]
theorem mv(c:aZ x v)(b:jv x=true):∀{xs:List V} {a:List Value},aW xs a->xs.all jv=true->∀u∈a,SeqAt.EqAt A s u v (EO x u)
 |_,_,.nil,_=>λu hu=>by cases hu
 |y::xs,u::a,.cons r t,f=>λd hu=>by
  rw[List.all_cons,MD] at f
  rcases LS.mp hu with rfl|hu
  ·rw[zQ r f.1];exact HP r c f.1 b
  ·exact mv c b t f.2 d hu
def Ks (x:V) (xs:List V):Bool:=xs.any λy=>FS y x
def Lp (K:LO) (a:Bool):R2:=λx y H Q=>∃p xs,y=.ref p/\(aF K H p xs\/bW K H p xs)/\jv x=true/\xs.all jv=true/\Q (.bl (if a then !Ks x xs else Ks x xs)) H
theorem oH:gy X (compareOp .In) (Lp X.K false):=by
 intro pins s σ H x y v u Q I d g h
 obtain⟨p,xs,rfl,hq,e,fs,q⟩:=h
 cases g
 rcases hq with hq|hq
 ·obtain⟨a,r,b,f⟩:=I.list hq
  refine SeqAt.in_listAt (EO x) b.isList (λw c=>mv d e r fs w (by simpa using c)) ⟨.bl _,H,I,rfl,?_⟩
  rw[show a.toArray.any (EO x)=a.any (EO x) by simp,p7 r fs]
  exact q
 ·obtain⟨a,r,b,f⟩:=I.tuple hq
  refine SeqAt.in_tupleAt (EO x) b (λw c=>mv d e r fs w (by simpa using c)) ⟨.bl _,H,I,rfl,?_⟩
  rw[show a.toArray.any (EO x)=a.any (EO x) by simp,p7 r fs]
  exact q
theorem jX:cT X (.builtin "len") (λxs H Q=>∃z,xs=[.str z]/\z.length<=sizeLine/\Q (.int z.length) H):=by
 intro pins s σ H xs c Q I r h
 obtain⟨z,rfl,b,q⟩:=h
 obtain⟨u,rfl,t,rfl⟩:=dF r
 have a:=m_
 exact len_str (by lia) ⟨.int z.length,H,I.tok _,⟨_,rfl⟩,q⟩
theorem bz:cT X (.type "list") (λxs H Q=>∃p ys,xs=[.ref p]/\(aF X.K H p ys\/bW X.K H p ys)/\∀l,H l=none->Q (.ref l) (upd H l (.lst ys))):=by
 intro pins s σ H xs B Q I r h
 obtain⟨p,ys,rfl,hq,q⟩:=h
 obtain⟨u,rfl,A⟩:=dF r
 cases A
 have c:∀(a:List Value),aW ys a->ys.length<=sizeLine->∀(h':Heap) (f:Nat),(∀b o',s.heap.get? b=some o'->h'.get? b=some o')->
   h'.get? s.heap.objs.size=some {cls:=.type "list",dict:=none,data:=.seq a.toArray f,slots:= #[]}->EP X pins σ Q (.ref s.heap.objs.size) {s with heap:=h'}:=λa g j h' f m e=>
  ⟨.ref s.heap.objs.size,_,I.laid (t':=s.toks) m (LL _) (show bV X.prog X.w _ h' _ (.lst ys) from⟨j,a,f,g,e⟩),rfl,q _ (I.hok.fresh (LL _))⟩
 rcases hq with hq|hq
 ·obtain⟨a,g,y,j⟩:=I.list hq
  have d:=g.length
  obtain⟨o,x,z,n,hd⟩:=y.isList
  exact call_list_seq p (.inl rfl) x z hd (λh' f m e=>c a g j h' f m e) (by simp only[Ma]<;>lia)
 ·obtain⟨a,g,y,j⟩:=I.tuple hq
  have d:=g.length
  obtain⟨o,x,z,n,hd⟩:=y
  exact call_list_seq p (.inr rfl) x z hd (λh' f m e=>c a g j h' f m e) (by simp only[Ma]<;>lia)
theorem cG:cT X (.type "tuple") (λxs H Q=>∃p ys,xs=[.ref p]/\((aF X.K H p ys/\∀l,H l=none->Q (.ref l) (upd H l (.tup ys)))\/(bW X.K H p ys/\Q (.ref p) H))):=by
 intro pins s σ H xs z Q I r h
 obtain⟨p,ys,rfl,h⟩:=h
 obtain⟨u,rfl,x⟩:=dF r
 cases x
 rcases h with ⟨f,q⟩|⟨f,q⟩
 ·obtain⟨a,g,d,j⟩:=I.list f
  have c:=g.length
  refine call_tuple_list d.isList (λh' n=>?_) (by simp only[Ma]<;>lia)
  have m:aJ X pins σ H {s with heap:=h'}:=I.kept (t':=s.toks) n
  have y:aJ X pins σ (upd H h'.objs.size (.tup ys)) {s with heap:=h'.push {cls:=.type "tuple",data:=.seq a.toArray}}:=
   m.laid (t':=s.toks) (λb o e=>LU _ e) (LL _) (show bV X.prog X.w _ _ _ (.tup ys) from⟨j,a,g,IsTup.new _ _⟩)
  exact⟨.ref h'.objs.size,_,y,rfl,q _ (m.hok.fresh (LL _))⟩
 ·obtain⟨a,g,d,j⟩:=I.tuple f
  exact call_tuple_same d ⟨.ref p,H,I,rfl,q⟩
def IQ (K:LO) (T:String) (x:V) (H:Hp):Prop:=match x with
 | .str _=>T= "str"
 | .int _=>T= "int"
 | .ref p=>(T= "list" /\∃xs,aF K H p xs)\/(T= "tuple" /\∃o,K.lookup p=some o/\o.cls=.type "tuple" /\o.dict=none)\/
   (T= "dict" /\((∃kvs,H p=some (.dK kvs))\/∃kvs,H p=some (.dT kvs)))\/(T= "set" /\∃S n,H p=some (.set S n))
 |_=>False
theorem B1(I:aJ X pins σ H s)(r:aZ x v)(ty:IQ X.K T x H):
  s.TypeIs v T/\∀a,v=.ref a->∃h,s.heap.get? a=some h/\h.dict=none:=by
 cases x with
 |str z=>
  obtain⟨t,rfl⟩:=r
  cases(show T= "str" from ty)
  exact⟨typeIs_str s z t,λ_ e=>nomatch e⟩
 |int i=>
  obtain⟨t,rfl⟩:=r
  cases(show T= "int" from ty)
  exact⟨typeIs_int s i t,λ_ e=>nomatch e⟩
 |ref p=>
  cases r
  rcases ty with ⟨rfl,xs,j⟩|⟨rfl,o,d,l,hd⟩|⟨rfl,d⟩|⟨rfl,S,n,d⟩
  ·obtain⟨b,_,g,_⟩:=I.list j
   refine⟨g.isList.typeIs,λa e=>?_⟩
   cases e
   obtain⟨o,n,e,c,hd,_⟩:=g
   exact⟨o,e,hd⟩
  ·refine⟨⟨o,I.kIn p o d,l⟩,λa e=>?_⟩
   cases e
   exact⟨o,I.kIn _ o d,hd⟩
  ·have z:∃o,s.heap.get? p=some o/\o.ExactDict:=by
    rcases d with ⟨kvs,d⟩|⟨kvs,d⟩
    ·obtain⟨_,_,_,_,o,_,_,e,ex,_⟩:=I.hok p _ d
     exact⟨o,e,ex⟩
    ·obtain⟨_,_,_,_,o,_,_,e,ex,_⟩:=I.hok p _ d
     exact⟨o,e,ex⟩
   obtain⟨o,e,ex⟩:=z
   refine⟨⟨o,e,ex.1⟩,λa f=>?_⟩
   cases f
   exact⟨o,e,ex.2.1⟩
  ·obtain⟨o,_,_,_,e,ex,_⟩:=I.hok p _ d
   refine⟨⟨o,e,ex.1⟩,λa f=>?_⟩
   cases f
   exact⟨o,e,ex.2.1⟩
 |_=>exact False.elim ty
def JQ (K:LO) (T:String) (r:V->List V->Hp->VK->Prop) (a:TE):TE:=λσ H Q=>a σ H λx H1=>IQ K T x H1/\r x [] H1 Q
def Gc (K:LO) (T:String) (r:V->List V->Hp->VK->Prop) (a:TE) (t:TA):TE:=λσ H Q=>a σ H λx H1=>IQ K T x H1/\t σ H1 λxs H2=>r x xs H2 Q
variable {o e:Expr} {es:List Expr} {to:TE} {t:TA} {name:Str} {apos cpos:Pos} {T id:String} {r:V->List V->Hp->VK->Prop}
theorem HR (e:PlainAttrs T)(c:Slot T name id)(d:typeOf (.builtin id)=pure (.type "method_descriptor"))(g:FH X id r)(m:PE X o to)
  (a:attributeBase o name X.env (eval o X.env)=eval o X.env:=by rfl) (b:(apos.endLine==cpos.line)=true:=by rfl):PE X (.Call (.Attribute o name apos) [] [] cpos) (JQ X.K T r to):=by
 intro pins s σ H Q I h
 refine wpAny_Call_method0_late a b (cy (m pins s σ H _ I h) λv l j=>?_)
 obtain⟨x,H1,I1,r1,ty,f⟩:=j
 obtain⟨h1,h2⟩:=B1 I1 r1 ty
 exact⟨T,id,e,c,d,h1,h2,Calls.callWith_builtin rfl (PySem.evalArgs_none (g pins l σ H1 x [] v [] Q I1 r1 .nil f))⟩
theorem dh (l:PlainAttrs T)(f:Slot T name id)(g:typeOf (.builtin id)=pure (.type "method_descriptor"))(q:FH X id r)(C:PE X o to)(m:PA X (e::es) t)
  (b:attributeBase o name X.env (eval o X.env)=eval o X.env:=by rfl)
  (d:((backTo cpos (starEach (e::es) X.env)).all (λx=>!x.1)&&(backToKw cpos (keywordEach [] X.env)).all (λx=>x.1.isSome)
   &&decide ((e::es).length+([]:List Keyword).length+(if ([]:List Keyword).isEmpty then 0 else 1)<30))=true:=by rfl)
  (c:(apos.endLine==cpos.line)=true:=by rfl) (n:starEach (e::es) X.env=(false,eval e X.env)::starEach es X.env:=by rfl) (a:(backTo cpos (starEach es X.env)).any (·.1)=false:=by rfl):
  PE X (.Call (.Attribute o name apos) (e::es) [] cpos) (Gc X.K T r to t):=by
 intro pins s σ H Q I h
 refine wpAny_Call_method_late b d c rfl (cy (C pins s σ H _ I h) λv B A=>?_)
 obtain⟨x,H1,I1,r1,ty,p⟩:=A
 obtain⟨h1,h2⟩:=B1 I1 r1 ty
 refine⟨T,id,l,f,g,h1,h2,?_⟩
 have j:=m cpos pins B σ H1 _ I1 p
 rw[n] at j|-
 refine Calls.callWith_builtin (by show(false||(backTo cpos (starEach es X.env)).any (·.1))=false;rw[a]<;>rfl) (Calls.evalArgs_plain ?_)
 exact cy j λw y ⟨vs,H2,I2,u,z⟩=>q pins y σ H2 x vs v w Q I2 r1 u z
end
def Li (X:Cx) (id:String) (r:V->List V->Hp->VK->Prop):Prop:=
 ∀(pins:List (Addr×Obj)) (s:Shared) (σ:St) (H:Hp) (x:V) (xs:List V) (v:Value) (a:List Value) (Q:VK),aJ X pins σ H s->aZ x v->aW xs a->r x xs H Q->
  wpAny (model X.prog X.w) X.A (call (.builtin id) (v::a)) (EP X pins σ Q) X.xe s
theorem aW.one(h:aW [x] us):∃u,us=[u]/\aZ x u:=by
 cases h with|cons r t=>cases t;exact⟨_,rfl,r⟩
theorem aW.reverse(h:aW xs us):aW xs.reverse us.reverse:=by
 induction h with
 |nil=>exact .nil
 |cons r t ih=>rw[Ou,Ou];exact aW.append ih (.cons r .nil)
section
variable {l b:Addr} {xs ys zs:List V}
theorem aJ.lset {its its':List Value}{n:Nat}{f:Array Value->Array Value}{t':Nat}(I:aJ X pins σ H s)(c:H l=some (.lst xs))
  (e:s.heap.get? l=some {cls:=.type "list",data:=.seq its.toArray n}) (g:f its.toArray=its'.toArray) (d:aW ys its') (hz:ys.length<=sizeLine):
  aJ X pins σ (upd H l (.lst ys)) {s with heap:=s.heap.update l (Obj.mapSeq f),toks:=t'}:=by
 have q:=PySem.IsL.update e f
 rw[g] at q
 refine I.write (x:=l) (e:=l) (by rw[c];exact trivial) (.inl rfl) (λh u a b=>(Heap.get?_update_other s.heap (Obj.mapSeq f) (L8 a)).trans b) ⟨_,q⟩ ?_
 exact⟨hz,its',_,d,q⟩
theorem aJ.lnew(I:aJ X pins σ H s)(a:aW ys its)(hz:ys.length<=sizeLine):
  aJ X pins σ (upd H s.heap.objs.size (.lst ys)) {s with heap:=s.heap.push {cls:=.type "list",data:=.seq its.toArray},toks:=t'}:=
 I.laid (λ_ _ q=>LU _ q) (LL _) ⟨hz,its,0,a,L4 _ rfl⟩
theorem aJ.fresh (I:aJ X pins σ H s):H s.heap.objs.size=none:=I.hok.fresh (LL _)
theorem aJ.lstM (I:aJ X pins σ H s)(b:H l=some (.lst xs)):xs.length<=sizeLine/\∃(a:List Value) (n:Nat),aW xs a/\xs.length=a.length/\s.heap.get? l=some {cls:=.type "list",data:=.seq a.toArray n}:=by
 obtain⟨z,a,n,r,e⟩:=I.hok l _ b
 exact⟨z,a,n,r,r.length,e⟩
theorem AM(h:n<=sizeLine):Builtin.List.listTooLong n=false:=by
 exact decide_eq_false (by lia)
end
noncomputable def lK:V->List V->Hp->VK->Prop:=λx vs H Q=>∃l xs y,x=.ref l/\vs=[y]/\H l=some (.lst xs)/\xs.length<sizeLine/\Q .non (upd H l (.lst (xs++[y])))
theorem dD:Li X "list.append" lK:=by
 intro pins s σ H x vs v j Q I d c h
 obtain⟨l,xs,y,rfl,rfl,b,g,q⟩:=h
 cases d
 obtain⟨u,rfl,f⟩:=c.one
 obtain⟨z,a,n,r,m,e⟩:=I.lstM b
 refine call_meets F.slot_list_append ⟨_,e,rfl⟩ F.entry_list_append (F.args_list_append_2 _ _) (PySem.list_append l a.toArray n u (by rw[Ma];lia)) ⟨e,?_⟩
 refine⟨.non,_,I.lset (its':=a++[u]) b e (by simp) (r.append (.cons f .nil)) ?_,rfl,q⟩
 rw[LP,List.length_singleton]
 lia
noncomputable def xD:V->List V->Hp->VK->Prop:=λx vs H Q=>∃l b xs zs,x=.ref l/\vs=[.ref b]/\H l=some (.lst xs)/\H b=some (.lst zs)/\xs.length+zs.length<=sizeLine/\Q .non (upd H l (.lst (xs++zs)))
theorem dU:Li X "list.extend" xD:=by
 intro pins s σ H x vs v D Q I w p h
 obtain⟨l,b,xs,zs,rfl,rfl,j,o,C,q⟩:=h
 cases w
 obtain⟨u,rfl,B⟩:=p.one
 cases B
 obtain⟨z,c,n,r,G,e⟩:=I.lstM j
 obtain⟨E,a,y,A,g,m⟩:=I.lstM o
 have f:c.toArray.size+a.toArray.size<=sizeLine:=by rw[Ma,Ma];lia
 have d:¬(!c.toArray.isEmpty&&Builtin.List.listTooLong (c.toArray.size+a.toArray.size))=true:=by
  rw[AM f,Bool.and_false]
  exact L6
 refine call_meets F.slot_list_extend ⟨_,e,rfl⟩ F.entry_list_extend (F.args_list_extend_2 _ _)
  (AutoSeq1.list_extend_list_list_0 l c.toArray n b a.toArray y d (by rw[Ma];lia) (by lia)) ⟨e,m,?_⟩
 refine⟨.non,_,I.lset (its':=c++a) j e (by simp) (r.append A) ?_,rfl,q⟩
 rw[LP]
 lia
def Hk:R2:=λx y H Q=>∃l b xs zs,x=.ref l/\y=.ref b/\H l=some (.lst xs)/\H b=some (.lst zs)/\xs.length+zs.length<=sizeLine/\∀p,H p=none->Q (.ref p) (upd H p (.lst (xs++zs)))
theorem dk:gy X (binaryOp .Add) Hk:=by
 intro pins s σ H x y v u Q I m o h
 obtain⟨l,b,xs,zs,rfl,rfl,p,f,A,q⟩:=h
 cases m
 cases o
 obtain⟨z,c,n,r,D,e⟩:=I.lstM p
 obtain⟨B,a,C,j,d,w⟩:=I.lstM f
 refine PySem.P.add_list e w ?_ (by rw[Ma,Ma];lia)
 have g:c.toArray++a.toArray=(c++a).toArray:=by simp
 rw[g]
 exact⟨.ref _,_,I.lnew (t':=s.toks) (r.append j) (by rw[LP];lia),rfl,q _ I.fresh⟩
theorem EV {a:Type}(xs:List a)(k:Nat):(List.replicate k xs).flatten.length=k*xs.length:=by
 induction k with
 |zero=>simp
 |succ k ih=>rw[List.replicate_succ,List.flatten_cons,LP,ih,Nat.succ_mul,Nat.add_comm]
section
variable {κ:Type} [DecidableEq κ]
noncomputable def bX (kvs:List (κ×V)) (k:κ):Option V:=(kvs.find? λa=>decide (a.1=k)).map (·.2)
noncomputable def c6 (kvs:List (κ×V)) (k:κ) (v:V):List (κ×V):=
 if (kvs.any λa=>decide (a.1=k))=true then kvs.map (λa=>if a.1=k then (a.1,v) else a) else kvs++[(k,v)]
theorem dy {p:κ×V}{r:List (κ×V)}{k:κ}(e:p.1=k):bX (p::r) k=some p.2:=by simp[bX,N0,e]
theorem dA {p:κ×V}{r:List (κ×V)}{k:κ}(e:¬p.1=k):bX (p::r) k=bX r k:=by simp[bX,N0,e]
theorem dB (k:κ):∀kvs:List (κ×V),(kvs.any λa=>decide (a.1=k))=(bX kvs k).isSome
 |[]=>rfl
 |p::r=>by
  rw[MX]
  by_cases e:p.1=k
  ·simp only[dy e,decide_eq_true e,Bool.true_or,Option.isSome_some]
  ·rw[dA e,decide_eq_false e,Bool.false_or];exact dB k r
theorem tK (k j:κ)(y:V):∀kvs:List (κ×V),bX (kvs.map λa=>if a.1=k then (a.1,y) else a) j=(bX kvs j).map λx=>if j=k then y else x
 |[]=>rfl
 |p::r=>by
  have b:=tK k j y r
  rw[L1]
  by_cases h:p.1=k
  ·rw[if_pos h]
   by_cases e:p.1=j
   ·rw[dy (p:=(p.1,y)) e,dy e,NW,if_pos (e.symm.trans h)]
   ·rw[dA (p:=(p.1,y)) e,dA e,b]
  ·rw[if_neg h]
   by_cases e:p.1=j
   ·rw[dy (p:=p) e,dy e,NW,if_neg (λz=>h (e.trans z))]
   ·rw[dA (p:=p) e,dA e,b]
theorem oJ (k j:κ)(y:V):∀kvs:List (κ×V),bX kvs k=none->bX (kvs++[(k,y)]) j=if j=k then some y else bX kvs j
 |[],_=>by
  by_cases e:k=j
  ·rw[if_pos e.symm];exact dy (p:=(k,y)) e
  ·rw[if_neg (λz=>e z.symm)];exact dA (p:=(k,y)) e
 |p::r,hn=>by
  rw[Og]
  have a:¬p.1=k:=λz=>by rw[dy z] at hn;cases hn
  rw[dA a] at hn
  have b:=oJ k j y r hn
  by_cases e:p.1=j
  ·rw[dy e,dy e,if_neg (λz=>a (e.trans z))]
  ·rw[dA e,dA e,b]
theorem Ax (kvs:List (κ×V))(k j:κ)(y:V):bX (c6 kvs k y) j=if j=k then some y else bX kvs j:=by
 unfold c6
 by_cases a:(kvs.any λb=>decide (b.1=k))=true
 ·rw[if_pos a,tK]
  rw[dB] at a
  by_cases e:j=k
  ·obtain⟨x,c⟩:=OI.mp a
   rw[if_pos e,e,c,NW,if_pos rfl]
  ·rw[if_neg e]
   cases bX kvs j with
   |none=>rfl
   |some x=>rw[NW,if_neg e]
 ·rw[if_neg a]
  refine oJ k j y kvs ?_
  rw[dB] at a
  cases q:bX kvs k with
  |none=>rfl
  |some x=>rw[q] at a;exact(a rfl).elim
theorem eK (kvs:List (κ×V))(k:κ)(v:V):(c6 kvs k v).length<=kvs.length+1:=by
 unfold c6
 split
 ·rw[LK];lia
 ·rw[LP,L5,List.length_nil];lia
theorem nJ {kvs:List (κ×V)}{k:κ}(v:V)(h:bX kvs k=none):c6 kvs k v=kvs++[(k,v)]:=by
 unfold c6
 rw[dB,h]
 exact if_neg (by decide)
theorem i9.isSome_eq{u:Option Value}(r:i9 o u):o.isSome=u.isSome:=by
 cases o with
 |none=>cases u with
  |none=>rfl
  |some _=>exact(show False from r).elim
 |some _=>cases u with
  |none=>exact(show False from r).elim
  |some _=>rfl
theorem KV.val {kvs:List (κ×V)}{vs:List (κ×Value)}(r:KV kvs vs)(k:κ):i9 (bX kvs k) (valueAt vs k):=by
 induction r with
 |nil=>exact True.intro
 | @cons p q ps qs h t c=>
  obtain⟨h1,h2⟩:=h
  by_cases e:p.1=k
  ·have a:q.1=k:=h1.symm.trans e
   have b:valueAt (q::qs) k=some q.2:=by simp[valueAt,N0,a]
   rw[dy e,b];exact h2
  ·have a:¬q.1=k:=λz=>e (h1.trans z)
   have b:valueAt (q::qs) k=valueAt qs k:=by simp[valueAt,N0,a]
   rw[dA e,b];exact c
theorem KV.any {kvs:List (κ×V)}{vs:List (κ×Value)}(r:KV kvs vs)(k:κ):(kvs.any λa=>decide (a.1=k))=vs.any λa=>decide (a.1=k):=by
 induction r with
 |nil=>rfl
 |cons h t ih=>rw[MX,MX,ih,h.1]
theorem KV.repl {kvs:List (κ×V)}{vs:List (κ×Value)}(r:KV kvs vs)(k:κ){y:V}{u:Value}(b:aZ y u):
  KV (kvs.map λa=>if a.1=k then (a.1,y) else a) (vs.map λa=>if a.1=k then (a.1,u) else a):=by
 induction r with
 |nil=>exact .nil
 | @cons p q ps qs h t ih=>
  rw[L1,L1]
  refine .cons ?_ ih
  obtain⟨h1,h2⟩:=h
  by_cases e:p.1=k
  ·rw[if_pos e,if_pos (h1.symm.trans e)];exact⟨h1,b⟩
  ·rw[if_neg e,if_neg (λz=>e (h1.trans z))];exact⟨h1,h2⟩
theorem KV.put {kvs:List (κ×V)}{vs:List (κ×Value)}(r:KV kvs vs)(k:κ){y:V}{u:Value}(a:aZ y u):KV (c6 kvs k y) (stored vs k u):=by
 unfold c6 stored
 rw[r.any k]
 by_cases e:(vs.any λb=>decide (b.1=k))=true
 ·rw[if_pos e,if_pos e];exact r.repl k a
 ·rw[if_neg e,if_neg e];exact Paired.snoc r ⟨rfl,a⟩
theorem KV.length {kvs:List (κ×V)}{vs:List (κ×Value)}(r:KV kvs vs):kvs.length=vs.length:=Paired.length r
end
theorem rZ(r:aZ (kV k) u):(bo P w).is k u=true:=by
 cases k with
 |inl i=>obtain⟨t,e⟩:=(show∃t,u=Value.int i t from r);subst e;exact tY P w i t
 |inr x=>obtain⟨t,e⟩:=(show∃t,u=Value.str x t from r);subst e;exact tj P w x t
theorem oF:∀{a:List cS} {b:List Value},aW (a.map kV) b->ItemsAre (bo P w) a b
 |[],_,r=>by rw[MV] at r;cases r;exact .nil
 |k::a,_,r=>by
  cases r with
  |cons h t=>exact .cons (rZ h) (oF t)
abbrev KT (H:Hp):List (List cS×V)->List (List cS×Addr×Value)->Prop:=Paired λp q=>p.1=q.1/\H q.2.1=some (.tup (p.1.map kV))/\aZ p.2 q.2.2
theorem KT.val {kvs:List (List cS×V)}{xs:List (List cS×Addr×Value)}(r:KT H kvs xs)(k:List cS):i9 (bX kvs k) ((atKey xs k).map (·.2)):=by
 induction r with
 |nil=>exact True.intro
 | @cons p q ps qs h t c=>
  obtain⟨h1,_,h2⟩:=h
  by_cases e:p.1=k
  ·have a:q.1=k:=h1.symm.trans e
   have b:atKey (q::qs) k=some q.2:=by simp[atKey,N0,a]
   rw[dy e,b];exact h2
  ·have a:¬q.1=k:=λz=>e (h1.trans z)
   have b:atKey (q::qs) k=atKey qs k:=by simp[atKey,N0,a]
   rw[dA e,b];exact c
theorem KT.repl {kvs:List (List cS×V)}{xs:List (List cS×Addr×Value)}(r:KT H kvs xs)(k:List cS){y:V}{u:Value}(b:aZ y u):
  KT H (kvs.map λa=>if a.1=k then (a.1,y) else a) (xs.map (putAt k u)):=by
 induction r with
 |nil=>exact .nil
 | @cons p q ps qs h t ih=>
  rw[L1,L1]
  refine .cons ?_ ih
  obtain⟨h1,h2,c⟩:=h
  unfold putAt
  by_cases e:p.1=k
  ·rw[if_pos e,if_pos (h1.symm.trans e)];exact⟨h1,h2,b⟩
  ·rw[if_neg e,if_neg (λz=>e (h1.trans z))];exact⟨h1,h2,c⟩
theorem KT.put {kvs:List (List cS×V)}{xs:List (List cS×Addr×Value)}(r:KT H kvs xs)(k:List cS){b:Addr}{y:V}{u:Value}(d:H b=some (.tup (k.map kV)))(a:aZ y u):
  KT H (c6 kvs k y) (storedH xs k b u):=by
 have e:(kvs.any λc=>decide (c.1=k))=(atKey xs k).isSome:=by
  rw[dB,(r.val k).isSome_eq,Option.isSome_map]
 unfold c6 storedH
 rw[e]
 by_cases q:(atKey xs k).isSome=true
 ·rw[if_pos q,if_pos q];exact r.repl k a
 ·rw[if_neg q,if_neg q];exact Paired.snoc r ⟨rfl,d,a⟩
theorem KT.keeps{kvs:List (List cS×V)}{xs:List (List cS×Addr×Value)}(r:KT H kvs xs)(a:∀b ys,H b=some (.tup ys)->H' b=some (.tup ys)):KT H' kvs xs:=
 Paired.mapP r λ_ _ z=>⟨z.1,a _ _ z.2.1,z.2.2⟩
section
variable {P:Program} {h:Heap} {a:Addr}
theorem GI(ok:iL P w H h)(e:Rd H a u):bV P w H h a u:=e.ok ok
theorem sG {kvs:List (cS×V)}(ok:iL P w H h)(e:Rd H a (.dK kvs)):kvs.length<=sizeLine/\(a==sysModules)=false/\∃vs,KV kvs vs/\h.DictOf (bo P w) a vs:=
 show bV P w H h a (.dK kvs) from GI ok e
theorem Kf {kvs:List (cS×V)}(ok:iL P w H h)(e:H a=some (.dK kvs)):kvs.length<=sizeLine/\(a==sysModules)=false/\∃vs,KV kvs vs/\h.DictOf (bo P w) a vs:=sG ok (.inl e)
theorem ki(ok:iL P w H h)(e:H a=some (.tup (ks.map kV))):(tupleKind (bo P w)).is h ks a:=by
 obtain⟨_,b,r,o,h1,h2,n,c⟩:=(show bV P w H h a (.tup (ks.map kV)) from ok a _ e)
 exact⟨o,b.toArray,n,h1,h2,c,by simpa using oF r⟩
theorem rO {kvs:List (List cS×V)}(ok:iL P w H h)(e:Rd H a (.dT kvs)):kvs.length<=sizeLine/\(a==sysModules)=false/\
  ∃xs,KT H kvs xs/\h.DictOfH (tupleKind (bo P w)) a xs:=by
 obtain⟨z,y,xs,r,o,es,ep,h1,h2,c,b,d⟩:=(show bV P w H h a (.dT kvs) from GI ok e)
 refine⟨z,y,xs,r,o,es,ep,h1,h2,c,b,λx hx=>?_,d⟩
 have all:∀{l:List (List cS×V)} {m:List (List cS×Addr×Value)},KT H l m->∀x∈m,(tupleKind (bo P w)).is h x.1 x.2.1:=by
  intro l m q
  induction q with
  |nil=>intro x hx;exact nomatch hx
  | @cons p q ps qs hq t ih=>
   intro x hx
   rcases LS.mp hx with e|hx
   ·subst e
    exact ki ok (by rw[<-hq.1];exact hq.2.1)
   ·exact ih x hx
 exact all r x hx
theorem F8 {kvs:List (List cS×V)}(ok:iL P w H h)(e:H a=some (.dT kvs)):kvs.length<=sizeLine/\(a==sysModules)=false/\
  ∃xs,KT H kvs xs/\h.DictOfH (tupleKind (bo P w)) a xs:=rO ok (.inl e)
end
def jy (H:Hp) (a:Addr) (y:V) (r:Option V):Prop:=
 (∃kvs k,Rd H a (.dK kvs)/\y=kV k/\r=bX kvs k)\/∃kvs k b,Rd H a (.dT kvs)/\y=.ref b/\H b=some (.tup (k.map kV))/\r=bX kvs k
def lx (H:Hp) (a:Addr) (y v:V) (c:Hp):Prop:=
 (∃kvs k,H a=some (.dK kvs)/\y=kV k/\kvs.length<sizeLine/\c=upd H a (.dK (c6 kvs k v)))\/
 ∃kvs k b,H a=some (.dT kvs)/\y=.ref b/\H b=some (.tup (k.map kV))/\kvs.length<sizeLine/\c=upd H a (.dT (c6 kvs k v))
theorem jy.k {a:Addr}{kvs:List (cS×V)}{k:cS}(e:H a=some (.dK kvs)):jy H a (kV k) (bX kvs k):=.inl ⟨kvs,k,.inl e,rfl,rfl⟩
theorem lx.k {a:Addr}{kvs:List (cS×V)}{k:cS}{v:V}(e:H a=some (.dK kvs))(b:kvs.length<sizeLine):lx H a (kV k) v (upd H a (.dK (c6 kvs k v))):=.inl ⟨kvs,k,e,rfl,b,rfl⟩
theorem lx.t {a b:Addr}{kvs:List (List cS×V)}{k:List cS}{v:V}(e:H a=some (.dT kvs))(d:H b=some (.tup (k.map kV)))(c:kvs.length<sizeLine):
  lx H a (.ref b) v (upd H a (.dT (c6 kvs k v))):=.inr ⟨kvs,k,b,e,rfl,d,c,rfl⟩
section
variable {a:Addr} {y v:V} {u r:Value} {o:Option V}
theorem aJ.big (I:aJ X pins σ H s):sysModules<s.heap.objs.size:=by
 have h:mainGlobals<s.heap.objs.size:=(I.mod.glob.keeps I.bk).lt
 exact Nat.lt_trans (by decide) h
theorem y7(C:A.units+1<cLine)(I:aJ X pins σ H s)(g:jy H a y (some v))(r:aZ y u)(h:∀j s',aJ X pins σ H s'->aZ v j->Q j s'):
  wpAny (model X.prog X.w) A (getItem (.ref a) u) Q E s:=by
 rcases g with ⟨kvs,k,e,n,l⟩|⟨kvs,k,b,e,n,B,l⟩
 ·subst n
  obtain⟨z,hd,vs,c,m⟩:=sG I.hok e
  obtain⟨j,q,d⟩:=i9.some_of (v:=v) (o:=valueAt vs k) (by rw[l];exact c.val k)
  exact wpAny_getItem_of (rZ r) m.mapOf q (h j _ (I.tok _) d)
 ·subst n
  cases(show u=Value.ref b from r)
  obtain⟨z,hd,xs,c,m⟩:=rO I.hok e
  obtain⟨j,q,d⟩:=i9.some_of (v:=v) (o:=(atKey xs k).map (·.2)) (by rw[l];exact c.val k)
  obtain⟨p,x,f⟩:=MY.mp q
  refine wpAny_getItem_heap (tupleKind_room_in1 C) (ki I.hok B) m x ?_
  rw[f]
  exact h j _ (I.tok _) d
theorem KQ(n:A.units+1<cLine)(I:aJ X pins σ H s)(g:jy H a y o)(j:aZ y u)(h:∀s',aJ X pins σ H s'->Q (.bool o.isSome) s'):
  wpAny (model X.prog X.w) A (compareOp .In u (.ref a)) Q E s:=by
 rcases g with ⟨kvs,k,e,f,l⟩|⟨kvs,k,b,e,f,m,l⟩
 ·subst f
  obtain⟨z,hd,vs,c,d⟩:=sG I.hok e
  refine wpAny_in_of (rZ j) hd d.mapOf ?_
  rw[<-(c.val k).isSome_eq,<-l]
  exact h _ (I.tok _)
 ·subst f
  cases(show u=Value.ref b from j)
  obtain⟨z,hd,xs,c,d⟩:=rO I.hok e
  refine wpAny_in_heap (tupleKind_room_in1 n) (ki I.hok m) hd d ?_
  have q:=(c.val k).isSome_eq
  rw[Option.isSome_map] at q
  rw[<-q,<-l]
  exact h _ (I.tok _)
theorem qH(I:aJ X pins σ H s)(d:FR (H a))(f:Heap.SameBut a s.heap h')(g:∃q,h'.get? a=some q)(new:bV X.prog X.w (upd H a ob) h' a ob):
  aJ X pins σ (upd H a ob) {s with heap:=h',toks:=t'}:=
 I.write (x:=a) (e:=a) d (.inl rfl) (λb q c z=>(f.2 b c).trans z) g new
theorem CF{kvs:List (cS×V)}{vs:List (cS×Value)}(z:kvs.length<=sizeLine)(hd:(a==sysModules)=false)(b:KV kvs vs)(c:h'.DictOf (bo P w) a vs):
  bV P w H' h' a (.dK kvs):=⟨z,hd,vs,b,c⟩
theorem yH{Q:Unit->Shared->Prop}(K:A.units+1<cLine)(I:aJ X pins σ H s)(g:lx H a y v H')(G:aZ y u)(D:aZ v r)(h:∀s',aJ X pins σ H' s'->Q () s'):
  wpAny (model X.prog X.w) A (setItem (.ref a) u r) Q E s:=by
 rcases g with ⟨kvs,k,e,o,l,x⟩|⟨kvs,k,b,e,o,C,l,x⟩
 ·subst o x
  obtain⟨z,hd,vs,d,p⟩:=Kf I.hok e
  have n:vs.length<=sizeLine:=by rw[<-d.length];exact z
  have B:(c6 kvs k v).length<=sizeLine:=by have:=eK kvs k v;lia
  refine wpAny_setItem_pairs (hsz:=n) (rZ G) p λh' f m=>h _ ?_
  have N:∃q,h'.get? a=some q:=let ⟨q,_,_,j,_⟩:=f;⟨q,j⟩
  exact qH I (by rw[e];exact True.intro) m N (CF B hd (d.put k D) f)
 ·subst o x
  cases(show u=Value.ref b from G)
  obtain⟨z,hd,xs,d,p⟩:=F8 I.hok e
  have n:xs.length<=sizeLine:=by rw[<-Paired.length d];exact z
  have B:(c6 kvs k v).length<=sizeLine:=by have:=eK kvs k v;lia
  refine wpAny_setItem_heap (hsz:=n) (tupleKind_room_in1 K) (ki I.hok C) p λh' f m=>h _ ?_
  obtain⟨q,es,ep,j,h2,M,J,_,O⟩:=f
  refine qH I (by rw[e];exact True.intro) m ⟨q,j⟩ ⟨B,hd,_,(d.put k C D).keeps λc ys F=>?_,q,es,ep,j,h2,M,J,O⟩
  rw[ak (cQ F e (λz=>nomatch z))]
  exact F
end
def JJ (i:Expr):Prop:=∀b a,subscripted i false b a=operate [b,a] (getItem b a)
theorem EN {env:Env}{c b:Expr}{l:Pos}{T id:String}{Q:Value->Shared->Prop}
  (p:typeLookup (.type T) "__getitem__" =pure (some (.builtin id))) (n:JJ b)
  (h:wpAny (model prog w) A (eval c env) (λo f=>wpAny (model prog w) A (eval b env) (λi s₂=>s₂.TypeIs o T/\wpAny (model prog w) A (getItem o i) Q E s₂) E f) E s):
  wpAny (model prog w) A (eval (.Subscript c b l) env) Q E s:=by
 refine Subscript_ (Mp h (λo f g=>Mp g (λi s₂ d=>?_) λ_ _ x=>x) λ_ _ x=>x)
 obtain⟨m,d⟩:=d
 unfold subscriptTail
 refine LJ ?_
 rw[getitemInPython_of_ne m.not_modules]
 refine LJ (N3 m p ?_)
 have a:wpAny (model prog w) A (subscripted b false o i) (λr e=>wpAny (model prog w) A (letTemporaryGo c o r>>=λ_=>pure r) Q E e) E s₂:=by
  rw[n o i]
  exact wpAny_operating (Mp d (λr e j=>LJ (wpAny_letTemporaryGo (LM j))) λ_ _ x=>x)
 first
  |exact LM (LJ a)
  |exact LJ (LM (LJ a))
  |exact LJ a
theorem tR(I:aJ X pins σ H s)(g:jy H a y o):s.TypeIs (.ref a) "dict" :=by
 rcases g with ⟨kvs,k,e,_,_⟩|⟨kvs,k,b,e,_,_,_⟩
 ·obtain⟨_,_,vs,_,c⟩:=sG I.hok e
  exact c.typeIs
 ·obtain⟨_,_,xs,_,c⟩:=rO I.hok e
  exact c.typeIs
def wM (b ty:TE):TE:=λσ H Q=>b σ H λx H1=>ty σ H1 λy H2=>∃a v,x=.ref a/\jy H2 a y (some v)/\Q v H2
def D1 (ty b:TE):TE:=λσ H Q=>ty σ H λy H1=>b σ H1 λx H2=>∃a o,x=.ref a/\jy H2 a y o/\Q (.bl o.isSome) H2
def xO (b ty c:TE):TS:=λD σ H=>c σ H λv H1=>b σ H1 λx H2=>ty σ H2 λy H3=>∃a H4,x=.ref a/\lx H3 a y v H4/\D.nx σ H4
section
variable {o i e value:Expr} {pos pos' tpos:Pos} {td ty tv:TE}
theorem gV (l:X.A.units+1<cLine)(q:PE X o td)(c:PE X i ty)(d:JJ i):PE X (.Subscript o i pos) (wM td ty):=by
 intro pins s σ H Q I h
 refine EN PySem.F.slot_dict_getitem.lookup d (cy (q pins s σ H _ I h) λu p ⟨x,H1,I1,f,e⟩=>cy (c pins p σ H1 _ I1 e) λr z n=>?_)
 obtain⟨y,H2,I2,m,a,v,ex,g,j⟩:=n
 subst ex
 obtain rfl:u=Value.ref a:=f
 exact⟨tR I2 g,y7 l I2 g m λB w I3 b=>⟨v,H2,I3,b,j⟩⟩
theorem uV (j:X.A.units+1<cLine)(b:PE X i ty)(p:PE X o td):PC X .In i o (D1 ty td):=by
 intro pins s σ H Q I h
 refine cy (b pins s σ H _ I h) λq n ⟨y,H1,I1,l,c⟩=>cy (p pins n σ H1 _ I1 c) λu w m=>?_
 obtain⟨x,H2,I2,d,a,e,ex,g,f⟩:=m
 subst ex
 obtain rfl:u=Value.ref a:=d
 exact KQ j I2 g l λr I3=>⟨.bl e.isSome,H2,I3,rfl,f⟩
theorem i6 (p:X.A.units+1<cLine)(B:PE X o td)(b:PE X i ty)(e:PE X value tv)(c:swapsWith value (some (.Subscript o i pos')) pos.line X.env=pure false):
  PS X (.Assign [.Subscript o i pos'] value pos) (xO td ty tv):=by
 intro pins s σ H D I h
 refine wpAny_Assign_Subscript (cy (e pins s σ H _ I h) λr z ⟨v,H1,I1,f,d⟩=>cy (B pins z σ H1 _ I1 d) λu l ⟨x,H2,I2,j,n⟩=>cy (b pins l σ H2 _ I2 n) λC F w=>?_) c
 obtain⟨y,H3,I3,q,a,H4,ex,g,m⟩:=w
 subst ex
 obtain rfl:u=Value.ref a:=j
 exact yH p I3 g q f λE I4=>⟨σ,H4,I4,m⟩
end
theorem Ag(h:Heap)(a:sysModules<h.objs.size):bV P w H (h.push {cls:=.type "dict",data:=.dict #[]}) h.objs.size (.dK []):=
 ⟨L0 _,beq_eq_false_iff_ne.mpr (L8 (L3 a)),[],.nil,Heap.DictOf.new h⟩
theorem DD(h:Heap)(a:sysModules<h.objs.size):bV P w H (h.push {cls:=.type "dict",data:=.dict #[]}) h.objs.size (.dT []):=
 ⟨L0 _,beq_eq_false_iff_ne.mpr (L8 (L3 a)),[],.nil,_,#[],0,L4 _ rfl,⟨rfl,rfl,rfl⟩,rfl,rfl,NN⟩
def II:TE:=λ_ H Q=>∀p,H p=none->Q (.ref p) (upd H p (.dK []))
def IB:TE:=λ_ H Q=>∀p,H p=none->Q (.ref p) (upd H p (.dT []))
section
variable {pos:Pos}
theorem Bh:PE X (.Dict [] [] pos) II:=λpins s σ H Q I h=>
 wpAny_Dict_empty ⟨.ref s.heap.objs.size,_,I.laid (a:=s.heap.objs.size) (o:=.dK []) (t':=s.toks) (λ_ _ q=>LU _ q) (LL _) (Ag s.heap I.big),rfl,h _ (I.hok.fresh (LL _))⟩
theorem gx:PE X (.Dict [] [] pos) IB:=λpins s σ H Q I h=>
 wpAny_Dict_empty ⟨.ref s.heap.objs.size,_,I.laid (a:=s.heap.objs.size) (o:=.dT []) (t':=s.toks) (λ_ _ q=>LU _ q) (LL _) (DD s.heap I.big),rfl,h _ (I.hok.fresh (LL _))⟩
end
structure M1 (X:Cx) (o:Expr) (m:Str) (apos:Pos) (e:Expr) (cpos:Pos):Prop where
 base:attributeBase o m X.env (eval o X.env)=eval o X.env
 few:((backTo cpos (starEach [e] X.env)).all (λx=>!x.1)&&(backToKw cpos (keywordEach [] X.env)).all (λx=>x.1.isSome)
  &&decide (([e]:List Expr).length+([]:List Keyword).length+(if ([]:List Keyword).isEmpty then 0 else 1)<30))=true
 line:(apos.endLine==cpos.line)=true
 trees:backTo cpos (starEach [e] X.env)=[(false,eval e X.env)]
section
variable {a:Addr} {kvs:List (cS×V)}
theorem B_(I:aJ X pins σ H s)(e:Rd H a (.dK kvs))(h:∀p s',H p=none->aJ X pins σ (upd H p (.dK kvs)) s'->Q (.ref p) s'):wpAny (model X.prog X.w) A (call (.type "dict") [.ref a]) Q E s:=by
 obtain⟨z,hd,vs,c,j⟩:=sG I.hok e
 refine kt_call_dict hd j (by rw[<-c.length];exact z) λh' d g=>?_
 refine h _ _ (I.hok.fresh (LL _)) (I.laid (a:=s.heap.objs.size) (o:=.dK kvs) (t':=s.toks) (λb q f=>?_) (LL _) (CF z (beq_eq_false_iff_ne.mpr (L8 (L3 I.big))) c d))
 exact(g.2 b (L3 (LW f))).trans (LU _ f)
end
end L2
namespace Att
open PySem PySem.W PySem.Calls PyProof.Rows
theorem lA {P:Params}:∀(ns:List Int) (vs:List Value),WellAll P h vs (ns.map WData.int)->IntsAre vs ns:=by
 intro ns
 induction ns with
 |nil=>
  intro vs w
  cases w
  exact .nil
 |cons n ns ih=>
  intro vs w
  cases w with
  |cons a b=>
   cases a
   exact .cons _ _ (ih _ b)
theorem ym {l:OpenLaw}(s:l.most=some n){P:Params}{h:Heap}{args:List WData}{f:List Value}
  (e:l.row.toRowW.claim.pre args=true) (m:WellAll P h f args):
  ∃a vs ns,f=[Value.ref a]/\args=[WData.list (ns.map WData.int)]/\h.get? a=some {cls:=.type "list",data:=.seq vs.toArray}/\IntsAre vs ns/\ns.length<=n:=by
 have c:WShape.hasAll [] args [.list .int]=true:=(pre_splitW e).1
 have o:l.pre.holds [] {args:=args}=true:=(pre_splitW e).2
 obtain⟨d,r,rfl,h1,h2⟩:=hasAllW_cons c
 obtain rfl:=hasAllW_nil h2
 obtain⟨xs,rfl,p⟩:=hasW_list h1
 obtain⟨ns,rfl⟩:=items_int p
 have b:ns.length<=n:=by
  have g:(WTm.not (.lt (.lit (.int (n:Int))) (.len (.arg 0)))).holds [] {args:=[.list (ns.map .int)]}=true:=by
   have g:=(holds_andW o).1
   rw[s] at g
   exact g
  have j:=condW_of g (w_not (w_lt w_lit (w_len_list (w_arg rfl))))
  refine Nat.le_of_not_lt λq=>?_
  first
   |(rw[decide_eq_true q'] at j;exact absurd j (by decide))
   |(simp at j;lia)
 cases m with
 |cons w1 w2=>
  cases w2
  cases w1 with
  |list ho hall=>exact⟨_,_,ns,rfl,rfl,ho,lA ns _ hall,b⟩
theorem zB (l:OpenLaw)(args:List WData):l.row.toRowW.claim.post args (.bool true) args=true:=
 postW_of (r:=l.row.toRowW) (X:=(true==true))
  (show WShape.has [] (.bool true) .bool=true by first|rfl|decide|simp[WShape.has,WShape.arms,WShape.armsAll])
  (show(WTm.eq .res (.lit (.bool true))).value [] {args:=args,res:=some (.bool true),after:=args}=some (.bool (true==true)) from w_eq_bool (w_res rfl) w_lit) rfl
theorem attach_call {l:OpenLaw}{E:(Str->Option Value)->Heap->Prop}{D:World->Heap->Prop}{d:DefRec}
  (K:l.most=some n) (x:d.params.defaults=[])
  (call:∀(w:World) (h g:Shared) (mg u:Str->Option Value) (p:Addr) (o:Obj) (z s j:Value) (a:Addr) (vs:List Value) (ns:List Int),
   Ground q loose [] E w h mg u g.heap->D w g.heap->
   g.heap.get? p=some o->o.data=.func (docDef d.name d.params d.body d.scope z s j)->g.heap.CodeRec s d.name->mg d.name=some (.ref p)->
   g.heap.get? a=some {cls:=.type "list",data:=.seq vs.toArray}->IntsAre vs ns->ns.length<=n->g.gens= #[]->
   codeAny (model l.prog w) callerA (.call (.ref p) ⟨[.ref a],[]⟩) (λr s'=>r=.ok (.ret (.bool true))/\OldK g.heap s'.heap/\s'.os=g.os/\AllBare s'.gens) g):
  WalkO q loose E D l.row.toRowW d [] (λf vs=>PySem.call f vs):=by
 intro w h g mg u G Y p o z s j O kV M hd B H y hg I F as m C N A R
 obtain rfl:O=.none:=Dflts.none H x
 obtain rfl:kV=.none:=Dflts.noKw H
 obtain⟨a,vs,ns,rfl,rfl,e,b,c⟩:=ym K m A
 refine enter_call (codeAny_mono (call w h g mg u p o z s j a vs ns G Y M (fd_plain hd) B y e b c hg) λr s' P=>?_)
 obtain⟨rfl,h2,S,J⟩:=P
 exact⟨.inl ⟨.bool true,.bool true,[],rfl,λ_=>rfl,.bool true,zB l _,λ_=>⟨List.Pairwise.nil,λ_ Q=>(nomatch Q)⟩⟩,h2,S,J⟩
section
variable {K:Frag}
def noObjs (h:Heap):Heap:={h with objs:= #[]}
theorem noObjs_get (h:Heap)(b:Addr):(noObjs h).get? b=none:=by
 cases e:(noObjs h).get? b with
 |none=>rfl
 |some o=>exact absurd (LW e) (Nat.not_lt_zero _)
theorem fr_all{L:Addr}(n:h.Ns L m):Fr (noObjs h) L h m:=
 ⟨n,λb o e=>(by rw[noObjs_get] at e;cases e),L0 _⟩
end
end Att
namespace L2
open PySem PySem.Spec PyProof.Rows
variable {X:Cx} {pins:List (Addr×Obj)} {σ:St} {H:Hp} {s:Shared} {prog:Program} {w:World} {A:Around} {E:Value->Shared->Prop} {K:LO} {mg:Str->Option Value} {base:Heap}
theorem pB:∀{vs:List Value} {ns:List Int},IntsAre vs ns->aW (ns.map V.int) vs
 |_,_,.nil=> .nil
 |_,_,.cons n t h=> .cons ⟨t,rfl⟩ (pB h)
def Iy (H:Hp):Prop:=∀b,H b=none\/∃o xs,H b=some (.frz o (.lst xs))
theorem zW {P:Program}{N:Str->Option Value}{CX:DP}{k:Nat}{O a:Addr}{fd:FuncData}{x:Str}{sp:Sp}{s₁:Shared}{vs:List Value}{ns:List Int}
  (X:K.In s₁.heap) (I:s₁.heap.Ns mainGlobals mg) (B:s₁.heap.Ns builtinsNs N) (S:∀x:Str,x≠ "__name__" ->N x=bootBuiltins x) (E:s₁.heap.NoLimit) (hg:s₁.gens= #[])
  (J:s₁.heap.get? a=some {cls:=.type "list",data:=.seq vs.toArray}) (T:IntsAre vs ns) (hl:ns.length<=sizeLine) (hr:bL k callerA)
  (F:∀base:Heap,K.In base->base.Ns mainGlobals mg->fz P w K mg base CX k O fd [x] sp) (C:∀(s:Shared) (u:Value),BindsTo s fd ⟨[u],[]⟩ [(x,u)])
  (M:∀H:Hp,Iy H->aF K H a (ns.map V.int)->sp [.ref a] H (λv _=>v=.bl true) λ_ _ _=>False)
  (Q:∀H e s',CX [] H s₁ (λ_ _ _=>False) e s'->False):
  codeAny (model P w) callerA (.call (.ref O) ⟨[.ref a],[]⟩) (λr s'=>r=.ok (.ret (.bool true))/\OldK s₁.heap s'.heap/\s'.os=s₁.os/\AllBare s'.gens) s₁:=by
 have Y:=pB T
 have y:=T.length
 have g:∀H:Hp,Iy H->aF K H a (ns.map V.int)->iL P w H s₁.heap->(∀b,H b≠none->b=a)->(H a≠none->K.lookup a=none)->
   codeAny (model P w) callerA (.call (.ref O) ⟨[.ref a],[]⟩) (λr s'=>r=.ok (.ret (.bool true))/\OldK s₁.heap s'.heap/\s'.os=s₁.os/\AllBare s'.gens) s₁:=by
  intro H Z hS D U hK
  have c:∀{b:Addr} {o:Obj},s₁.heap.get? b=some o->H b=none->(qo s₁.heap H).get? b=some o:=λe n=>CJ e n
  have A:∀{b:Addr} {o:Obj} {es:Array DictEntry} {ep:Nat},s₁.heap.get? b=some o->o.data=.dict es ep->H b=none:=fun{b o es ep} e d=>by
   cases q:H b with
   |none=>rfl
   |some u=>
    have R:b=a:=U b (by rw[q];simp)
    subst R
    rw[J] at e;cases e
    have d':Data.seq vs.toArray _=Data.dict es ep:=d
    cases d'
  have f:∀{b:Addr} {m:Str->Option Value},s₁.heap.Ns b m->(qo s₁.heap H).Ns b m:=fun{b m} ⟨o,es,ep,e,d,r⟩=>⟨o,es,ep,c e (A e d),d,r⟩
  have j:K.In (qo s₁.heap H):=λb o e=>c (X b o e) (by
   cases q:H b with
   |none=>rfl
   |some u=>
    have R:b=a:=U b (by rw[q];simp)
    subst R
    rw[hK (by rw[q];simp)] at e;cases e)
  have hM:Mod K mg (qo s₁.heap H):=⟨j,f I,⟨N,f B,S⟩,let ⟨mc,h1,h2⟩:=E;⟨mc,f h1,h2⟩⟩
  have e0:vh P w K mg (qo s₁.heap H) callerA [] s₁ H:=⟨rfl,hM,λb o e=>EZ e,Nat.le_of_eq (yq _ _),trivial,λb B=>absurd (show b∈([]:List Addr) from B) (by simp),D,.of_eq hg⟩
  refine codeAny_mono ((F _ j (f I)).run callerA [] s₁ H ⟨[.ref a],[]⟩ [.ref a] [.ref a] _ _ hr e0 (C s₁ (.ref a)) (.cons rfl .nil) (M H Z hS)) λr s' h=>?_
  cases r with
  |error e=>exact(Q H e s' h).elim
  |ok fl=>
   cases fl with
   |next=>exact False.elim h
   |brk=>exact False.elim h
   |cont=>exact False.elim h
   |ret u=>
    obtain⟨v,H',os,p,un,l,r',q⟩:=h
    have q':v=.bl true:=q
    subst q'
    obtain rfl:u=Value.bool true:=r'
    refine⟨rfl,OldK.of_keep λb o e=>?_,os,p⟩
    cases q:H b with
    |none=>exact un.keep b o e q (by intro z;exact absurd (show b∈([]:List Addr) from z) (by simp)) (by simp)
    |some u=>
     rcases Z b with z|⟨ob,xs,z⟩
     ·rw[q] at z;cases z
     ·have z2:=un.frzs b ob _ z
      obtain⟨W,_⟩:=D b _ z
      obtain⟨e2,_⟩:=l b _ z2
      rw[e] at W;cases W
      exact e2
 cases hk:K.lookup a with
 |some o=>
  have e:=X a o hk
  rw[J] at e
  cases e
  refine g (λ_=>none) (λ_=> .inl rfl) (.inr ⟨_,vs.toArray,_,hk,rfl,rfl,rfl,by rw[Ma,y];exact hl,by simpa using Y⟩) (λb u z=>by have G:(none:Option HO)=some u:=z;cases G) (λb z=>absurd rfl z) λz=>absurd rfl z
 |none=>
  refine g (λb=>if b=a then some (.frz {cls:=.type "list",data:=.seq vs.toArray} (.lst (ns.map V.int))) else none) (λb=>?_) (.inl (.inr ⟨{cls:=.type "list",data:=.seq vs.toArray},if_pos rfl⟩)) (λb u z=>?_) (λb z=>?_) λ_=>hk
  ·by_cases B:b=a
   ·exact .inr ⟨_,_,if_pos B⟩
   ·exact .inl (if_neg B)
  ·by_cases B:b=a
   ·have G:=(if_pos B).symm.trans z
    cases G
    subst B
    exact⟨J,by rw[LK];exact hl,vs,_,Y,J⟩
   ·have G:=(if_neg B).symm.trans z
    cases G
  ·by_cases B:b=a
   ·exact B
   ·exact absurd (if_neg B) z
theorem walk_of {l:PySem.W.OpenLaw}{M:(Str->Option Value)->Heap->Prop}{D:World->Heap->Prop}{d:DefRec}{K:Params->LO}{CX:World->DP}{sp:World->Sp}
  (O:l.most=some n) (C:n<=sizeLine) (z:d.params.defaults=[]) (J:bL k callerA)
  (Q:∀(w:World) (h:Heap),D w h->(K w.params).In h)
  (F:∀(w:World) (mg:Str->Option Value) (r:Addr) (h:Heap),(K w.params).In h->h.Ns mainGlobals mg->mg d.name=some (.ref r)->
   ∃fd:FuncData,(∀(s:Shared) (u:Value),BindsTo s fd ⟨[u],[]⟩ [(x,u)])/\
    ∀base:Heap,(K w.params).In base->base.Ns mainGlobals mg->fz l.prog w (K w.params) mg base (CX w) k r fd [x] (sp w))
  (y:∀(w:World) (H:Hp) (a:Addr) (ns:List Int),ns.length<=n->Iy H->aF (K w.params) H a (ns.map V.int)->sp w [.ref a] H (λv _=>v=.bl true) λ_ _ _=>False)
  (B:∀(w:World) (H:Hp) (s:Shared) (e:Value) (s':Shared),CX w [] H s (λ_ _ _=>False) e s'->False):
  PySem.W.WalkO q loose M D l.row.toRowW d [] (λf vs=>PySem.call f vs):=by
 refine Att.attach_call O z λw E p mg Z r o pm cd N a vs ns G Y ho hd U A m j c hg=>?_
 have I:=Q w _ Y
 obtain⟨fd,R,P⟩:=F w mg r _ I G.T.g A
 exact zW I G.T.g G.T.b G.T.builtins G.T.nolimit hg m j (LR c C) J P R (λH S X=>y w H a ns c S X) λH e s'=>B w H p e s'
noncomputable def dS (s:Stmt) (j:Nat):Stmt:=match s with
 | .ClassDef _ _ _ body _ _ _ _ _ _ _=>body.getD j (.Pass ⟨0,0,0,0⟩)
 |_=> .Pass ⟨0,0,0,0⟩
noncomputable def cq (s:Stmt):Arguments:=match s with
 | .FunctionDef _ a _ _ _ _ _ _ _ _=>a
 |_=>{posonlyargs:=[],args:=[],vararg:=none,kwonlyargs:=[],kw_defaults:=[],kwarg:=none,defaults:=[]}
noncomputable def bP (s:Stmt):List Stmt:=match s with
 | .FunctionDef _ _ b _ _ _ _ _ _ _=>b
 |_=>[]
noncomputable def aM (s:Stmt):Scope:=match s with
 | .FunctionDef _ _ _ _ _ _ sc _ _ _=>sc
 |_=>{kind:=.function,names:=[],isGenerator:=false,isCoroutine:=false}
abbrev n8:DP:=λ_ _ _ _ _ _=>False
abbrev E0:XK:=λ_ _ _=>False
theorem kQ:jj n8 X E0:=λ_ _ _ _ _ _ _ h=>h.elim
structure Gu (K:LO) (x qual:Str) (st:Stmt) (f:Addr) (fd:FuncData):Prop where
 ex:∃(oc:Value) (od:Option Addr) (kV doc pm:Value) (an:Option Addr) (cdv ct:Value) (osl:Array (Option Value)),
  fd=Mh x qual (cq st) (bP st) (aM st) .none kV doc pm an cdv ct/\K.lookup f=some ⟨oc,od,.func fd,osl⟩/\MO K cdv qual=true
 kp:Mv K (.ref f)=true
section
variable {P:Program}
theorem Gu.ok {x e:Str}{st:Stmt}{f:Addr}{fd:FuncData}{N ps:List Str}{k:Nat}{sp:Sp}(F:Gu K x e st f fd)(S:fE N ps (aM st))(len:∀vs H Q E,sp vs H Q E->vs.length=ps.length)
  (j:∀(g:Value) (A:Around) (d:List Env) (s:Shared) (H:Hp) (vs:List V) (Q:VK) (E:XK),bL k (A.deeper (envOfC e (aM st) s.heap.objs.size f g))->sp vs H Q E->
   ∃t,nV (qZ n8 P w K mg base N e (aM st) f g A d s H E).nox (bP st) t/\t {nx:=λ_ H'=>Q .non H',rt:=Q} (h_ N vs) H):fz P w K mg base n8 (k+1) f fd ps sp:=by
 obtain⟨o,u,kV,c,p,r,g,n,b,rfl,m,a⟩:=F.ex
 refine F9 m a S len λA d s H vs Q E hr l=>?_
 obtain⟨t,h,q⟩:=j g A d s H vs Q E hr l
 exact⟨t,h.nox,q⟩
theorem Gu.binds{st:Stmt}(F:Gu K x qual st f fd)
  (h:∀(kV d l:Value) (e:Option Addr) (c j:Value) (g:List Value),g.length=ps.length->bindArgs (Mh x qual (cq st) (bP st) (aM st) .none kV d l e c j) ⟨g,[]⟩=pure (ps.zip g)):cC K fd ps []:=by
 obtain⟨n,o,kV,d,l,e,c,j,a,rfl,m,b⟩:=F.ex
 exact .all (h kV d l e c j)
theorem vA{st:Stmt}{a:Array (Option Value)}{kV:Value}(l:K.lookup f=some ⟨oc,od,.func (Mh x qual (cq st) (bP st) (aM st) .none kV doc pm an cdv ct),a⟩)
  (c:MO K cdv qual=true) (k:Mv K (.ref f)=true):Gu K x qual st f (Mh x qual (cq st) (bP st) (aM st) .none kV doc pm an cdv ct):=⟨⟨oc,od,kV,doc,pm,an,cdv,ct,a,rfl,l,c⟩,k⟩
end
theorem fI(h:n<=1000):n<sizeLine:=N4 h (by decide)
theorem eF {A B:Prop}(h:B):if false=true then A else B:=by
 exact h
theorem i_ {A B:Prop}(h:A):if true=true then A else B:=by
 exact h
def ah (H a:Hp):Prop:=∀b o,H b=some o->a b=some o
theorem ah.refl (H:Hp):ah H H:=λ_ _ h=>h
theorem ah.trans(a:ah H H1)(b:ah H1 H2):ah H H2:=λc o h=>b c o (a c o h)
theorem ah.free(e:ah H H'){l:Addr}(h:H' l=Option.none):H l=Option.none:=by
 cases q:H l with
 |none=>rfl
 |some o=>
  rw[e l o q] at h
  cases h
theorem ah.seq {b:Hp}{a:Addr}{xs:List V}(e:ah H b)(h:aF K H a xs):aF K b a xs:=by
 rcases h with (h|⟨o,h⟩)|h
 ·exact .inl (.inl (e _ _ h))
 ·exact .inl (.inr ⟨o,e _ _ h⟩)
 ·exact .inr h
def Cr (_ j:Int):Prop:=0<j/\j<2^200
theorem K7(h:Cr i j):Builtin.divisionGoesByPylong i j=false:=by
 refine PyProof.noPylong_of_log2 ?_
 obtain⟨h1,h2⟩:=h
 have a:j.natAbs≠0:=by omega
 have b:j.natAbs<2^200:=by omega
 have:=(Nat.log2_lt a).mpr b
 omega
theorem dz:gy X (binaryOp .FloorDiv) (rI Cr λi j=> .int (i/j)):=Ky λi j _ _ _ _ _ a q=>by
 have h1:(0:Int)<j:=a.1
 exact floordiv_int (by lia) (by rw[Int.fdiv_eq_ediv_of_nonneg i (by lia)];exact q) (.inl (K7 a))
inductive zd:V->Value->Prop where
 |ty (n:String):zd (.ty n) (.type n)
 |ref (C:Addr):zd (.ref C) (.ref C)
theorem bF:cT X (.builtin "isinstance") (λxs H Q=>∃x y c t b,xs=[x,y]/\zd y c/\gS X.K H x t/\Mf X.K t c=some b/\Q (.bl b) H):=by
 intro pins s σ H xs j Q I r h
 obtain⟨x,y,c,t,b,rfl,g,ty,e,q⟩:=h
 obtain⟨u,f,rfl,a,d⟩:=kW r
 cases g with
 |ty n=>
  cases(show f=Value.type n from d)
  exact ph I a ty e λtk=>⟨.bl b,H,I.tok _,rfl,q⟩
 |ref C=>
  cases(show f=Value.ref C from d)
  exact ph I a ty e λtk=>⟨.bl b,H,I.tok _,rfl,q⟩
theorem sM{it:Value}(I:Nat->Shared->Prop)(E:Value->Shared->Prop)
  (q:∀e s',E e s'->notedBy (model prog w) A env (λe s'=>R (.error e) s') e s')
  (z:∀n s,I n s->wpAny (model prog w) A (pyNext it) (λr b=>match r with
   |none=>R (.ok .next) b
   |some v=>wpAny (model prog w) A (letOwnedTupleGo target it v) (λ_ d=>wpAny (model prog w) A (assign target env v) (λ_ l=>
     wpAny (model prog w) A (forIn ifs true λc r=>if r=true then do let ok<-isTrue c env (eval c env);pure (ForInStep.yield ok) else pure (ForInStep.yield r)) (λok a=>
      if ok=true then wpAny (model prog w) A (eval elt env) (λx o=>
       wpAny (model prog w) A (call (.builtin "list.append") [acc,x]) (λ_ j=>∃m,m<n/\I m j) E o) E a
      else∃m,m<n/\I m a) E l) E d) E b) E s)
  (n:Nat) (h:I n s):codeAny (model prog w) A (.compLoop (.ListComp elt [⟨target,iter,ifs,0⟩] scope pos) 0 it acc env) R s:=by
 refine codeAny_loop rfl I (λn s C=>?_) n h
 refine wpAny_noted ?_
 refine LJ (wpAny_standAt (LJ (Mp (z n s C) (λr b f=>?_) q)))
 cases r with
 |none=>exact LM f
 |some v=>
  refine LJ (Mp f (λ_ d p=>?_) q)
  refine LJ (Mp p (λ_ l B=>LJ (Mp B (λok a g=>?_) q)) q)
  cases ok with
  |false=>exact LM ⟨rfl,g⟩
  |true=>
   exact LJ (LJ (Mp g (λx o u=>LJ (Mp u (λ_ j y=>LM (LM ⟨rfl,y⟩)) q)) q))
theorem iy:∀(f:List (Str×NameKind)) (b:List (Str×Addr)),(∀y∈f,y.2=.free->∃c,env.cells.lookup y.1=some c)->(∀x c,b.lookup x=some c->env.cells.lookup x=some c)->
  ∃cl,(forIn f b (λ(x:Str×NameKind) (r:List (Str×Addr))=>(if (x.2==NameKind.free)=true then (do let a<-cellOf env x.1;pure (ForInStep.yield ((x.1,a)::r))) else pure (ForInStep.yield r):Sem (ForInStep (List (Str×Addr))))))=(pure cl:Sem (List (Str×Addr)))/\
   (∀x c,cl.lookup x=some c->env.cells.lookup x=some c)/\(∀x c,b.lookup x=some c->∃q,cl.lookup x=some q)/\∀y∈f,y.2=.free->∃c,cl.lookup y.1=some c
 |[],b,_,ha=>⟨b,rfl,ha,λx c e=>⟨c,e⟩,λ_ h=>nomatch h⟩
 |(n,k)::r,b,hf,ha=>by
  have l:∀y∈r,y.2=.free->∃c,env.cells.lookup y.1=some c:=λy hy=>hf y (LZ _ hy)
  by_cases hk:k=.free
  ·subst hk
   obtain⟨c,u⟩:=hf (n,.free) LX rfl
   have m:env.cells.lookup n=some c:=u
   have o:∀x d,((n,c)::b).lookup x=some d->env.cells.lookup x=some d:=λx d e=>by
    rw[Mw] at e
    cases hx:x==n with
    |true=>rw[hx] at e;cases e;rw[beq_iff_eq.mp hx];exact m
    |false=>rw[hx] at e;exact ha x d e
   obtain⟨cl,e,h1,h2,p⟩:=iy r ((n,c)::b) l o
   have g:((n,c)::b).lookup n=some c:=by rw[Mw,beq_self_eq_true]
   refine⟨cl,?_,h1,λx d ex=>?_,λy hy j=>?_⟩
   ·rw[List.forIn_cons]
    have s:cellOf env n=pure c:=by unfold cellOf;rw[m]
    show((if (NameKind.free==NameKind.free)=true then (do let a<-cellOf env n;pure (ForInStep.yield ((n,a)::b))) else pure (ForInStep.yield b):Sem _)>>=_)=_
    rw[if_pos (by decide),s]
    exact e
   ·cases hx:x==n with
    |true=>rw[beq_iff_eq.mp hx];exact h2 n c g
    |false=>exact h2 x d (by rw[Mw,hx];exact ex)
   ·rcases LS.mp hy with rfl|hy
    ·exact h2 n c g
    ·exact p y hy j
  ·obtain⟨cl,e,h1,h2,p⟩:=iy r b l ha
   refine⟨cl,?_,h1,h2,λy hy j=>?_⟩
   ·rw[List.forIn_cons]
    rw[if_neg (by simpa using hk)]
    exact e
   ·rcases LS.mp hy with rfl|hy
    ·exact absurd j hk
    ·exact p y hy j
theorem mF(h:∀y∈scope.names,y.2=.free->∃c,env.cells.lookup y.1=some c):
  ∃cl,closureFor scope env=pure cl/\(∀x c,cl.lookup x=some c->env.cells.lookup x=some c)/\∀y∈scope.names,y.2=.free->∃c,cl.lookup y.1=some c:=by
 obtain⟨cl,e,h1,_,d⟩:=iy (env:=env) scope.names [] h (λx c e=>nomatch e)
 refine⟨cl,?_,h1,d⟩
 have b:closureFor scope env=((forIn scope.names [] (λ(x:Str×NameKind) (r:List (Str×Addr))=>(if (x.2==NameKind.free)=true then (do let a<-cellOf env x.1;pure (ForInStep.yield ((x.1,a)::r))) else pure (ForInStep.yield r):Sem (ForInStep (List (Str×Addr))))))>>=λr=>pure r):=rfl
 rw[b,e]
 rfl
theorem jK {env:Env}(b:env.scope.kind=.function):∀{a:List (Str×NameKind)} {x:Str},a.lookup x=some .free->env.kindOf x=some .cell->
  (a.map λ(n,k)=>if (k==NameKind.free&&env.scope.kind==.function&&env.kindOf n==some .cell) then (n,NameKind.cell) else (n,k)).lookup x=some .cell
 |[],_,h,_=>by simp at h
 |(n,k)::r,x,h,hc=>by
  have c:= @jK env b r x
  show Nf x ((if (k==NameKind.free&&env.scope.kind==.function&&env.kindOf n==some .cell)=true then (n,NameKind.cell) else (n,k))::_)=_
  cases hx:x==n with
  |true=>
   simp only[Mw,hx] at h
   cases h
   have e:x=n:=beq_iff_eq.mp hx
   subst e
   rw[if_pos (by rw[b,hc];decide)]
   simp only[Mw,hx]
  |false=>
   simp only[Mw,hx] at h
   by_cases hq:(k==NameKind.free&&env.scope.kind==.function&&env.kindOf n==some .cell)=true
   ·rw[if_pos hq];simp only[Mw,hx];exact c h hc
   ·rw[if_neg hq];simp only[Mw,hx];exact c h hc
theorem jP {env:Env}:∀{a:List (Str×NameKind)} {x:Str} {k:NameKind},
  (a.map λ(n,k)=>if (k==NameKind.free&&env.scope.kind==.function&&env.kindOf n==some .cell) then (n,NameKind.cell) else (n,k)).lookup x=some k->∃b,a.lookup x=some b/\(k=b\/b=.free)
 |[],_,_,h=>by simp at h
 |(n,k1)::r,x,k,h=>by
  have h:Nf x ((if (k1==NameKind.free&&env.scope.kind==.function&&env.kindOf n==some .cell)=true then (n,NameKind.cell) else (n,k1))::(r.map λ(n,k)=>if (k==NameKind.free&&env.scope.kind==.function&&env.kindOf n==some .cell) then (n,NameKind.cell) else (n,k)))=some k:=h
  cases hx:x==n with
  |true=>
   by_cases hq:(k1==NameKind.free&&env.scope.kind==.function&&env.kindOf n==some .cell)=true
   ·have:k1=.free:=by
     rw[MD,MD] at hq
     simpa using hq.1.1
    exact⟨k1,by simp only[Mw,hx],.inr this⟩
   ·rw[if_neg hq] at h
    simp only[Mw,hx] at h
    exact⟨k1,by simp only[Mw,hx],.inl (Option.some.inj h).symm⟩
  |false=>
   have h':(r.map λ(n,k)=>if (k==NameKind.free&&env.scope.kind==.function&&env.kindOf n==some .cell) then (n,NameKind.cell) else (n,k)).lookup x=some k:=by
    by_cases hq:(k1==NameKind.free&&env.scope.kind==.function&&env.kindOf n==some .cell)=true
    ·rw[if_pos hq] at h;simp only[Mw,hx] at h;exact h
    ·rw[if_neg hq] at h;simp only[Mw,hx] at h;exact h
   obtain⟨b,e,z⟩:=jP h'
   exact⟨b,by simp only[Mw,hx];exact e,z⟩
noncomputable def cO (X:Cx) (N:List Str) (scope:Scope) (cl:List (Str×Addr)) (C:Addr) (s:Shared) (H:Hp) (fp:List Addr):Cx:=
 {X with N:=N,s₀:=s,H₀:=H,env:=compEnvC scope cl C X.env,outer:=X.stack,ex:=fp,fn:=λ_=>false,pn:=[],xe:=λ_ _=>False}
structure fe (X:Cx) (scope:Scope) (ls ys:List Str) (ix:List Nat):Prop where
 kind:scope.kind=.function
 nocellB:(scope.names.all λy=>y.2 !=.cell)=true
 locB:(scope.names.all λy=>y.2 !=.local||scope.names.lookup y.1==some .local)=true
 freeB:(scope.names.all λy=>y.2 !=.free||X.env.kindOf y.1==some .cell)=true
 ylkB:(ys.all λy=>scope.names.lookup y==some .free)=true
 yix:ix.map (λj=>X.N[j]?)=ys.map some
section
variable {scope:Scope} {ls ys:List Str} {ix:List Nat}
theorem fe.nocell (ok:fe X scope ls ys ix):∀y∈scope.names,y.2≠.cell:=λy a=>by
 simpa using NB.mp ok.nocellB y a
theorem fe.loc (ok:fe X scope ls ys ix):∀y∈scope.names,y.2=.local->scope.names.lookup y.1=some .local:=λy a e=>by
 have h:=NB.mp ok.locB y a
 rw[e] at h
 simpa using h
theorem fe.free (ok:fe X scope ls ys ix):∀y∈scope.names,y.2=.free->X.env.kindOf y.1=some .cell:=λy a e=>by
 have h:=NB.mp ok.freeB y a
 rw[e] at h
 simpa using h
theorem fe.ylk (ok:fe X scope ls ys ix):∀y∈ys,scope.names.lookup y=some .free:=λy a=>by
 simpa using NB.mp ok.ylkB y a
end
noncomputable def BS (n:Nat) (a:List Nat) (b:St):St:=List.replicate n none++a.map λj=>(b[j]?).join
section
variable {scope:Scope} {ls ys:List Str} {ix:List Nat} {cl:List (Str×Addr)} {fp:List Addr}
theorem Ff(I:aJ X pins σ H s)(ok:fe X scope ls ys ix)(A:∀x c,cl.lookup x=some c->X.env.cells.lookup x=some c)
  (B:∀y∈scope.names,y.2=.free->∃c,cl.lookup y.1=some c) (D:∀b∈fp,kC X pins H b) (G:∀b∈fp,b<s.heap.objs.size)
  (K:h₁.Ns s.heap.objs.size m) (F:∀b o,s.heap.get? b=some o->h₁.get? b=some o):
  aJ (cO X (ls++ys) scope cl s.heap.objs.size s H fp) [] (BS ls.length ix σ) H {s with heap:=h₁,toks:=tk}:=by
 have a:∀x,scope.names.lookup x=some .free->X.env.kindOf x=some .cell:=λx e=>ok.free (x,.free) (PySem.mem_of_lookup e) rfl
 refine⟨⟨I.ok.mod,ok.kind,I.ok.glob,I.ok.blt,LL _,λx y c h1 h2=>I.ok.inj x y c (A x c h1) (A y c h2),λx hx=>?_,λx c hx _=>absurd hx L6,I.ok.hd,I.ok.frames,.inl rfl,
  λb C=>⟨L3 (G b C),λx c e=>(D b C).2.2.2.2.1 x c (A x c e)⟩,I.bs,LR I.ok.bsz I.sz,λb o e C=>?_,λb C z=>?_,I.stack,I.stkFree⟩,
  rfl,I.bare,Un.kept F,⟨m,K,λi x v h1 h2 h3=>?_⟩,λx c e=>?_,I.fresh,λx c e=>I.freeC x c (A x c e),λp S=>absurd (show p∈([]:List (Addr×Obj)) from S) (by simp),I.hok.kept F,?_⟩
 ·have e:∃k,(relabel scope X.env).names.lookup x=some k/\(k=.cell\/k=.free):=by
   rcases hx with hx|hx
   ·exact⟨_,hx,.inl rfl⟩
   ·exact⟨_,hx,.inr rfl⟩
  obtain⟨k,e,g⟩:=e
  obtain⟨R,U,z⟩:=jP e
  have P:=PySem.mem_of_lookup U
  have h:R=.free:=by
   rcases z with z|z
   ·rcases g with q|q
    ·exact absurd (z.symm.trans q) (ok.nocell _ P)
    ·exact z.symm.trans q
   ·exact z
  exact B _ P h
 ·obtain⟨Z,q2,Y,q4,_⟩:=D b C
  rcases q4 with q4|q4
  ·exact I.ok.noex b o e q4
  ·exact absurd (Me (LW e) (LR I.ok.bsz q4)) (ML _)
 ·rcases LS.mp (I.stkSub b z) with q|q
  ·exact(D b C).2.1 q
  ·exact(D b C).2.2.1 q
 ·have h1:(ls++ys)[i]?=some x:=h1
  have h2:(List.replicate ls.length none++ix.map λj=>(σ[j]?).join)[i]?=some (some v):=h2
  by_cases hi:i<ls.length
  ·rw[Of (by rw[Nz];exact hi),List.getElem?_replicate,if_pos hi] at h2
   cases h2
  ·rw[Ny (by rw[Nz];lia),Nz,L7] at h2
   rw[Ny (by lia)] at h1
   cases e:ix[i - ls.length]? with
   |none=>rw[e] at h2;cases h2
   |some j=>
    rw[e] at h2
    have h2:(σ[j]?).join=some v:=Option.some.inj h2
    have J:σ[j]?=some (some v):=by
     cases q:σ[j]? with
     |none=>rw[q] at h2;cases h2
     |some z=>rw[q] at h2;exact congrArg some h2
    have Q:X.N[j]?=some x:=by
     have q:=congrArg (λl=>l[i - ls.length]?) ok.yix
     simp only[L7,e,h1,NW] at q
     exact Option.some.inj q
    have O:=ok.ylk x (L9 h1)
    have M:=a x O
    obtain⟨W,w,n⟩:=I.loc
    obtain⟨u,r,E⟩:=n j x v Q J (.inr (.inl M))
    refine⟨u,r,?_⟩
    rcases E with ⟨E,_⟩|⟨_,c,T,z⟩
    ·rw[M] at E;cases E
    ·obtain⟨c',f⟩:=B _ (PySem.mem_of_lookup O) rfl
     have d:X.env.cells.lookup x=some c':=A x c' f
     rw[T] at d
     cases d
     exact .inr ⟨.inl (jK I.ok.kind O M),c,f,z.keeps F⟩
 ·obtain⟨v,z⟩:=I.cell x c (A x c e)
  exact⟨v,z.keeps F⟩
 ·show(List.replicate ls.length none++ix.map λj=>(σ[j]?).join).length=(ls++ys).length
  have q:=congrArg List.length ok.yix
  rw[LK,LK] at q
  rw[LP,LP,Nz,LK,q]
end
def PF (X:Cx) (a:List Expr) (t:TT):Prop:=
 ∀(pins:List (Addr×Obj)) (s:Shared) (σ:St) (H:Hp) (Q:Bool->Hp->Prop),aJ X pins σ H s->t σ H Q->
  wpAny (model X.prog X.w) X.A (forIn a true λc r=>if r=true then do let ok<-isTrue c X.env (eval c X.env);pure (ForInStep.yield ok) else pure (ForInStep.yield r)) (TP X pins σ Q) X.xe s
def k_:TT:=λ_ H Q=>Q true H
theorem bj:PF X [] k_:=λ_ _ _ H _ I h=>wpAny_tests_nil ⟨H,I,h⟩
theorem mD(h:PT X c t):PF X [c] t:=λpins s σ H Q I a=>wpAny_tests_one (h pins s σ H Q I a)
def tW (e:St) (g:TG) (j:TT) (te:TE) (J:It) (l:Hp) (D:Addr) (Q:Hp->Prop):Prop:=
 ∃W:Nat->Nat->St->Hp->Prop,(∃m,W 0 m e (upd l D (.lst [])))/\∀i m f H,W i m f H->
  (J.stop i H/\Q H)\/(J.go i H/\∃N:St->Hp->Prop,(∀d H',N d H'->∃h,h<m/\W (i+1) h d H')/\∀x H',J.yld i H x H'->g x f H' λa H2=>j a H2 λb H3=>
   if b=true then te a H3 λv H4=>∃c,H4 D=some (.lst c)/\c.length<sizeLine/\N a (upd H4 D (.lst (c++[v]))) else N a H3)
def K9 (a:TI) (n:Nat) (b:List Nat) (g:TG) (c:TT) (te:TE):TE:=λσ H Q=>a σ H λJ H1=>∀D,H1 D=none->tW (BS n b σ) g c te J H1 D λH'=>Q (.ref D) H'
def uc (a:TI) (n:Nat) (b:List Nat) (g:TG) (c:TT) (te:TE) (i:Nat):TS:=λD σ H=>K9 a n b g c te σ H λx H1=>D.nx (σ.set i (some x)) H1
section
variable {scope:Scope} {ls ys:List Str} {ix:List Nat} {tg iter elt:Expr} {ifs:List Expr} {pos:Pos} {wi:TI} {g:TG} {tt:TT} {te:TE}
theorem tN{it:Addr}{tn:Nat->Heap->Prop}{cl:List (Str×Addr)}{Q:Addr->Hp->Prop}{R:Value->Addr->Result->Shared->Prop}(hc:X.calm=true)
  (ok:fe X scope ls ys ix) (I:aJ X pins σ H1 s) (T:nO X.prog X.w X.K tg J fp it tn) (st:tn 0 s.heap) (f2:∀b∈fp,kC X pins H1 b)
  (am:∀x c,cl.lookup x=some c->X.env.cells.lookup x=some c) (a4:∀y∈scope.names,y.2=.free->∃c,cl.lookup y.1=some c)
  (hg:∀cl C s H fp,PG (cO X (ls++ys) scope cl C s H fp) tg g) (ht:∀cl C s H fp,PF (cO X (ls++ys) scope cl C s H fp) ifs tt) (he:∀cl C s H fp,PE (cO X (ls++ys) scope cl C s H fp) elt te)
  (hJ:∀D,H1 D=none->tW (BS ls.length ix σ) g tt te J H1 D (Q D))
  (hR:∀D C H' s',Q D H'->aJ X pins σ H' s'->H' C=none->kC X pins H' C->(∃m,s'.heap.Ns C m)->R (.ref D) C (.ok .next) s'):
  wpAny (model X.prog X.w) X.A (newList []) (λab a0=>wpAny (model X.prog X.w) X.A (newFunctionEnv scope X.env.globals cl [] X.env.qual none .none (some X.env)) (λan a2=>
   codeAny (model X.prog X.w) X.A (.compStart (.ListComp elt [⟨tg,iter,ifs,0⟩] scope pos) 0 (.ref it) ab {an with scope:=relabel scope X.env}) (R ab an.locals) a2) E a0) E s:=by
 have f:∀b∈fp,b<s.heap.objs.size:=λb U=>by
  obtain⟨o,e,_⟩:=T.obj _ _ st b U
  exact LW e
 have I3:=I.lnew (ys:=[]) (its:=[]) (t':=s.toks) .nil (L0 _)
 have hD:H1 s.heap.objs.size=none:=I.fresh
 obtain⟨W,⟨m0,w0⟩,O⟩:=hJ s.heap.objs.size hD
 refine NO (wpAny_newFunctionEnv ok.nocell (by intro y hy;simp at hy) (λh₁ q l=>?_) ok.kind)
 generalize bi:({s with heap:=s.heap.push {cls:=.type "list",data:=.seq ([]:List Value).toArray},toks:=s.toks}:Shared)=s3 at I3
 have e3:s.heap.push {cls:=.type "list",dict:=none,data:=.seq ([]:List Value).toArray}=s3.heap:=by rw[<-bi]
 generalize bd:upd H1 s.heap.objs.size (.lst [])=H3 at I3 w0
 have K:s3.heap.objs.size=s.heap.objs.size+1:=by rw[<-e3,Mz]
 have F:∀b o,s.heap.get? b=some o->s3.heap.get? b=some o:=λb o e=>by rw[<-e3];exact LU _ e
 have f3:∀b∈fp,kC X pins H3 b:=λb U=>by
  refine⟨?_,(f2 b U).2⟩
  rw[<-bd,ak (L3 (f b U))]
  exact(f2 b U).1
 have q:h₁.Ns s3.heap.objs.size (λx=>([]:List (Str×Value)).reverse.lookup x):=by rw[<-e3];exact q
 have l:Heap.SameBut s3.heap.objs.size (s3.heap.push {cls:=.type (if (some X.env).isSome then "dict" else "frame"),data:=.dict #[]}) h₁:=by rw[<-e3];exact l
 have z:∀b o,s3.heap.get? b=some o->h₁.get? b=some o:=λb o e=>l.extBut b o (L3 (LW e)) (LU _ e)
 have Ic:=Ff (tk:=s3.toks) I3 ok am a4 f3 (λb U=>by rw[K];exact N5 (f b U)) q z
 have a:∀{H':Hp} {pl:List (Addr×Obj)},(∀b∈fp,H' b=none)->pl=[]->∀b∈fp,kC (cO X (ls++ys) scope cl s3.heap.objs.size s3 H3 fp) pl H' b:=fun{H' pl} hn a7 b U=>by
  subst a7
  refine⟨hn b U,L3 (by rw[show(cO X (ls++ys) scope cl s3.heap.objs.size s3 H3 fp).env.locals=s3.heap.objs.size from rfl,K];exact N5 (f b U)),Ic.ok.exfs b U,.inl U,λx c e=>(f3 b U).2.2.2.2.1 x c (am x c e),λp hp=>absurd (show p∈([]:List (Addr×Obj)) from hp) (by simp)⟩
 have j:codeAny (model X.prog X.w) X.A (.compLoop (.ListComp elt [⟨tg,iter,ifs,0⟩] scope pos) 0 (.ref it) (.ref s.heap.objs.size) (compEnvC scope cl s3.heap.objs.size X.env)) (R (.ref s.heap.objs.size) s3.heap.objs.size) {s3 with heap:=h₁,toks:=s3.toks}:=by
  refine sM (λn s'=>∃i Z H',aJ (cO X (ls++ys) scope cl s3.heap.objs.size s3 H3 fp) [] Z H' s'/\tn i s'.heap/\(∀b∈fp,H' b=none)/\W i n Z H') (λ_ _=>False) (λ_ _ h=>h.elim) ?_ m0
   ⟨0,BS ls.length ix σ,H3,Ic,T.keep _ _ _ st (λb _ o e=>z b o (F b o e)),λb U=>(f3 b U).1,w0⟩
  rintro n s4 ⟨i,Z,H4,I4,G,A,w4⟩
  rcases O i n Z H4 w4 with ⟨a3,qn⟩|⟨go,N,hN,step⟩
  ·refine cy (T.done (cO X (ls++ys) scope cl s3.heap.objs.size s3 H3 fp) rfl rfl rfl hc i [] s4 Z H4 (λ_ _=>False) I4 (a A rfl) G a3) λr s5 ⟨hr,I5⟩=>?_
   subst hr
   have Io:aJ X pins σ H4 s5:=I3.call' (ch:=fp) I5.os I5.base I5.hok I5.bare λb U=>⟨(f3 b U).2.2.2.1,(f3 b U).2.1,(f3 b U).2.2.2.2.1,(f3 b U).2.2.2.2.2⟩
   obtain⟨m5,n5,_⟩:=I5.loc
   have hC:H4 s3.heap.objs.size=none:=I5.free
   exact hR _ _ H4 s5 qn Io hC (I3.fpOk (LL _) hC) ⟨m5,n5⟩
  ·refine cy (T.item (cO X (ls++ys) scope cl s3.heap.objs.size s3 H3 fp) rfl rfl rfl hc i [] s4 Z H4 (λ_ _=>False) I4 (a A rfl) G go) λr s5 z9=>?_
   obtain⟨u,hr,h5⟩:=z9
   subst hr
   refine cy h5 λ_ s6 z9=>?_
   obtain⟨x,H6,I6,r6,y6,w,S⟩:=z9
   have bl:=I6.pinned (a S rfl) (T.obj _ _ w)
   have B:∀{Y:St} {H7:Hp} {s7:Shared},aJ (cO X (ls++ys) scope cl s3.heap.objs.size s3 H3 fp) ([]++mY fp s6.heap) Y H7 s7->N Y H7->∃m,m<n/\∃i Z H',aJ (cO X (ls++ys) scope cl s3.heap.objs.size s3 H3 fp) [] Z H' s7/\tn i s7.heap/\(∀b∈fp,H' b=none)/\W i m Z H':=fun{Y H7 s7} I7 n7=>by
    obtain⟨m',hm,w7⟩:=hN Y H7 n7
    refine⟨m',hm,i+1,Y,H7,I7.unpinned,T.keep _ _ _ w λb U o e=>(I7.pin (b,o) (MC _ (MC _ (gQ U e)))).1,λb U=>?_,w7⟩
    obtain⟨o,e,d⟩:=T.obj _ _ w b U
    exact(I7.pin (b,o) (MC _ (MC _ (gQ U e)))).2.1
   refine cy (hg _ _ _ _ _ _ s6 Z H6 x u _ bl r6 (step x H6 y6)) λ_ s7 z9=>?_
   obtain⟨Y,H7,I7,q7⟩:=z9
   refine cy (ht _ _ _ _ _ _ s7 Y H7 _ I7 q7) λb s8 z9=>?_
   obtain⟨H8,I8,q8⟩:=z9
   cases b with
   |false=>
    exact B I8 q8
   |true=>
    refine cy (he _ _ _ _ _ _ s8 Y H8 _ I8 q8) λy s9 z9=>?_
    obtain⟨v,H9,I9,r9,ab,P,M,n9⟩:=z9
    exact cy (dD _ s9 Y H9 (.ref s.heap.objs.size) [v] (.ref s.heap.objs.size) [y] (λ_ H'=>N Y H') I9 rfl (.cons r9 .nil) ⟨_,ab,v,rfl,rfl,P,M,n9⟩) λ_ cB ⟨_,H10,I10,_,bb⟩=>B I10 bb
 exact codeAny_compStart_list j (T.self _ 0 _ _ _ (T.keep _ _ _ st (λb _ o e=>z b o (F b o e))) j)
theorem Jf (S:X.calm=true)(ok:fe X scope ls ys ix)(p:PI X tg iter wi)
  (U:∀cl C s H fp,PG (cO X (ls++ys) scope cl C s H fp) tg g) (B:∀cl C s H fp,PF (cO X (ls++ys) scope cl C s H fp) ifs tt) (u:∀cl C s H fp,PE (cO X (ls++ys) scope cl C s H fp) elt te)
  (r:∀x,foldedSetIterable iter X.env x=pure x:=by intro _;rfl):PE X (.ListComp elt [⟨tg,iter,ifs,0⟩] scope pos) (K9 wi ls.length ix g tt te):=by
 intro pins s σ H Q I h
 obtain⟨cl,a,c,d⟩:=mF (scope:=scope) (env:=X.env) λy M z=>I.ok.has y.1 (.inl (ok.free y M z))
 refine wpAny_comprehension_free (use:=none) rfl r a ok.kind ok.loc (cy (p pins s σ H _ I h) λv Z h1=>cy h1 λF W h2=>?_)
 obtain⟨it,fp,Y,J,H2,rfl,I2,T,f,N,P⟩:=h2
 refine tN (R:=λn C=>compPost (model X.prog X.w) X.A X.xe none (EP X pins σ Q) n C) S ok I2 T f N c d U B u P λD C H' s' q I' K j G=>?_
 obtain⟨m,E⟩:=G
 refine⟨m,E,λh' l=>⟨.ref D,H',?_,rfl,q⟩⟩
 exact I'.turned (t':=s'.toks) (λb o O e=>(l.2 b O).trans e) K j.2.1 j.2.2.2.1 j.2.2.2.2.1 j.2.2.2.2.2
theorem Aj(hc:X.calm=true)(hN:X.N.Nodup)(E:X.N[i]?=some x)(hx:IP X.env.scope x)(ok:fe X scope ls ys ix)(G:PI X tg iter wi)
  (hg:∀cl C s H fp,PG (cO X (ls++ys) scope cl C s H fp) tg g) (P:∀cl C s H fp,PF (cO X (ls++ys) scope cl C s H fp) ifs tt) (M:∀cl C s H fp,PE (cO X (ls++ys) scope cl C s H fp) elt te)
  (K:∀x,foldedSetIterable iter X.env x=pure x:=by intro _;rfl) (r:swapsWith (.ListComp elt [⟨tg,iter,ifs,0⟩] scope pos) (some (.Name x px)) spos.line X.env=pure true:=by rfl)
  (z:X.fn x=true\/X.env.scope.names.lookup x=some .local):
  PS X (.Assign [.Name x px] (.ListComp elt [⟨tg,iter,ifs,0⟩] scope pos) spos) (uc wi ls.length ix g tt te i):=by
 intro pins s σ H D I h
 obtain⟨cl,c,d,f⟩:=mF (scope:=scope) (env:=X.env) λy hy z=>I.ok.has y.1 (.inl (ok.free y hy z))
 rw[exec_Assign_Name_used _ _ _ _ r]
 refine LJ (wpAny_standAt (LJ ?_))
 refine LJ (Mp (wpAny_comprehension_free (use:=some (assign (.Name x px) X.env)) (Q:=λ_ s'=>∃n H',aJ X pins n H' s'/\D.nx n H') rfl K c ok.kind ok.loc
  (cy (G pins s σ H _ I h) λv s1 h1=>cy h1 λU F h2=>?_)) (λ_ s' W=>LM (LM W)) λ_ _ e=>e)
 obtain⟨it,fp,tn,J,H2,rfl,I2,T,l,f2,hJ⟩:=h2
 refine tN (R:=λB C=>compPost (model X.prog X.w) X.A X.xe (some (assign (.Name x px) X.env)) (λ_ s'=>∃n H',aJ X pins n H' s'/\D.nx n H') B C) hc ok I2 T l f2 d f hg P M hJ λDa C H' s' q I' Z p Y=>?_
 obtain⟨m,S⟩:=Y
 refine wpAny_assign_Name (oP (v:=.ref Da) I' hN E hx rfl (λF I3 O=>?_) z)
 obtain⟨a,sb,ha⟩:=O
 have j:C≠a:=by
  rcases ha with ha|ha
  ·rw[ha];exact p.2.1
  ·exact L8 (p.2.2.2.2.1 x a ha)
 refine⟨m,S.sameBut sb j,λh' u=>⟨_,H',?_,q⟩⟩
 exact I3.turned (t':=F.toks) (λb o hb e=>(u.2 b hb).trans e) Z p.2.1 p.2.2.2.1 p.2.2.2.2.1 p.2.2.2.2.2
end
def Ev (t:TE) (a:St) (H:Hp) (v:V):Prop:=∀Q:VK,Q v H->t a H Q
def ic (t:TT) (a:St) (H:Hp) (b:Bool):Prop:=∀Q:Bool->Hp->Prop,Q b H->t a H Q
def nk (t:TA) (a:St) (H:Hp) (vs:List V):Prop:=∀Q:List V->Hp->Prop,Q vs H->t a H Q
section
variable {ta tb tc te:TE} {t u:TT} {i j k:Int} {a b c:Bool} {v x y:V}
theorem ar:Ev (tC v) σ H v:=λ_ q=>q
theorem aa(h:σ[n]?=some (some v)):Ev (cR n) σ H v:=λ_ q=>⟨v,h,q⟩
theorem aQ {g:Int->Int->V}(b:Ev ta σ H (.int i))(a:Ev tb σ H (.int j)):Ev (fv (r8 g) ta tb) σ H (g i j):=λ_ q=>b _ (a _ ⟨i,j,rfl,rfl,q⟩)
theorem rF (b:Ev ta σ H (.int i))(a:Ev tb σ H (.int j)):Ev (fv (r8 λi j=> .bl (decide (i<j))) ta tb) σ H (.bl (decide (i<j))):=aQ (g:=λi j=> .bl (decide (i<j))) b a
theorem Jq (b:Ev ta σ H (.int i))(a:Ev tb σ H (.int j)):Ev (fv (r8 λi j=> .bl (decide (i<=j))) ta tb) σ H (.bl (decide (i<=j))):=aQ (g:=λi j=> .bl (decide (i<=j))) b a
theorem rS (b:Ev ta σ H (.int i))(a:Ev tb σ H (.int j)):Ev (fv (r8 λi j=> .bl (decide (j<i))) ta tb) σ H (.bl (decide (j<i))):=aQ (g:=λi j=> .bl (decide (j<i))) b a
theorem wR (b:Ev ta σ H (.int i))(a:Ev tb σ H (.int j)):Ev (fv (r8 λi j=> .bl (decide (j<=i))) ta tb) σ H (.bl (decide (j<=i))):=aQ (g:=λi j=> .bl (decide (j<=i))) b a
theorem cz {C:Int->Int->Prop}{g:Int->Int->V}(b:Ev ta σ H (.int i))(a:Ev tb σ H (.int j))(c:C i j):Ev (fv (rI C g) ta tb) σ H (g i j):=λ_ q=>b _ (a _ ⟨i,j,rfl,rfl,c,q⟩)
theorem fU (b:Ev ta σ H (.int i))(a:Ev tb σ H (.int j)):Ev (fv Km ta tb) σ H (.bl (decide (i=j))):=λQ q=>b _ (a _ ⟨rfl,by
 have e:decide (V.int i=V.int j)=decide (i=j):=by rw[lU];rfl
 rw[e];exact q⟩)
theorem iz (b:Ev ta σ H (.int i))(a:Ev tb σ H (.int j)):Ev (fv Kh ta tb) σ H (.bl (!decide (i=j))):=λQ q=>b _ (a _ ⟨rfl,by
 have e:decide (V.int i=V.int j)=decide (i=j):=by rw[lU];rfl
 rw[e];exact q⟩)
theorem CK (d:Ev ta σ H (.bl a))(c:Ev tb σ H (.bl b)):Ev (fv Kh ta tb) σ H (.bl (a !=b)):=λQ q=>d _ (c _ ⟨rfl,by
 have e:(!decide (V.bl a=V.bl b))=(a !=b):=by rw[vJ];rfl
 rw[e];exact q⟩)
theorem cP {p q:Int->Int->Bool}(c:Ev ta σ H (.int i))(a:Ev tb σ H (.int j))(b:Ev tc σ H (.int k)):Ev (vg (r8 λi j=> .bl (p i j)) (r8 λi j=> .bl (q i j)) ta tb tc) σ H (.bl (p i j&&q j k)):=λQ z=>by
 refine c _ (a _ ⟨i,j,rfl,rfl,p i j,rfl,?_⟩)
 cases e:p i j with
 |true=>rw[if_pos rfl];rw[e,Bool.true_and] at z;exact b _ ⟨j,k,rfl,rfl,z⟩
 |false=>rw[if_neg L6];rw[e,Bool.false_and] at z;exact z
theorem jf (d:Ev ta σ H (.bl a))(c:a=true->Ev tb σ H (.bl b)):Ev (CP ta tb) σ H (.bl (a&&b)):=λQ z=>by
 refine d _ ⟨a,rfl,?_⟩
 cases a with
 |true=>rw[if_pos rfl];exact c rfl _ z
 |false=>rw[if_neg L6];exact z
theorem Jk (d:Ev ta σ H (.bl a))(c:a=false->Ev tb σ H (.bl b)):Ev (Jn ta tb) σ H (.bl (a||b)):=λQ z=>by
 refine d _ ⟨a,rfl,?_⟩
 cases a with
 |true=>rw[if_pos rfl];exact z
 |false=>rw[if_neg L6];exact c rfl _ z
theorem HQ (b:Ev ta σ H (.bl a)):Ev (GG ta) σ H (.bl (!a)):=λ_ z=>b _ ⟨a,rfl,z⟩
theorem fc(b:Ev ta σ H (.ref p))(a:Ev tb σ H (.int i))(c:bW K H p xs)(d:jq xs i=some v):Ev (fv (nW K) ta tb) σ H v:=λ_ q=>b _ (a _ ⟨p,xs,i,v,rfl,rfl,c,d,q⟩)
theorem cM(b:Ev ta σ H (.ref p))(a:Ev tb σ H (.int i))(c:aF K H p xs)(d:jq xs i=some v):Ev (fv (ow K) ta tb) σ H v:=λ_ q=>b _ (a _ ⟨p,xs,i,v,rfl,rfl,c,d,q⟩)
theorem qk (b:Ev ta σ H x)(a:Ev tb σ H .non):Ev (fv (λx y H Q=>y=.non/\Q (.bl (decide (x=.non))) H) ta tb) σ H (.bl (decide (x=.non))):=λ_ z=>b _ (a _ ⟨rfl,z⟩)
theorem pX {sp:Sp}{a vs:List V}{E:XK}{t:TA}(c:nk t σ H vs)(b:∀Q:VK,Q v H->sp (vs++a) H Q E):Ev (dY sp a E t) σ H v:=λQ q=>c _ (b Q q)
theorem de {r:List V->Hp->VK->Prop}{vs:List V}{t:TA}(a:nk t σ H vs)(b:∀Q:VK,Q v H->r vs H Q):Ev (nM r t) σ H v:=λQ q=>a _ (b Q q)
theorem ao:nk dw σ H []:=λ_ q=>q
theorem af {t:TA}{vs:List V}(a:Ev ta σ H v)(b:nk t σ H vs):nk (a8 ta t) σ H (v::vs):=λ_ q=>a _ (b _ q)
theorem aB (h:Ev te σ H (.bl b)):ic (jD te) σ H b:=λ_ q=>h _ ⟨b,rfl,q⟩
theorem ji (h:Ev te σ H (.bl b)):ic (tB te) σ H b:=λ_ q=>h _ ⟨b,rfl,q⟩
theorem jo (h:ic t σ H b):ic (zi t) σ H (!b):=λ_ q=>h _ q
theorem vk (d:ic t σ H a)(c:a=true->ic u σ H b):ic (zj t u) σ H (a&&b):=λQ z=>by
 refine d _ ?_
 cases a with
 |true=>rw[if_pos rfl];exact c rfl _ z
 |false=>rw[if_neg L6];exact z
theorem fR (d:ic t σ H a)(c:a=false->ic u σ H b):ic (Hf t u) σ H (a||b):=λQ z=>by
 refine d _ ?_
 cases a with
 |true=>rw[if_pos rfl];exact z
 |false=>rw[if_neg L6];exact c rfl _ z
theorem gF {a:TT}{t u:TS}{D:fX}(h:ic a σ H b)(h1:b=true->t D σ H)(c:b=false->u D σ H):mW a t u D σ H:=by
 refine h _ ?_
 cases b with
 |true=>rw[if_pos rfl];exact h1 rfl
 |false=>rw[if_neg L6];exact c rfl
theorem nj {a:TT}{t u:TS}{D:fX}(h:ic a σ H b)(c:b=false)(d:u D σ H):mW a t u D σ H:=gF h (λe=>absurd (c.symm.trans e) L6) λ_=>d
theorem qJ(h:Ev te σ H v)(q:D.nx (σ.set n (some v)) H):kO te (cJ n) D σ H:=h _ q
theorem cU(h:Ev te σ H v)(q:D.rt v H):Fy te D σ H:=h _ q
end
theorem DV(h1: -(2^64)<j)(a:j<2^64):EY i j:=.inr ⟨h1,a⟩
theorem Lm(h1:0<j)(a:j<2^200):Cr i j:=⟨h1,a⟩
theorem Kk(h1:0<=j)(b:j<=1000000)(a:i.natAbs<2^64):J_ i j:=⟨h1,b,a⟩
theorem IG:bootBuiltins "int" =some (.type "int"):=by decide+kernel
theorem Ep:bootBuiltins "bool" =some (.type "bool"):=by decide+kernel
theorem Bv:bootBuiltins "str" =some (.type "str"):=by decide+kernel
theorem mh:bootBuiltins "tuple" =some (.type "tuple"):=by decide+kernel
theorem jz:bootBuiltins "list" =some (.type "list"):=by decide+kernel
theorem Ha:bootBuiltins "zip" =some (.type "zip"):=by decide+kernel
theorem st {t:TS}{D:fX}{r:VK}{b c:St->Hp->Prop}(h:t D σ H):({nx:=t D,rt:=r,bk:=b,ct:=c}:fX).nx σ H:=h
section
variable {te:TE} {tc:TT} {t u:TS} {ta:TA} {D:fX} {b:Bool} {v:V} {vs:List V} {n:Nat}
theorem c8 (h:Ev te σ H v)(q:u D (σ.set n (some v)) H):eU (kO te (cJ n)) u D σ H:=h _ q
theorem c9 (h:ic tc σ H b)(a:b=false)(q:u D σ H):eU (mW tc t mZ) u D σ H:=nj (D:={D with nx:=u D}) h a q
theorem eX (h:ic tc σ H b)(h1:b=true->t {D with nx:=u D} σ H)(a:b=false->u D σ H):eU (mW tc t mZ) u D σ H:=gF (D:={D with nx:=u D}) h h1 a
theorem gj (h:nk ta σ H vs)(hz:vs.length<=sizeLine)(q:∀p,H p=none->u D (σ.set n (some (.ref p))) (upd H p (.lst vs))):eU (kO (yS ta) (cJ n)) u D σ H:=h _ ⟨hz,q⟩
theorem vD (h:nk ta σ H vs)(hz:vs.length<=sizeLine)(q:∀p,H p=none->u D (σ.set n (some (.ref p))) (upd H p (.tup vs))):eU (kO (nQ ta) (cJ n)) u D σ H:=h _ ⟨hz,q⟩
theorem mS(h:Ev te σ H (.ref p))(a:bW K H p [x,y,z])(q:u D (((σ.set i (some x)).set j (some y)).set k (some z)) H):
  eU (kO te (Ip K 3 (xU (cJ i) (xU (cJ j) (xU (cJ k) JY))))) u D σ H:=h _ ⟨p,_,rfl,a,rfl,_,_,rfl,_,_,rfl,_,_,rfl,rfl,q⟩
theorem ox(q:tc σ H λb H1=>if b=true then t D σ H1 else u D σ H1):mW tc t u D σ H:=q
theorem qf (q:tc σ H λb H1=>if b=true then t {D with nx:=u D} σ H1 else u D σ H1):eU (mW tc t mZ) u D σ H:=q
theorem gn(q:Q (σ.set n (some v)) H):cJ n v σ H Q:=q
end
structure aA (P:Program) (w:World) (K:LO) (mg:Str->Option Value) (base:Heap) (x:Str) (k:Nat) (ps:List Str) (sp:Sp):Prop where
 ex:∃f fd,fz P w K mg base n8 k f fd ps sp/\mg x=some (.ref f)/\Mv K (.ref f)=true/\cC K fd ps []
theorem HU(C:aA X.prog X.w X.K X.mg X.base x k ps sp)(d:bL k X.A)(m:Gl X x)(h:PA X (e::es) t)
  (b:(x==("__debug__" :Str))=false:=by decide) (j:starEach (e::es) X.env=(false,eval e X.env)::starEach es X.env:=by rfl) (a:(backTo pos (starEach es X.env)).any (·.1)=false:=by rfl):
  PE X (.Call (.Name x p) (e::es) [] pos) (dY sp [] E0 t):=by
 obtain⟨f,fd,G,g,l,c⟩:=C.ex
 exact EK G d m g l c .nil kQ h b j a
theorem bW.same {b:Hp}{a:Addr}{xs:List V}(e:ah H b)(h:bW K H a xs):bW K b a xs:=by
 rcases h with (h|⟨o,h⟩)|h
 ·exact .inl (.inl (e _ _ h))
 ·exact .inl (.inr ⟨o,e _ _ h⟩)
 ·exact .inr h
theorem ah.upd(e:ah H H'){p:Addr}{o:HO}(a:H' p=none):ah H (upd H' p o):=λb u h=>by
 rw[ak (ax (e b u h) a)]
 exact e b u h
theorem ml {o:Int}{n:Nat}{h:St}{g:TG}{j:TT}{te:TE}{l:Hp}{D:Addr}{Q:Hp->Prop}(d:Nat->St->Hp->Prop)(h0:d 0 h (upd l D (.lst [])))
  (q:∀i a H,i<n->d i a H->g (.int (o+i)) a H λc H2=>j c H2 λb H3=>
   if b=true then te c H3 λv H4=>∃f,H4 D=some (.lst f)/\f.length<sizeLine/\d (i+1) c (upd H4 D (.lst (f++[v]))) else d (i+1) c H3)
  (hd:∀a H,d n a H->Q H):tW h g j te (yw o n) l D Q:=by
 refine⟨λi m a H=>m=n - i/\i<=n/\d i a H,⟨n,by simp,L0 _,h0⟩,?_⟩
 rintro i m a H ⟨rfl,hi,p⟩
 by_cases hlt:i<n
 ·refine .inr ⟨hlt,d (i+1),λs H' r=>⟨n - (i+1),by lia,rfl,hlt,r⟩,λx H' y=>?_⟩
  obtain⟨e,y⟩:=y
  subst e y
  exact q i a _ hlt p
 ·have e:i=n:=by lia
  subst e
  exact .inl ⟨LL _,hd a H p⟩
theorem cL {a:Addr}{xs:List V}{j:St}{g:TG}{l:TT}{te:TE}{n:Hp}{D:Addr}{Q:Hp->Prop}(f:Nat->St->Hp->Prop)(h0:f 0 j (upd n D (.lst [])))
  (u:∀i c H,i<=xs.length->f i c H->aF K H a xs)
  (o:∀i x c H,xs[i]?=some x->f i c H->g x c H λd H2=>l d H2 λb H3=>
   if b=true then te d H3 λv H4=>∃h,H4 D=some (.lst h)/\h.length<sizeLine/\f (i+1) d (upd H4 D (.lst (h++[v]))) else f (i+1) d H3)
  (hd:∀c H,f xs.length c H->Q H):tW j g l te (nL K a) n D Q:=by
 refine⟨λi m c H=>m=xs.length - i/\i<=xs.length/\f i c H,⟨xs.length,by simp,L0 _,h0⟩,?_⟩
 rintro i m c H ⟨rfl,hi,p⟩
 have q:=u i c H hi p
 by_cases hlt:i<xs.length
 ·refine .inr ⟨⟨xs,xs[i],q,by simp[hlt]⟩,f (i+1),λs H' r=>⟨xs.length - (i+1),by omega,rfl,hlt,r⟩,λx H' y=>?_⟩
  obtain⟨e,y⟩:=y
  subst e
  exact o i x c _ (y xs q) p
 ·have e:i=xs.length:=by omega
  subst e
  exact .inl ⟨⟨xs,q,LL _⟩,hd c H p⟩
theorem bV.there(x:bV P w H h a o):∃ob,h.get? a=some ob:=by
 cases o with
 |lst xs=>obtain⟨_,_,_,_,e⟩:=x;exact⟨_,e⟩
 |tup xs=>obtain⟨_,_,_,ob,e,_⟩:=x;exact⟨_,e⟩
 |dK kvs=>obtain⟨_,_,_,_,o,_,_,e,_⟩:=x;exact⟨_,e⟩
 |dT kvs=>obtain⟨_,_,_,_,o,_,_,e,_⟩:=x;exact⟨_,e⟩
 |set S n=>obtain⟨o,_,_,_,e,_⟩:=x;exact⟨_,e⟩
 |ins C dx fs=>obtain⟨_,_,_,e,_⟩:=x;exact⟨_,e⟩
 |own y=>exact x
 |xd fs=>obtain⟨_,⟨_,_,_,e,_⟩,_⟩:=x;exact⟨_,e⟩
 |rng lo hi=>obtain⟨_,_,_,e⟩:=x;exact⟨_,e⟩
 |frz ob u=>obtain⟨e,_⟩:=x;exact⟨_,e⟩
 |tbl ps=>exact⟨_,(show h.get? a=some _ from x)⟩
 |met f y=>exact⟨_,(show h.get? a=some _ from x)⟩
 |ext φ=>exact x.2.1
theorem iL.none_of(x:iL P w H h)(e:h.get? a=none):H a=none:=by
 cases q:H a with
 |none=>rfl
 |some u=>
  obtain⟨o,z⟩:=(x a u q).there
  rw[e] at z;cases z
theorem gB:∀{cs:List Addr} {a:List Value},aW (cs.map V.ref) a->a=cs.map Value.ref
 |[],_,.nil=>rfl
 |_::_,_,.cons r t=>by rw[gB t];cases(show _=Value.ref _ from r);rfl
theorem zl {i:Int}(h:i.natAbs.log2<1920):(Str.ofString (toString i)).length<=1921:=by
 rw[PySem.ofString_length];exact int_text_length_le (k:=1920) (by decide) h
theorem lg(h1: -(2^200)<i)(b:i<2^200):i.natAbs.log2<1920:=by
 by_cases h:i.natAbs=0
 ·rw[h];decide
 ·rw[Nat.log2_lt h]
  have a:i.natAbs<2^200:=by omega
  exact Me a (Nat.pow_le_pow_right (n:=2) (by decide) (by decide))
theorem iA(b:Gl X x)(a:X.mg x=some (.ref C))(hd:(x==("__debug__" :Str))=false:=by decide):PE X (.Name x pos) (tC (.ref C)):=wK b a rfl hd
theorem EI{g:Int->V}(a:Ev ta σ H (.int i)):Ev (KH (rU g) ta) σ H (g i):=λ_ q=>a _ ⟨i,rfl,q⟩
theorem bJ(q:te σ H λv H1=>u D (σ.set n (some v)) H1):eU (kO te (cJ n)) u D σ H:=q
structure cn (P:Program) (w:World) (K:LO) (mg:Str->Option Value) (base:Heap) (C:Addr) (m:Str) (k:Nat) (ps:List Str) (sp:Sp):Prop where
 ex:∃f fd,fz P w K mg base n8 k f fd ps sp/\E2 K C m f/\cC K fd ps []
structure g6 (P:Program) (w:World) (K:LO) (mg:Str->Option Value) (base:Heap) (C:Addr) (x:Str) (k:Nat) (ps:List Str) (sp:Sp):Prop where
 ex:∃f fd,fz P w K mg base n8 k f fd ps sp/\Mk K C f/\mg x=some (.ref C)/\cC K fd ps []
section
variable {C:Addr} {k:Nat} {ps:List Str} {sp:Sp} {x m:Str} {p pos apos:Pos} {e o:Expr} {es:List Expr} {ta:TE} {t:TA}
theorem Ik {pl:Sem Bool}(p:PE X o ta)(c:j6 X.K C)(G:cn X.prog X.w X.K X.mg X.base C m k ps sp)(h:bL k X.A)(n:PA X (e::es) t)
  (b:starEach (e::es) X.env=(false,eval e X.env)::starEach es X.env:=by rfl) (a:(backTo pos (starEach es X.env)).any (·.1)=false:=by rfl)
  (j:eval (.Call (.Attribute o m apos) (e::es) [] pos) X.env=(do
   let d<-eval o X.env
   standAt apos.atName
   let (f,first)<-holding [d] (getMethod d m pl)
   callWith pos f first (backTo pos (starEach (e::es) X.env)) (backToKw pos (keywordEach [] X.env))):=by rfl):
  PE X (.Call (.Attribute o m apos) (e::es) [] pos) (sL C m sp [] E0 ta t):=by
 obtain⟨f,fd,F,l,g⟩:=G.ex
 exact FO (pl:=pl) p c l F h g .nil kQ n b a j
theorem ff {pl:Sem Bool}(h:PE X o ta)(c:j6 X.K C)(G:cn X.prog X.w X.K X.mg X.base C m k ps sp)(d:bL k X.A)
  (e:eval (.Call (.Attribute o m apos) [] [] pos) X.env=(do
   let a<-eval o X.env
   standAt apos.atName
   let (f,first)<-holding [a] (getMethod a m pl)
   callWith pos f first (backTo pos (starEach [] X.env)) (backToKw pos (keywordEach [] X.env))):=by rfl):
  PE X (.Call (.Attribute o m apos) [] [] pos) (sL C m sp [] E0 ta dw):=by
 obtain⟨f,fd,F,g,b⟩:=G.ex
 exact AE (pl:=pl) h c g F d b .nil kQ e
theorem xT (G:g6 X.prog X.w X.K X.mg X.base C x k ps sp)(d:bL (k+1) X.A)(l:Gl X x)(h:PA X (e::es) t)(b:(x==("__debug__" :Str))=false:=by decide)
  (j:starEach (e::es) X.env=(false,eval e X.env)::starEach es X.env:=by rfl) (a:(backTo pos (starEach es X.env)).any (·.1)=false:=by rfl):PE X (.Call (.Name x p) (e::es) [] pos) (nK C sp [] E0 t):=by
 obtain⟨f,fd,F,M,g,c⟩:=G.ex
 exact wO M F d l g c .nil kQ h b j a
theorem q9:cT X (.type "range") (λxs H Q=>∃m n,xs=[.int m,.int n]/\∀p,H p=none->Q (.ref p) (upd H p (.rng m n))):=by
 intro pins s σ H xs a Q I r h
 obtain⟨m,n,rfl,q⟩:=h
 obtain⟨u,d,rfl,⟨t,rfl⟩,⟨c,rfl⟩⟩:=kW r
 refine PySem.call_range_2 ⟨.ref s.heap.objs.size,_,?_,rfl,q _ (I.hok.fresh (LL _))⟩
 refine I.laid (λb o e=>LU _ e) (LL _) ?_
 exact⟨_,_,_,L4 _ rfl⟩
theorem m8 {f:Nat->Int}:∀(a:List Value) (i:Nat),(∀j v,a[j]?=some v->∃t,v=Value.int (f (i+j)) t)->aW ((List.range' i a.length).map λj=>V.int (f j)) a
 |[],_,_=> .nil
 |v::r,i,h=>by
  obtain⟨t,e⟩:=h 0 v rfl
  refine .cons ⟨t,e⟩ (m8 r (i+1) λj u d=>?_)
  obtain⟨c,b⟩:=h (j+1) u d
  exact⟨c,by rw[b];congr 2;lia⟩
theorem nX (C:X.calm=true):cT X (.type "list") (λxs H Q=>∃p lo hi,xs=[.ref p]/\H p=some (.rng lo hi)/\(-(2^62)<=lo/\lo<2^62/\ -(2^62)<=hi/\hi<2^62)/\hi - lo<=16000000/\
  ∀l,H l=none->Q (.ref l) (upd H l (.lst ((List.range (hi - lo).toNat).map λ(i:Nat)=>V.int (lo+(i:Int)))))):=by
 intro pins s σ H xs G Q I r h
 obtain⟨p,lo,hi,rfl,A,⟨h1,h2,D,o⟩,J,q⟩:=h
 obtain⟨u,rfl,B⟩:=dF r
 cases B
 obtain⟨t,n,a,e⟩:=(show bV X.prog X.w H s.heap p (.rng lo hi) from I.hok p _ A)
 have x:Builtin.Range.rangeSize lo hi 1=((hi - lo).toNat:Nat):=by
  rw[rangeSize_one]
  split<;>lia
 refine call_list_range (I.ok.hd C) e (small_one h1 h2 D o) x (by lia) λh' tk b m y E c=>?_
 obtain⟨g,ha⟩:=c
 have d:aW ((List.range (hi - lo).toNat).map λ(i:Nat)=>V.int (lo+(i:Int))) b.toList:=by
  have z:=m8 (f:=λi=>lo+(i:Int)) b.toList 0 λj v F=>by
   obtain⟨t,e⟩:=ha j v (by rw[<-F];simp)
   exact⟨t,by rw[e];simp⟩
  rw[show b.toList.length=(hi - lo).toNat by rw[Mt,g]] at z
  rw[List.range_eq_range']
  exact z
 refine⟨.ref s.heap.objs.size,_,I.laid (t':=tk) y (LL _) (show bV X.prog X.w _ h' _ (.lst _) from⟨?_,b.toList,m,d,by rw[E]⟩),rfl,q _ (I.hok.fresh (LL _))⟩
 rw[LK,Oh]
 have:sizeLine=2^24:=rfl
 lia
end
theorem dQ {te:TE}{a:St}{R:VK}{N:Hp->Prop}(h:te a H R):k_ a H λb H3=>if b=true then te a H3 R else N H3:=by
 show if true=true then te a H R else N H
 exact h
section
variable {tc:TT} {te:TE} {t u v:TS} {D:fX} {a b:Bool}
theorem Fe (e:a=b)(h:Ev te σ H (.bl a)):Ev te σ H (.bl b):=e▸h
theorem C6 (W:Nat->St->Hp->Prop)(h0:∃m,W m σ H)(d:∀m σ H,W m σ H->∃b,ic tc σ H b/\(b=true->∀N:St->Hp->Prop,(∀c a H',c<m->W c a H'->N a H')->t {D with nx:=N,ct:=N,bk:=D.nx} σ H)/\(b=false->D.nx σ H)):
  uW tc t D σ H:=by
 refine⟨W,h0,λm σ H w=>?_⟩
 obtain⟨b,e,h1,h2⟩:=d m σ H w
 refine e _ ?_
 cases b with
 |true=>rw[if_pos rfl];exact⟨λa H'=>∃c,c<m/\W c a H',λ_ _ z=>z,h1 rfl _ λc a H' l f=>⟨c,l,f⟩⟩
 |false=>rw[if_neg L6];exact h2 rfl
theorem KG (J:St->Hp->Prop)(h1:∀R:St->Hp->Prop,(∀σ H,J σ H->R σ H)->t {D with nx:=R} σ H)(a:∀σ H,J σ H->v D σ H):eU t v D σ H:=h1 _ a
end
theorem rE:bootBuiltins "reversed" =some (.type "reversed"):=by decide+kernel
theorem jW:bootBuiltins "enumerate" =some (.type "enumerate"):=by decide+kernel
section
open PySem PySem.W PyProof.Rows
section
variable {O:KeyOrd} (key:Nat->O.α)
def kA (p:Array Nat) (k:Nat):O.α:=key (p.getD k 0)
def Up (p:Array Nat) (n:Nat):Prop:=∀i j,i<=j->j<n->O.kle (kA key p i) (kA key p j)
variable {key}
end
end
mutual
inductive Dp (K:LO) (H:Hp):V->PyData->Prop
 |non:Dp K H .non .none
 |bl (b:Bool):Dp K H (.bl b) (.bool b)
 |int (i:Int):Dp K H (.int i) (.int i)
 |str (x:Str) (h:PyData.strOk x=true):Dp K H (.str x) (.str x)
 |tup {a:Addr} {xs:List V} {ds:List PyData} (h:bW K H a xs) (r:qm K H xs ds):Dp K H (.ref a) (.tuple ds)
 |lst {a:Addr} {xs:List V} {ds:List PyData} (h:aF K H a xs) (r:qm K H xs ds):Dp K H (.ref a) (.list ds)
inductive qm (K:LO) (H:Hp):List V->List PyData->Prop
 |nil:qm K H [] []
 |cons {x:V} {xs:List V} {d:PyData} {ds:List PyData} (h:Dp K H x d) (r:qm K H xs ds):qm K H (x::xs) (d::ds)
end
mutual
theorem Dp.lay:∀{v:V} {d:PyData},Dp K H v d->d.canLay0=true
 |_,_,.non=>rfl
 |_,_,.bl _=>rfl
 |_,_,.int _=>rfl
 |_,_,.str _ h=>by simpa[PyData.canLay0] using h
 |_,_,.tup _ r=>by simpa[PyData.canLay0] using r.lay
 |_,_,.lst _ r=>by simpa[PyData.canLay0] using r.lay
theorem qm.lay:∀{xs:List V} {ds:List PyData},qm K H xs ds->PyData.canLayAll0 ds=true
 |_,_,.nil=>by simp[PyData.canLayAll0]
 |_,_,.cons h r=>by simp[PyData.canLayAll0,h.lay,r.lay]
end
mutual
theorem Dp.reads (I:aJ X pins σ H s):∀{v:V} {d:PyData} {u:Value},Dp X.K H v d->aZ v u->∃as,Reads s.heap u d as
 |_,_,_,.non,r=>by cases(show _=Value.none from r);exact⟨_,.none⟩
 |_,_,_,.bl b,r=>by cases(show _=Value.bool b from r);exact⟨_,.bool b⟩
 |_,_,_,.int i,r=>by obtain⟨t,rfl⟩:=r;exact⟨_,.int i t⟩
 |_,_,_,.str x _,r=>by obtain⟨t,rfl⟩:=r;exact⟨_,.str x t⟩
 |_,_,_,.tup (a:=a) h rs,r=>by
  cases(show _=Value.ref a from r)
  obtain⟨c,e,⟨o,g,f,n,hd⟩,_⟩:=I.tuple h
  obtain⟨as,ra⟩:=qm.reads I rs e
  exact⟨_,.tuple g f hd (by simpa using ra)⟩
 |_,_,_,.lst (a:=a) h rs,r=>by
  cases(show _=Value.ref a from r)
  obtain⟨c,e,j,_⟩:=I.list h
  obtain⟨o,g,f,n,hd⟩:=j.isList
  obtain⟨as,ra⟩:=qm.reads I rs e
  exact⟨_,.list g f hd (by simpa using ra)⟩
theorem qm.reads (I:aJ X pins σ H s):∀{xs:List V} {ds:List PyData} {a:List Value},qm X.K H xs ds->aW xs a->∃as,ReadsAll s.heap a ds as
 |_,_,_,.nil,.nil=>⟨_,.nil⟩
 |_,_,_,.cons h rs,.cons r rr=>by
  obtain⟨as,ra⟩:=Dp.reads I h r
  obtain⟨bs,b⟩:=qm.reads I rs rr
  exact⟨_,.cons ra b⟩
end
def JH (K:LO):R2:=λx y H Q=>∃d e,Dp K H x d/\Dp K H y e/\d.depth<=60/\Q (.bl (PyData.eqv d e)) H
theorem vI(a:bL k X.A):gy X (compareOp .Eq) (JH X.K):=by
 intro pins s σ H x y v u Q I c f h
 obtain⟨d,e,h1,h2,hd,q⟩:=h
 obtain⟨as,r1⟩:=h1.reads I c
 obtain⟨bs,b⟩:=h2.reads I f
 have:=a.units
 exact SeqAt.compareEq_reads r1 b h1.lay h2.lay (by lia) ⟨.bl _,H,I,rfl,q⟩
mutual
theorem BY:∀{d:PyData},d.canLay0=true->PyData.eqv d d=true
 | .none,_=>by simp[PyData.eqv]
 | .bool _,_=>by simp[PyData.eqv]
 | .int _,_=>by simp[PyData.eqv]
 | .str _,_=>by simp[PyData.eqv]
 | .list xs,h=>by simp only[PyData.eqv];exact iq (by simpa[PyData.canLay0] using h)
 | .tuple xs,h=>by simp only[PyData.eqv];exact iq (by simpa[PyData.canLay0] using h)
 | .dict _,h=>by simp[PyData.canLay0] at h
theorem iq:∀{ds:List PyData},PyData.canLayAll0 ds=true->PyData.eqvAll ds ds=true
 |[],_=>by simp[PyData.eqvAll]
 |d::r,h=>by
  have h':d.canLay0=true/\PyData.canLayAll0 r=true:=by simpa[PyData.canLayAll0] using h
  simp only[PyData.eqvAll,BY h'.1,iq h'.2,Bool.and_self]
end
theorem sk:∀(ns:List Int),qm K H (ns.map V.int) (ns.map PyData.int)
 |[]=> .nil
 |n::r=> .cons (.int n) (sk r)
theorem Dp.ints{ns:List Int}(h:bW K H a (ns.map V.int)):Dp K H (.ref a) (.tuple (ns.map PyData.int)):=.tup h (sk ns)
theorem kY:∀(ns a:List Int),PyData.eqvAll (ns.map PyData.int) (a.map PyData.int)=decide (ns=a)
 |[],[]=>by simp[PyData.eqvAll]
 |[],_::_=>by simp[PyData.eqvAll]
 |_::_,[]=>by simp[PyData.eqvAll]
 |n::r,m::t=>by
  simp only[L1,PyData.eqvAll,PyData.eqv,kY r t,List.cons.injEq]
  by_cases h1:n=m<;>by_cases h2:r=t<;>simp[h1,h2]
theorem kz (ns a:List Int):PyData.eqv (.tuple (ns.map PyData.int)) (.tuple (a.map PyData.int))=decide (ns=a):=by simp only[PyData.eqv];exact kY ns a
theorem kU:∀{ds:List PyData},(∀d∈ds,d.depth<=n)->PyData.depthAll ds<=n
 |[],_=>by simp[PyData.depthAll]
 |d::r,h=>by
  simp only[PyData.depthAll]
  exact Nat.max_le.mpr ⟨h d LX,kU λe a=>h e (LZ _ a)⟩
theorem iF (ns:List Int):(PyData.tuple (ns.map PyData.int)).depth<=1:=by
 have:PyData.depthAll (ns.map PyData.int)<=0:=kU λd hd=>by
  obtain⟨i,_,rfl⟩:=LN.mp hd
  simp[PyData.depth]
 simp only[PyData.depth];lia
theorem bW.kept {c:Hp}{a:Addr}{xs:List V}(e:∀b o,H b=some o->c b=some o)(h:bW K H a xs):bW K c a xs:=bW.same e h
mutual
theorem Dp.same {a:Hp}(e:ah H a):∀{v:V} {d:PyData},Dp K H v d->Dp K a v d
 |_,_,.non=> .non
 |_,_,.bl b=> .bl b
 |_,_,.int i=> .int i
 |_,_,.str x h=> .str x h
 |_,_,.tup h r=> .tup (h.same e) (qm.same e r)
 |_,_,.lst h r=> .lst (e.seq h) (qm.same e r)
theorem qm.same {a:Hp}(e:ah H a):∀{xs:List V} {ds:List PyData},qm K H xs ds->qm K a xs ds
 |_,_,.nil=> .nil
 |_,_,.cons h r=> .cons (Dp.same e h) (qm.same e r)
end
theorem aJ.laidN(I:aJ X pins σ H s)(k:∀b u,b≠X.env.locals->s.heap.get? b=some u->h'.get? b=some u)
  (ns:∀m,s.heap.Ns X.env.locals m->h'.Ns X.env.locals m) (h:s.heap.get? a=none) (new:bV X.prog X.w (upd H a o) h' a o):aJ X pins σ (upd H a o) {s with heap:=h',toks:=t'}:=by
 have d:H a=none:=I.hok.none_of h
 have uX:∀b u,H b=some u->b≠X.env.locals:=λb u e z=>by rw[z,I.free] at e;cases e
 have f:∀b u,s.heap.get? b=some u->b≠a:=λb u e z=>by rw[z,h] at e;cases e
 refine I.step (g':=s.gens) (d':=s.drawn) (ch:=[]) (λ_ z=>nomatch z) (λb u g _ _ e _=>k b u g e) (λb u g _ _ e _=>⟨u.slots,k b u g e⟩) (λb u _ e n=>by rw[ak (f b u e)];exact n)
  (λb u _ e=>?_) (λb xs e=>by rw[ak (ax e d)];exact e) (λb u xs e=>by rw[ak (ax e d)];exact e) (λb ps e=>⟨#[],by rw[ak (ax e d),e];simp⟩) ns (λb u e=>?_) I.bare
 ·by_cases hb:b=X.env.locals
  ·obtain⟨m,j,_⟩:=I.loc
   obtain⟨o',_,_,l,_⟩:=ns m j
   exact⟨o',by rw[hb];exact l⟩
  ·exact⟨u,k b u hb e⟩
 ·by_cases hb:b=a
  ·subst hb;rw[ae] at e;cases e;exact new
  ·rw[ak hb] at e
   refine(I.hok b u e).stay (λc v hc q=>k c v ?_ q) (λc q=>by rw[ak (ax q d)];exact q) λc xs q=>by rw[ak (ax q d)];exact q
   rcases hc with rfl|hc
   ·exact uX _ _ e
   ·exact uX _ _ hc
theorem uo {h:Heap}{a:Addr}{m m':Str->Option Value}(x:h.Ns a m)(y:h.Ns a m'):m=m':=by
 obtain⟨o,es,ep,j,hd,_,f⟩:=x
 obtain⟨o',d,e,c,b,_,g⟩:=y
 rw[j] at c;cases c
 rw[hd] at b;cases b
 funext n
 rw[<-f,<-g]
theorem jG:∀cs:List Addr,aW (cs.map V.ref) (cs.map Value.ref)
 |[]=> .nil
 |_::r=> .cons rfl (jG r)
theorem gL:∀a:List Int,HT.lexLt a a=false
 |[]=>rfl
 |x::r=>by rw[HT.lexLt_cons,if_pos rfl];exact gL r
theorem kN:∀a b:List Int,HT.lexLt a b=false->HT.lexLt b a=false->a=b
 |[],[],_,_=>rfl
 |[],_::_,h,_=>by rw[HT.lexLt_nil_cons] at h;cases h
 |_::_,[],_,h=>by rw[HT.lexLt_nil_cons] at h;cases h
 |x::r,y::t,h1,h2=>by
  rw[HT.lexLt_cons] at h1 h2
  by_cases e:x=y
  ·subst e
   rw[if_pos rfl] at h1 h2
   rw[kN r t h1 h2]
  ·rw[if_neg e] at h1
   rw[if_neg (L8 e)] at h2
   have:=of_decide_eq_false h1
   have:=of_decide_eq_false h2
   lia
theorem kl:∀a b c:List Int,HT.lexLt a b=true->HT.lexLt b c=true->HT.lexLt a c=true
 |[],_,[],_,h=>by
  rename_i b _
  cases b with
  |nil=>rw[HT.lexLt_nil_nil] at h;cases h
  |cons y t=>rw[HT.lexLt_cons_nil] at h;cases h
 |[],_,_::_,_,_=>rfl
 |_::_,[],_,h,_=>by rw[HT.lexLt_cons_nil] at h;cases h
 |_::_,_::_,[],_,h=>by rw[HT.lexLt_cons_nil] at h;cases h
 |x::r,y::t,z::u,h1,h2=>by
  rw[HT.lexLt_cons] at h1 h2|-
  by_cases e1:x=y<;>by_cases e2:y=z
  ·subst e1;subst e2
   rw[if_pos rfl] at h1 h2|-
   exact kl r t u h1 h2
  ·subst e1
   rw[if_neg e2] at h2|-
   exact h2
  ·subst e2
   rw[if_neg e1] at h1|-
   exact h1
  ·rw[if_neg e1] at h1
   rw[if_neg e2] at h2
   have:=of_decide_eq_true h1
   have:=of_decide_eq_true h2
   rw[if_neg (by lia)]
   exact decide_eq_true (by lia)
theorem E6 (a b c:List Int)(h:HT.lexLt a c=true):HT.lexLt a b=true\/HT.lexLt b c=true:=by
 cases h1:HT.lexLt a b with
 |true=>exact .inl rfl
 |false=>
  refine .inr ?_
  cases h2:HT.lexLt b a with
  |true=>exact kl b a c h2 h
  |false=>rw[<-kN a b h1 h2];exact h
abbrev aX (H:Hp) (as:List Addr) (cs:List (List Int)):Prop:=Paired (λa (c:List Int)=>H a=some (.tup (c.map V.int))) as cs
theorem aX.at {as:List Addr}{cs:List (List Int)}{i:Nat}{a:Addr}(h:aX H as cs)(e:as[i]?=some a):∃c,cs[i]?=some c/\H a=some (.tup (c.map V.int)):=Ar h e
theorem aX.same{cs:List (List Int)}(h:aX H as cs)(e:ah H H'):aX H' as cs:=Paired.mapP h λ_ _ z=>e _ _ z
open PySem.W in
theorem kT{Q:Bool->Shared->Prop}:∀(c d:List Value) (ns a:List Int) (i:Nat),aW (ns.map V.int) c->aW (a.map V.int) d->fin=decide (ns.length<a.length)->
  Q (HT.lexLt ns a) s->KatLex prog w A b fin Q (c.zip d) i s
 |[],d,ns,a,i,r1,r2,hf,h=>by
  cases ns with
  |cons n r=>cases r1
  |nil=>
   rw[hf]
   cases a with
   |nil=>exact h
   |cons m t=>exact h
 |u::c,[],ns,a,i,r1,r2,hf,h=>by
  cases a with
  |cons m t=>cases r2
  |nil=>
   refine kat_nil ?_
   rw[hf]
   cases ns with
   |nil=>exact h
   |cons m t=>exact h
 |u::c,v::d,ns,a,i,r1,r2,hf,h=>by
  cases ns with
  |nil=>cases r1
  |cons n r=>
   cases a with
   |nil=>cases r2
   |cons m t=>
    cases r1 with
    |cons q1 r1=>
     cases r2 with
     |cons q2 r2=>
      obtain⟨j,rfl⟩:=q1
      obtain⟨g,rfl⟩:=q2
      refine kat_cons (wpAny_eqBool_int ?_)
      rw[HT.lexLt_cons] at h
      refine kat_go (λe=>?_) (λe=>?_)
      ·have f:n=m:=by simpa using e
       rw[if_pos f] at h
       exact kat_yes (kT c d r t (i+1) r1 r2 (by rw[hf];simp) h)
      ·have f:¬n=m:=by simpa using e
       rw[if_neg f] at h
       refine kat_no ?_
       cases(b&&i==0) with
       |true=>exact oneLt_int h
       |false=>exact kat_one _ _ (lt_int h)
abbrev cp (z:Str):List Nat:=z.cps.toList
theorem xh(h:cp x=cp y):x=y:=by
 cases x with|mk a=>cases y with|mk b=>exact congrArg Str.mk (Array.toList_inj.mp h)
theorem cu (z:Str):(cp z).length=z.length:=by simp[Str.length]
theorem fB (x y:Str):cp (x++y)=cp x++cp y:=by
 show(x.cps++y.cps).toList=_
 simp
noncomputable def KL (z:Str):It:=⟨λi _=>i<z.cps.size,λi H x H'=>H'=H/\∃c,(cp z)[i]?=some c/\x=.str ⟨#[c]⟩,λi _=>z.cps.size<=i⟩
theorem G1{it:Addr}{Q:Unit->Shared->Prop}(a:Q () s):wpAny M A (letOwnedTupleGo tg (.ref it) (.str x t)) Q E s:=by
 cases tg<;>exact LM a
theorem CC {P:Program}{F:Expr}(z:Str)(t:Tok)(it:Addr):nO P w K F (KL z) [it] it (λi h=>h.IsStrIter it "str_ascii_iterator" z t i) where
 mem:=by simp
 obj:=λi h st b f=>by
  have e:b=it:=by simpa using f
  subst e
  obtain⟨o,e,c,d⟩:=st
  exact⟨o,e,λv z=>by rw[d] at z;cases z⟩
 keep:=λi h h' st k=>by
  obtain⟨o,e,r⟩:=st
  exact⟨o,k it (by simp) o e,r⟩
 item:=by
  intro X A B y p i pins s σ H E I g a hg
  subst A B y
  obtain⟨m,q,J,j,l,n⟩:=g it (by simp)
  have W:=Walks.strAscii (prog:=X.prog) (w:=X.w) (I.ok.hd p) it z t
  refine W.item i s _ _ hg a λv h' tk C x M=>?_
  obtain⟨c,u,N,rfl⟩:=C
  have D:aJ X pins σ H {s with heap:=h',toks:=tk}:=I.turned (λb o f e=>M b o (by simpa using f) e) m q j l n
  exact⟨_,rfl,G1 ⟨.str ⟨#[c]⟩,H,D,⟨u,rfl⟩,⟨rfl,c,by rw[<-N];simp,rfl⟩,x,λb f=>(g b f).1⟩⟩
 done:=by
  intro X A B y p i pins s σ H E I g a hg
  obtain⟨m,q,J,j,l,n⟩:=g it (by simp)
  exact wpAny_pyNext_ascii_end (I.ok.hd p) a (by have:z.cps.size<=i:=hg;simp[this]) λh' G=>⟨rfl,I.turned (t':=s.toks) (λb o f e=>G b o f e) m q j l n⟩
 self:=λ_ _ _ _ _ st h=>wpAny_pyIter_striter_ascii st h
def K8 (tl:TE):TI:=λσ H R=>tl σ H λx H1=>∃z,x=.str z/\z.cps.all (· <128)=true/\R (KL z) H1
section
variable {tg:Expr}
theorem BJ(g:PE X l tl):PI X tg l (K8 tl):=by
 intro pins s σ H R I h
 refine cy (g pins s σ H _ I h) λv a f=>?_
 obtain⟨x,H1,I1,r1,c⟩:=f
 obtain⟨z,e,ha,q⟩:=c
 subst e
 obtain⟨t,rfl⟩:=r1
 refine wpAny_pyIter_ascii ha ?_
 refine⟨a.heap.objs.size,[a.heap.objs.size],_,_,H1,rfl,I1.kept (t':=a.toks) λb o e=>LU _ e,CC z t _,⟨_,L4 _ rfl,rfl,rfl⟩,λb d=>?_,q⟩
 have e:b=a.heap.objs.size:=by simpa using d
 subst e
 exact I1.fpOk (LL _) (I1.hok.fresh (LL _))
theorem Dm(f:Nat->St->Hp->Prop)(h0:f 0 σ0 (upd H1 D (.lst [])))
  (j:∀i c a H,(cp z)[i]?=some c->f i a H->g (.str ⟨#[c]⟩) a H λd H2=>tt d H2 λb H3=>
   if b=true then te d H3 λv H4=>∃h,H4 D=some (.lst h)/\h.length<sizeLine/\f (i+1) d (upd H4 D (.lst (h++[v]))) else f (i+1) d H3)
  (hd:∀a H,f z.length a H->Q H):tW σ0 g tt te (KL z) H1 D Q:=by
 refine⟨λi m a H=>m=z.length - i/\i<=z.length/\f i a H,⟨z.length,by simp,L0 _,h0⟩,?_⟩
 rintro i m a H ⟨rfl,hi,p⟩
 by_cases hlt:i<z.length
 ·refine .inr ⟨hlt,f (i+1),λn H' l=>⟨z.length - (i+1),by omega,rfl,hlt,l⟩,λx H' y=>?_⟩
  obtain⟨e,c,o,rfl⟩:=y
  subst e
  exact j i c a _ o p
 ·have e:i=z.length:=by omega
  subst e
  exact .inl ⟨LL _,hd a H p⟩
theorem pJ:∀{bs:List Bool} {a:List Value},aW (bs.map V.bl) a->a=bs.map Value.bool
 |[],_,.nil=>rfl
 |_::_,_,.cons r t=>by rw[pJ t];cases(show _=Value.bool _ from r);rfl
theorem yi (bs:List Bool):(List.range bs.length).any (λi=>bs.getD i false)=bs.any id:=by
 have e:(List.range bs.length).map (λi=>bs.getD i false)=bs:=by
  apply N6
  intro i
  by_cases hi:i<bs.length
  ·simp[hi]
  ·simp[hi]
 conv=>rhs;rw[<-e]
 rw[List.any_map]
 rfl
theorem zr (bs:List Bool):(List.range bs.length).all (λi=>bs.getD i false)=bs.all id:=by
 have e:(List.range bs.length).map (λi=>bs.getD i false)=bs:=by
  apply N6
  intro i
  by_cases hi:i<bs.length
  ·simp[hi]
  ·simp[hi]
 conv=>rhs;rw[<-e]
 rw[List.all_map]
 rfl
theorem xr (x:X.calm=true):cT X (.builtin "any") (λxs H Q=>∃(p:Addr) (bs:List Bool),xs=[.ref p]/\aF X.K H p (bs.map V.bl)/\Q (.bl (bs.any id)) H)/\cT X (.builtin "all") (λxs H Q=>∃(p:Addr) (bs:List Bool),xs=[.ref p]/\aF X.K H p (bs.map V.bl)/\Q (.bl (bs.all id)) H):=by
 constructor
 all_goals
  intro pins s σ H xs D Q I r h
  obtain⟨p,bs,rfl,B,q⟩:=h
  obtain⟨u,rfl,m⟩:=dF r
  cases m
  obtain⟨c,l,d,C⟩:=I.list B
  cases pJ l
  have f:(bs.map Value.bool).toArray.size=bs.length:=by simp
  first|refine call_any_walk (Nu d.isList ?_)|refine call_all_walk (Nu d.isList ?_)
  have a:p≠s.heap.objs.size:=by
   obtain⟨o,z,_⟩:=d.isList
   exact L3 (LW z)
  refine⟨s.heap.objs.size,_,_,_,_,_,λi=>bs.getD i false,rfl,Walks.list (A:=X.A.in1) (prog:=X.prog) (w:=X.w) (show X.A.in1.handled=none from I.ok.hd x) s.heap.objs.size p a (bs.map Value.bool).toArray,⟨⟨_,L4 _ rfl,rfl,rfl⟩,?_⟩,λi v s' Q' E' y j=>?_,λh' tk g=>?_⟩
  ·exact d.isList.at λo e=>LU _ e
  ·have hi:(bs.map Value.bool).toArray[i]?=some v:=y
   rw[Ov,L7] at hi
   cases e:bs[i]? with
   |none=>rw[e] at hi;cases hi
   |some b=>
    rw[e] at hi
    cases hi
    refine MU ?_
    have:bs.getD i false=b:=by simp[MI,e]
    rw[<-this];exact j
  ·first|rw[f,yi]|rw[f,zr]
   refine⟨.bl _,H,I.kept (t':=tk) λb o e=>g b o ?_ (LU _ e),rfl,q⟩
   intro n
   have:b=s.heap.objs.size:=by simpa using n
   exact absurd (LW e) (by rw[this];exact ML _)
theorem nz (a:X.calm=true):cT X (.builtin "any") (λxs H Q=>∃(p:Addr) (bs:List Bool),xs=[.ref p]/\aF X.K H p (bs.map V.bl)/\Q (.bl (bs.any id)) H):=(xr a).1
theorem AC (a:X.calm=true):cT X (.builtin "all") (λxs H Q=>∃(p:Addr) (bs:List Bool),xs=[.ref p]/\aF X.K H p (bs.map V.bl)/\Q (.bl (bs.all id)) H):=(xr a).2
theorem cY(b:Gl X x)(h:∃u,X.mg x=some u/\aZ v u)(hd:(x==("__debug__" :Str))=false:=by decide):PE X (.Name x pos) (tC v):=by
 obtain⟨u,a,r⟩:=h
 exact wK b a r hd
theorem yt:cT X (.type "int") (λxs H Q=>∃x n,xs=[.str x]/\PySem.intText? x=some n/\x.length<=640/\Q (.int n) H):=by
 intro pins s σ H xs c Q I r h
 obtain⟨x,n,rfl,b,a,q⟩:=h
 obtain⟨u,rfl,t,rfl⟩:=dF r
 exact PySem.W.KIN.call_text b a ⟨.int n,H,I.tok _,⟨_,rfl⟩,q⟩
end
section
variable {ta tb:TE} {x y:Str} {a b:Bool}
theorem wN (b:Ev ta σ H (.str x))(a:Ev tb σ H (.str y))(hz:x.length+y.length<=sizeLine):Ev (fv (λx y H Q=>∃i j,x=.str i/\y=.str j/\i.length+j.length<=sizeLine/\Q (.str (i++j)) H) ta tb) σ H (.str (x++y)):=λ_ q=>b _ (a _ ⟨x,y,rfl,rfl,hz,q⟩)
theorem pA(b:Ev ta σ H (.str ⟨#[c]⟩))(a:Ev tb σ H (.str y)):Ev (fv (λx y H Q=>∃i j,x=.str i/\y=.str j/\Q (.bl (!(!(Builtin.Str.occurrences j i 0 j.length 1).isEmpty))) H) ta tb) σ H (.bl (!decide (c∈cp y))):=λQ q=>b _ (a _ ⟨_,y,rfl,rfl,by rw[PySem.StrLaws.found_one];exact q⟩)
theorem CW(b:Ev ta σ H (.str ⟨#[c]⟩))(a:Ev tb σ H (.str y)):Ev (fv (λx y H Q=>∃i j,x=.str i/\y=.str j/\Q (.bl (!(Builtin.Str.occurrences j i 0 j.length 1).isEmpty)) H) ta tb) σ H (.bl (decide (c∈cp y))):=λQ q=>b _ (a _ ⟨_,y,rfl,rfl,by rw[PySem.StrLaws.found_one];exact q⟩)
theorem kx (b:Ev ta σ H (.str x))(a:Ev tb σ H (.str y)):Ev (fv Km ta tb) σ H (.bl (decide (x=y))):=λQ q=>b _ (a _ ⟨rfl,by
 have e:decide (V.str x=V.str y)=decide (x=y):=by
  rcases Decidable.em (x=y) with h|h
  ·rw[h,decide_eq_true rfl,decide_eq_true rfl]
  ·rw[decide_eq_false h,decide_eq_false λz=>h (V.str.inj z)]
 rw[e];exact q⟩)
theorem ev_neS (b:Ev ta σ H (.str x))(a:Ev tb σ H (.str y)):Ev (fv Kh ta tb) σ H (.bl (!decide (x=y))):=λQ q=>b _ (a _ ⟨rfl,by
 have e:decide (V.str x=V.str y)=decide (x=y):=by
  rcases Decidable.em (x=y) with h|h
  ·rw[h,decide_eq_true rfl,decide_eq_true rfl]
  ·rw[decide_eq_false h,decide_eq_false λz=>h (V.str.inj z)]
 rw[e];exact q⟩)
theorem qx(b:Ev ta σ H (.str x))(a:Ev tb σ H (.int i))(hz:x.length<=sizeLine)(d:jq (cp x) i=some c):Ev (fv J0 ta tb) σ H (.str ⟨#[c]⟩):=λ_ q=>b _ (a _ ⟨x,i,c,rfl,rfl,hz,d,q⟩)
theorem lO (a:Ev ta σ H (.str x))(hz:x.length<=sizeLine):Ev (nM (λxs H Q=>∃x n,xs=[x]/\Cz K x H n/\Q (.int n) H) (a8 ta dw)) σ H (.int (x.length:Nat)):=λ_ q=>a _ ⟨_,_,rfl,⟨hz,rfl⟩,q⟩
end
theorem sJ:∀{ts:List Str} {a:List Value},aW (ts.map V.str) a->∃l:List (Str×Tok),a=strValues l/\l.map (·.1)=ts
 |[],_,.nil=>⟨[],rfl,rfl⟩
 |t::r,_,.cons q s=>by
  obtain⟨tk,rfl⟩:=q
  obtain⟨l,rfl,e⟩:=sJ s
  exact⟨(t,tk)::l,rfl,by rw[L1,e]⟩
theorem oI:∀l:List (Str×Tok),aW ((l.map (·.1)).map V.str) (strValues l)
 |[]=> .nil
 |(x,t)::r=> .cons ⟨t,rfl⟩ (oI r)
theorem mT:FH X "str.split" (λx vs H Q=>∃z y,x=.str z/\vs=[.str y]/\0<y.length/\z.length+2<=sizeLine/\∀l,H l=none->Q (.ref l) (upd H l (.lst ((Txt.split z y).map V.str)))):=by
 intro pins s σ H x xs v C Q I r p h
 obtain⟨z,y,rfl,rfl,D,d,q⟩:=h
 obtain⟨t,rfl⟩:=r
 obtain⟨u,rfl,j,rfl⟩:=dF p
 obtain⟨m,g,_⟩:=id I.loc
 have f:s.heap.get? s.heap.objs.size=none:=NX (LL _)
 refine splitN1 (h₀:=Att.noObjs s.heap) (L:=X.env.locals) (m:=m) (news:=iN (Att.noObjs s.heap) s.heap X.env.locals) (Att.fr_all g) mG (beq_eq_false_iff_ne.mpr (by lia)) (λl h' k e F' N'=>?_) d
 refine⟨.ref s.heap.objs.size,_,I.laidN (t':=k) (a:=s.heap.objs.size) (o:=.lst ((Txt.split z y).map V.str)) (λb B w A=>(N' (b,B) (LZ _ (gb w (Att.noObjs_get _ _) A))).1) (λn c=>?_) f ?_,rfl,q _ (I.hok.none_of f)⟩
 ·have:n=m:=uo c g
  rw[this];exact F'.ns
 ·refine⟨?_,_,0,?_,(N' (s.heap.objs.size,_) LX).1⟩
  ·rw[LK];exact LR (split_le z y) d
  ·rw[<-e];exact oI l
theorem Ft:FH X "str.join" (λx vs H Q=>∃z p ts,x=.str z/\vs=[.ref p]/\aF X.K H p (ts.map V.str)/\JoinOk z ts=true/\Q (.str (Txt.join z ts)) H):=by
 intro pins s σ H x xs v r Q I g f h
 obtain⟨z,p,ts,rfl,rfl,c,a,q⟩:=h
 obtain⟨t,rfl⟩:=g
 obtain⟨u,rfl,n⟩:=dF f
 cases n
 obtain⟨b,j,d,o⟩:=I.list c
 obtain⟨l,rfl,e⟩:=sJ j
 exact SC.join d.isList e a λm k=>⟨.str _,H,I.tok _,⟨m,rfl⟩,q⟩
theorem p4:FH X "str.partition" (λx vs H Q=>∃z y,x=.str z/\vs=[.str y]/\0<y.length/\z.length<=sizeLine/\∀l,H l=none->Q (.ref l) (upd H l (.tup [.str (Txt.partition z y).1,.str (Txt.partition z y).2.1,.str (Txt.partition z y).2.2]))):=by
 intro pins s σ H x xs v B Q I p n h
 obtain⟨z,y,rfl,rfl,C,f,q⟩:=h
 obtain⟨t,rfl⟩:=p
 obtain⟨u,rfl,g,rfl⟩:=dF n
 obtain⟨m,e,_⟩:=id I.loc
 have d:s.heap.get? s.heap.objs.size=none:=NX (LL _)
 refine partitionN (h₀:=Att.noObjs s.heap) (L:=X.env.locals) (m:=m) (news:=iN (Att.noObjs s.heap) s.heap X.env.locals) (Att.fr_all e) mG (beq_eq_false_iff_ne.mpr (by lia)) (λta tb tc h' k F' N'=>?_) f
 refine⟨.ref s.heap.objs.size,_,I.laidN (t':=k) (a:=s.heap.objs.size) (o:=.tup _) (λb A r w=>(N' (b,A) (LZ _ (gb r (Att.noObjs_get _ _) w))).1) (λj c=>?_) d ?_,rfl,q _ (I.hok.none_of d)⟩
 ·have:j=m:=uo c e
  rw[this];exact F'.ns
 ·exact⟨by show 3<=sizeLine;decide,_,.cons ⟨ta,rfl⟩ (.cons ⟨tb,rfl⟩ (.cons ⟨tc,rfl⟩ .nil)),_,(N' (s.heap.objs.size,_) LX).1,rfl,_,rfl⟩
def FX (X:Cx) (e:Expr) (c:St->Hp->Str->Prop):Prop:=∀(pins:List (Addr×Obj)) (σ:St) (H:Hp) (s:Shared) (y:Str) (Q:Value->Shared->Prop),aJ X pins σ H s->c σ H y->
 (∀t s',aJ X pins σ H s'->y.length<=6000->Q (.str y t) s')->wpAny (model X.prog X.w) X.A (eval e X.env) Q X.xe s
inductive DA (X:Cx):List Expr->(St->Hp->List Str->Prop)->Prop where
 |nil:DA X [] λ_ _ ys=>ys=[]
 |cons {e es c cs}:FX X e c->DA X es cs->DA X (e::es) λσ H ys=>∃y r,ys=y::r/\c σ H y/\cs σ H r
theorem zJ:∀{es:List Expr} {cs:St->Hp->List Str->Prop},DA X es cs->∀{s:Shared} {a:Str} {ys:List Str},aJ X pins σ H s->cs σ H ys->a.length+6000*es.length<=sizeLine->
  (∀t s',aJ X pins σ H s'->Q (.str (ys.foldl (· ++ ·) a) t) s')->wpAny (model X.prog X.w) X.A (joinParts a (evalEach es X.env)) Q X.xe s
 |_,_,.nil,s,a,ys,I,c,hz,q=>by
  subst c
  exact joinParts_nilE (joinParts_nil (q _ _ (I.tok _)) (by simpa using hz))
 |_,_,.cons (es:=es) he hes,s,a,ys,I,c,hz,q=>by
  obtain⟨y,r,rfl,b,d⟩:=c
  simp only[L5] at hz
  refine joinParts_consE (joinParts_cons (he pins σ H s y _ I b λt s' I' f=>?_))
  have e:(a++y).length=a.length+y.length:=strLen_append _ _
  exact⟨by rw[e];lia,zJ hes I' d (by rw[e];lia) q⟩
def Im (cs:St->Hp->List Str->Prop):TE:=λσ H Q=>∃ys,cs σ H ys/\Q (.str (ys.foldl (· ++ ·) Str.empty)) H
theorem B5{cs:St->Hp->List Str->Prop}(h:DA X (e₁::e₂::es) cs)(b:6000*(es.length+2)<=sizeLine:=by decide):PE X (.JoinedStr (e₁::e₂::es) pos) (Im cs):=by
 intro pins s σ H Q I a
 obtain⟨ys,c,q⟩:=a
 refine JoinedStr_many (show wpAny _ _ (joinParts Str.empty (evalEach (e₁::e₂::es) X.env)) _ _ _ from ?_)
 exact zJ h I c (by show 0+6000*(es.length+2)<=_;lia) λt s' I'=>⟨.str _,H,I',⟨t,rfl⟩,q⟩
theorem BU(h:PE X e λ_ H Q=>Q (.str x) H)(hx:x.length<=6000:=by decide):FX X e λ_ _ y=>y=x:=by
 intro pins σ H s y Q I c q
 subst c
 refine Mp (h pins s σ H (λv H'=>v=.str y/\H'=H) I ⟨rfl,rfl⟩) (λv s' a=>?_) λ_ _ z=>z
 obtain⟨b,H',I',r,rfl,rfl⟩:=a
 obtain⟨t,rfl⟩:=r
 exact q t s' I' hx
theorem uR(h:PE X e t):FX X (.FormattedValue e (-1) none pos) λσ H y=>t σ H λv H'=>H'=H/\∃i:Int,v=.int i/\i.natAbs.log2<1920/\y=toString i:=by
 intro pins σ H s y Q I c q
 refine FormattedValue_plain (Mp (h pins s σ H _ I c) (λv s' a=>?_) λ_ _ z=>z)
 obtain⟨b,H',I',r,rfl,i,rfl,hi,rfl⟩:=a
 obtain⟨t,rfl⟩:=r
 exact formatField_int_small hi (q _ _ (I'.tok _) (by have:=zl hi;lia))
noncomputable def jl (c:Nat):List (List Nat)->List Nat
 |[]=>[]
 |[p]=>p
 |p::q::r=>p++c::jl c (q::r)
theorem dG{r:List (List Nat)}(h:r≠[]):jl c (p::r)=p++c::jl c r:=by
 cases r with
 |nil=>exact absurd rfl h
 |cons q t=>rfl
theorem GT:∀{P R:List (List Nat)},P≠[]->R≠[]->(∀p∈P,c∉p)->(∀p∈R,c∉p)->jl c P=jl c R->P=R:=by
 have g:∀{a b x y:List Nat},c∉a->c∉b->a++c::x=b++c::y->a=b/\x=y:=by
  intro a
  induction a with
  |nil=>
   intro b x y _ o e
   cases b with
   |nil=>exact⟨rfl,(List.cons.inj e).2⟩
   |cons d t=>
    have:=(List.cons.inj e).1
    exact absurd (by rw[this];exact LX) o
  |cons d t ih=>
   intro b x y ha o e
   cases b with
   |nil=>
    have:=(List.cons.inj e).1
    exact absurd (by rw[<-this];exact LX) ha
   |cons d' t'=>
    obtain⟨l,s⟩:=List.cons.inj e
    obtain⟨h1,h2⟩:=ih (λz=>ha (LZ _ z)) (λz=>o (LZ _ z)) s
    exact⟨by rw[l,h1],h2⟩
 have f:∀{a b x:List Nat},c∉a->a≠b++c::x:=λha e=>ha (by rw[e];simp)
 intro P
 induction P with
 |nil=>intro R h;exact absurd rfl h
 |cons p r ih=>
  intro R _ u m j e
  cases R with
  |nil=>exact absurd rfl u
  |cons q t=>
   by_cases h1:r=[]<;>by_cases h2:t=[]
   ·subst h1;subst h2
    rw[show p=q from e]
   ·subst h1
    rw[dG h2] at e
    exact absurd e (f (m p LX))
   ·subst h2
    rw[dG h1] at e
    exact absurd e.symm (f (j q LX))
   ·rw[dG h1,dG h2] at e
    obtain⟨l,s⟩:=g (m p LX) (j q LX) e
    rw[l,ih h1 h2 (λx n=>m x (LZ _ n)) (λx n=>j x (LZ _ n)) s]
theorem rV (c:Nat):∀ts:List Str,cp (Str.join ⟨#[c]⟩ ts)=jl c (ts.map cp)
 |[]=>by unfold Str.join;rfl
 |[x]=>by unfold Str.join;rfl
 |x::y::r=>by
  have a:=rV c (y::r)
  rw[L1,dG (by simp),<-a]
  show cp (x++(⟨#[c]⟩:Str)++Str.join ⟨#[c]⟩ (y::r))=_
  rw[fB,fB,Mn]
  rfl
theorem rC (x:Str)(c:Nat){P:List (List Nat)}(h:P≠[])(d:∀p∈P,c∉p)(e:cp x=jl c P):(Txt.split x ⟨#[c]⟩).map cp=P:=by
 have a:(Txt.split x ⟨#[c]⟩)≠[]:=λz=>by have:=split_pos x ⟨#[c]⟩;rw[z] at this;simp at this
 refine GT (c:=c) (by simpa using a) h (λp b=>?_) d ?_
 ·obtain⟨y,f,rfl⟩:=LN.mp b
  exact PySem.StrLaws.split_free x c y f
 ·rw[<-rV,PySem.StrLaws.join_split,e]
theorem rT (c:Nat)(ts:List Str):cp (Txt.join ⟨#[c]⟩ ts)=jl c (ts.map cp):=by
 have b:∀(r:List Str) (d:Array Nat),(r.foldl (λd p=>d++(⟨#[c]⟩:Str).cps++p.cps) d).toList=d.toList++(r.flatMap λp=>c::cp p):=by
  intro r
  induction r with
  |nil=>intro d;simp
  |cons y t ih=>
   intro d
   rw[Mx,ih]
   simp
 have a:∀(r:List Str) (x:List Nat),x++(r.flatMap λp=>c::cp p)=jl c (x::r.map cp):=by
  intro r
  induction r with
  |nil=>intro x;simp[jl]
  |cons y t ih=>
   intro x
   rw[L1,dG (by simp),<-ih,MP]
   simp
 cases ts with
 |nil=>rfl
 |cons x r=>
  show((r.foldl (λd p=>d++(⟨#[c]⟩:Str).cps++p.cps) x.cps)).toList=_
  rw[b]
  exact a r (cp x)
section
open AutoSeq1 (wpAny_loadPart')
theorem CO{rest:List Value}{e:List (Str×Value)}(g:typeLookup (.type T) "__init__" =pure (some (.builtin "object.__init__")))
  (h:Bind.madeBy (.type T)=pure (some newId)) (d:(some newId !=some "object.__new__")=true):
  Meets (Builtin.«object.__init__» ⟨self::a::rest,e⟩) (λ_ R s=>s.TypeIs self T/\R (.ok (.ret .none)) s):=by
 refine Meets.of_wp λprog w A R s b=>?_
 obtain⟨f,c⟩:=b
 repeat (any_goals (first|assumption|wp_step))
 exact⟨_,rfl,c⟩
theorem yG{H:Builtin}{y:List (Str×Value)}{S:PySem.Spec}(p:TypeCalled T newId "object.__init__")
  (z:(some newId !=some "object.__new__")=true) (I:checkTypeCall T ⟨a::args,y⟩=pure ()) (C:checkBuiltinCall newId ⟨.type T::a::args,y⟩=pure ())
  (B:∀o,argsOk "object.__init__" ⟨o::a::args,y⟩) (q:entryFor table newId=some H) (g:Meets (H ⟨.type T::a::args,y⟩) S)
  (h:S A.in1 (wants (λo n=>n.TypeIs o T/\Q o n) E) s):wpAny (model prog w) A (call (.type T) (a::args) y) Q E s:=by
 obtain⟨c,tl,f⟩:=p.mro
 have b:=p.made
 have d:=p.sub
 refine wpAny_call (codeAny_of_tree ?_)
 refine LM ⟨Code.quiet_builtin _ (by decide+kernel),codeAny_builtin F.entry_type_call ?_⟩
 have h1:=p.notType
 have h2:=p.canCreate
 repeat (any_goals (first|assumption|wp_step))
 refine codeAny_mono (codeAny_call_builtin p.plain q (wpAny_of_eq C (g prog w A.in1 _ s h))) λr n hr=>?_
 match r,hr with
 | .error e,hr=>exact hr
 | .ok (.ret o),hr=>
  obtain⟨G,D⟩:=hr
  have j:=p.init.lookup
  have l:=p.init.bind o
  repeat (any_goals (first|assumption|wp_step))
  refine codeAny_mono (codeAny_call_builtin p.init.plain F.entry_object_init (p.init.check _ _ _ _ _ _ _ _ G (B o) (CO p.init.lookup p.made z prog w A.in1 _ n ⟨G,(show wants (λr u=>r=.none/\Q o u) E (.ok (.ret .none)) n from⟨rfl,D⟩)⟩))) λx u m=>?_
  match x,m with
  | .error e,m=>exact m
  | .ok (.ret r),m=>
   obtain⟨rfl,D⟩:=m
   repeat (any_goals (first|assumption|wp_step))
set_option tactic.hygienic true in
theorem ye (l:Addr)(items:Array Value)(n:Nat)(e:Option Addr)(m:Array (Option Value))(t:Tok):
  Meets (Builtin.«enumerate.__new__» ⟨[.type "enumerate",.ref l],[("start",.int 1 t)]⟩) (λ_ R s=>s.heap.get? l=some {cls:=.type "list",dict:=e,data:=.seq items n,slots:=m}/\
   R (.ok (.ret (.ref (s.heap.push {cls:=.type "list_iterator",data:=.fields #[.ref l,.int 0 0]}).objs.size)))
    {s with heap:=(s.heap.push {cls:=.type "list_iterator",data:=.fields #[.ref l,.int 0 0]}).push {cls:=.type "enumerate",data:=.fields #[.none,.bool false,.ref s.heap.objs.size,rawInt 1,.none,.none]}}):=
 .of_wp λprog w A R s h=>by
  obtain⟨j,g,d,tk,os⟩:=s;obtain⟨a,h⟩:=h
  have f:=sub_enumerate
  have b:Heap.IsList (Shared.heap ⟨j,g,d,tk,os⟩) l items:=⟨_,a,rfl,n,rfl⟩
  wp_walk using wpAny_loadPart' a
  refine wpAny_stack_any λst=>LM ?_
  split
  ·rename_i c _ _ _ _ _
   cases(c==Value.type "enumerate")
   ·wp_walk using wpAny_loadPart' a,Nu b
    exact⟨_,rfl,h⟩
   ·wp_walk using wpAny_loadPart' a,Nu b
    exact⟨_,rfl,h⟩
  ·wp_walk using wpAny_loadPart' a,Nu b
   exact⟨_,rfl,h⟩
theorem uL(g:s.heap.IsList l items)
  (h:∀h',IsEnum h' (s.heap.objs.size+1) s.heap.objs.size 1 .none->h'.IsListIter s.heap.objs.size l 0->
   (∀b o,s.heap.get? b=some o->h'.get? b=some o)->Q (.ref (s.heap.objs.size+1)) {s with heap:=h'}):
  wpAny (model prog w) A (call (.type "enumerate") [.ref l] [("start",.int 1 t)]) Q E s:=by
 obtain⟨⟨c,a,q,j⟩,m,f,n,hd⟩:=g
 subst f hd
 refine yG F.called_enumerate (by decide) (by kernel_rfl) (by kernel_rfl) (λp=>by kernel_rfl) F.entry_enumerate_new (ye l items n a j t) ⟨m,?_⟩
 have d:(s.heap.push {cls:=.type "list_iterator",data:=.fields #[.ref l,.int 0 0]}).objs.size=s.heap.objs.size+1:=Mz ..
 rw[d]
 have e:IsEnum ((s.heap.push {cls:=.type "list_iterator",data:=.fields #[.ref l,.int 0 0]}).push
   {cls:=.type "enumerate",data:=.fields #[.none,.bool false,.ref s.heap.objs.size,rawInt 1,.none,.none]}) (s.heap.objs.size+1) s.heap.objs.size 1 .none:=by
  rw[<-d];exact L4 _ rfl
 exact⟨⟨_,e,rfl⟩,h _ e ⟨_,LU _ (L4 _ rfl),rfl,rfl⟩ λb o x=>LU _ (LU _ x)⟩
theorem DL (c:Nat){it:Addr}{fp:List Addr}{n:Nat}{P:Nat->Value->Prop}{St:Nat->Heap->Prop}(D:Draws prog w A it fp n P St):
  Draws prog w A it fp (n+c) (λj v=>∃i,j=i+c/\P i v) (λj h=>∃i,j=i+c/\St i h) where
 live:=λj h ⟨i,_,st⟩=>D.live i h st
 frame:=λj h h' ⟨i,e,st⟩ k=>⟨i,e,D.frame i h h' st k⟩
 item:=λj s Q E g ⟨i,e,st⟩ b=>by
  subst e
  exact D.item i s Q E (by lia) st λx h' tk p a sb=>b x h' tk ⟨i,rfl,p⟩ ⟨i+1,by lia,a⟩ sb
 done:=λs Q E ⟨i,e,st⟩ f=>by
  have d:n=i:=by lia
  subst d
  exact D.done s Q E st f
theorem aJ.turnedLaid {h':Heap}{t':Nat}{a:Addr}{o:HO}{fp:List Addr}(I:aJ X pins σ H s)(h:∀b∈fp,kC X pins H b)
  (k:∀b u,b∉fp->s.heap.get? b=some u->h'.get? b=some u) (j:s.heap.get? a=none) (new:bV X.prog X.w (upd H a o) h' a o):aJ X pins σ (upd H a o) {s with heap:=h',toks:=t'}:=by
 have d:H a=none:=I.hok.none_of j
 have uX:∀b u,H b=some u->b∉fp:=λb u e z=>by rw[(h b z).1] at e;cases e
 have f:∀b u,s.heap.get? b=some u->b≠a:=λb u e z=>by rw[z,j] at e;cases e
 refine I.step (g':=s.gens) (d':=s.drawn) (ch:=fp) (λb g=>⟨(h b g).2.2.2.1,(h b g).2.1,(h b g).2.2.2.2.1,(h b g).2.2.2.2.2⟩) (λb u _ _ hc e _=>k b u hc e) (λb u _ _ hc e _=>⟨u.slots,k b u hc e⟩) (λb u _ e n=>by rw[ak (f b u e)];exact n)
  (λb u hc e=>⟨u,k b u hc e⟩) (λb xs e=>by rw[ak (ax e d)];exact e) (λb u xs e=>by rw[ak (ax e d)];exact e) (λb ps e=>⟨#[],by rw[ak (ax e d),e];simp⟩) (λm l=>?_) (λb u e=>?_) I.bare
 ·obtain⟨o',es,ep,p,r⟩:=l
  exact⟨o',es,ep,k _ o' (λz=>(h _ z).2.1 rfl) p,r⟩
 ·by_cases g:b=a
  ·subst g;rw[ae] at e;cases e;exact new
  ·rw[ak g] at e
   refine(I.hok b u e).stay (λc v hc q=>k c v ?_ q) (λc q=>by rw[ak (ax q d)];exact q) λc xs q=>by rw[ak (ax q d)];exact q
   rcases hc with rfl|hc
   ·exact uX _ _ e
   ·exact uX _ _ hc
noncomputable def Hr (c:Nat) (K:LO) (a:Addr):It:=
 ⟨λi H=>∃xs x,aF K H a xs/\xs[i]?=some x,λi H x H'=>∃p y,H p=none/\x=.ref p/\H'=upd H p (.tup [.int ((i+c:Nat):Int),y])/\∀xs,aF K H a xs->xs[i]?=some y,λi H=>∃xs,aF K H a xs/\xs.length<=i⟩
theorem oZ (c:Nat){P:Program}{am:List Expr}{x1:Nat}{a6:Pos}(a e it:Addr)(ac:e≠it):nO P w K (.Tuple am x1 a6) (Hr c K a) [e,it] e (λi h=>(∃Z,IsEnum h e it ((i+c:Nat):Int) Z)/\h.IsListIter it a i) where
 mem:=by simp
 obj:=λi h st b hb=>by
  obtain⟨⟨Z,he⟩,o,ho,hc,hd⟩:=st
  rcases LS.mp hb with rfl|hb
  ·exact⟨_,he,λv z=>by
    have z':Data.fields _=Data.cell v:=z
    cases z'⟩
  ·rw[LY.mp hb]
   exact⟨o,ho,λv z=>by rw[hd] at z;cases z⟩
 keep:=λi h h' ⟨⟨Z,he⟩,st⟩ k=>⟨⟨Z,k e (by simp) _ he⟩,st.at λo q=>k it (by simp) o q⟩
 item:=by
  intro X hP hw hK hc i pins s σ H E I hf st hg
  subst hP hw hK
  obtain⟨xs,x,hq,hx⟩:=hg
  obtain⟨⟨Z,he⟩,f⟩:=st
  obtain⟨d,rv,p,hz⟩:=I.list hq
  obtain⟨u,hu,ru⟩:=rv.get hx
  have hl:s.heap.IsList a d.toArray:=p.isList
  obtain⟨ol,g,l,_⟩:=id hl
  obtain⟨oi,r,G,_⟩:=id f
  have S:a≠it:=λz=>by
   rw[z,r] at g;cases g
   rw[G] at l;exact absurd l (by decide)
  have Q:a≠e:=λz=>by
   rw[z,he] at g;cases g
   exact absurd (show Value.type "enumerate" =Value.type "list" from l) (by decide)
  have D:=DL c (Draws.list (prog:=X.prog) (w:=X.w) (A:=X.A.in1) (I.ok.hd hc) it a S d.toArray)
  have Y:i<d.length:=(Mo.mp hu).1
  have n:e<s.heap.objs.size:=LW he
  have U:it<s.heap.objs.size:=LW r
  have nT:s.heap.get? s.heap.objs.size=none:=NX (LL _)
  refine wpAny_pyNext_enum_itemD D he ⟨i,rfl,f,hl⟩ (by simp;lia) ac (by simp[ac,L8 Q]) λx' h' tk hP ho bd hT b5 hk=>⟨_,rfl,?_⟩
  refine wpAny_letOwnedTupleGo_enum (s:={s with heap:=h',toks:=tk+1}) ho λh2 a4 sb=>?_
  obtain⟨i',ei,B⟩:=hP
  have J:i'=i:=by lia
  subst J
  have eu:x'=u:=by
   have:d.toArray[i']?=some u:=by simpa using hu
   rw[this] at B;exact(Option.some.inj B).symm
  subst eu
  obtain⟨j,ej,O⟩:=bd
  have M:j=i'+1:=by lia
  subst M
  have N:h2.get? s.heap.objs.size=some {cls:=.type "tuple",data:=.seq #[.int ((i'+c:Nat):Int) tk,x']}:=(sb.2 _ (Nt n)).trans hT
  refine⟨.ref s.heap.objs.size,upd H s.heap.objs.size (.tup [.int ((i'+c:Nat):Int),x]),aJ.turnedLaid (s:=s) (h':=h2) (fp:=[e,it]) (t':=tk+1) I hf (λb v hb q=>?_) nT ?_,rfl,⟨_,x,I.hok.none_of nT,rfl,rfl,λys hy=>by rw[I.list_inj hy hq];exact hx⟩,⟨⟨x',?_⟩,?_⟩,λb hb=>?_⟩
  ·have m:b≠e:=λz=>hb (by simp[z])
   exact(sb.2 b m).trans (hk b v m (λz=>hb (by simp[z])) q)
  ·exact⟨by show 2<=sizeLine;decide,_,.cons ⟨tk,rfl⟩ (.cons ru .nil),_,N,rfl,_,rfl⟩
  ·have:((i'+1+c:Nat):Int)=((i'+c:Nat):Int)+1:=by lia
   rw[this];exact a4
  ·exact O.1.at λo q=>(sb.2 it (L8 ac)).trans q
  ·have R:b<s.heap.objs.size:=by
    rcases LS.mp hb with rfl|hb
    ·exact n
    ·rw[LY.mp hb];exact U
   rw[ak (L3 R)];exact(hf b hb).1
 done:=by
  intro X hP hw hK hc i pins s σ H E I hf st hg
  subst hP hw hK
  obtain⟨xs,hq,hx⟩:=hg
  obtain⟨⟨Z,he⟩,f⟩:=st
  obtain⟨d,rv,p,hz⟩:=I.list hq
  have W:=rv.length
  have hl:s.heap.IsList a d.toArray:=p.isList
  have hT:s.TypeIs (.ref e) "enumerate" :=⟨_,he,rfl⟩
  obtain⟨f0,f1,f2,f3,f4,f5⟩:=hf it (by simp)
  refine LJ (MZ (Nh (name:=Str.ofString "__next__") hT F.slot_enumerate_next
   (Mu F.slot_enumerate_next hT F.entry_enumerate_next ?_ (F.args_enumerate_next_1 _))))
  show wpAny _ _ (field (.ref e) 2>>=_) _ _ _
  refine LJ (MA he rfl (x:=.ref it) rfl ?_)
  refine LJ (wpAny_nextOf_list_end (I.ok.hd hc) f hl (by simp;lia) λh' y eb hy=>?_)
  obtain⟨o,ho,C⟩:=hy
  refine LJ (NC (T:= "StopIteration") (b:=true) ⟨o,ho,C⟩ isSubtype_stop ?_)
  exact LM ⟨rfl,I.turned (t':=s.toks) (λb o hb e=>eb b o hb e) f0 f1 f3 f4 f5⟩
 self:=λ_ _ _ _ _ ⟨⟨_,he⟩,_⟩ h=>wpAny_pyIter_enum he h
def J8 (K:LO) (tl:TA):TI:=λσ H R=>tl σ H λvs H1=>∃a,vs=[.ref a]/\(∃xs,aF K H1 a xs)/\R (Hr 1 K a) H1
theorem je{c:List (Bool×Sem Value)}{b:List (Option Str×Sem Value)}
  (d:c.any (·.1)=false) (g:b.any (·.1.isNone)=false)
  (h:wpAny M A (evalArgs (.type T) true c b) (λa e=>wpAny M A (call (.type T) a.pos a.kw) Q E e) E s):
  wpAny M A (callWith pos (.type T) [] c b) Q E s:=by
 refine LJ (Ms (Mp h (λa e f=>LJ (wpAny_standAt ?_)) λ_ _ x=>x))
 simp only[d,g,Bool.or_false]
 refine LJ (LM ?_)
 exact LJ (Mp f (λr j hr=>LJ (Ms (wpAny_point (LM hr)))) λ_ _ x=>x)
theorem CG(J:Gl X "enumerate")(B:X.mg "enumerate" =none)(r:bootBuiltins "enumerate" =some (.type "enumerate"))(o:PA X [l] ta)
  (G:starEach [l] X.env=[(false,eval l X.env)]:=by rfl):
  PI X (.Tuple elts x1 pt) (.Call (.Name "enumerate" p) [l] [⟨some "start",.Constant (.int 1) k pc,kp⟩] pos) (J8 X.K ta):=by
 intro pins s σ H R I h
 refine Ng (gi I J B r ?_ (by decide) (by decide))
 have c:=o pos pins s σ H _ I h
 rw[G] at c|-
 refine je rfl rfl (evalArgs_kwB (rest:=[]) rfl (cy c λN A m=>?_))
 obtain⟨vs,H1,I1,r1,z⟩:=m
 obtain⟨a,rfl,⟨xs,C⟩,q⟩:=z
 obtain⟨u,rfl,F⟩:=dF r1
 cases F
 refine kws_cons (cy (ag pins A σ H1 (λv H'=>v=.int 1/\H'=H1) I1 ⟨rfl,rfl⟩) λv f m=>?_)
 obtain⟨x,H2,I2,D,n,w⟩:=m
 subst n w
 obtain⟨t,rfl⟩:=D
 refine kws_nil ?_
 obtain⟨e,O,y,M⟩:=I2.list C
 refine uL y.isList λh' g j E=>?_
 refine wpAny_pyIter_enum (s:={f with heap:=h'}) g ?_
 refine⟨f.heap.objs.size+1,[f.heap.objs.size+1,f.heap.objs.size],_,_,H2,rfl,I2.kept (t':=f.toks) E,oZ 1 a _ _ (Nat.succ_ne_self _),⟨⟨_,g⟩,j⟩,λb hb=>?_,q⟩
 have d:f.heap.objs.size<=b:=by
  rcases LS.mp hb with rfl|hb
  ·exact Nat.le_succ _
  ·rw[LY.mp hb];exact LL _
 exact I2.fpOk d (I2.hok.fresh d)
theorem Cg {a:Addr}{xs:List V}{j:St}{g:TG}{l:TT}{te:TE}{n:Hp}{D:Addr}{Q:Hp->Prop}(f:Nat->St->Hp->Prop)(h0:f 0 j (upd n D (.lst [])))
  (w:∀i c H,i<=xs.length->f i c H->aF K H a xs)
  (o:∀i y p c H,xs[i]?=some y->f i c H->H p=none->g (.ref p) c (upd H p (.tup [.int ((i+1:Nat):Int),y])) λd H2=>l d H2 λb H3=>
   if b=true then te d H3 λv H4=>∃h,H4 D=some (.lst h)/\h.length<sizeLine/\f (i+1) d (upd H4 D (.lst (h++[v]))) else f (i+1) d H3)
  (hd:∀c H,f xs.length c H->Q H):tW j g l te (Hr 1 K a) n D Q:=by
 refine⟨λi m c H=>m=xs.length - i/\i<=xs.length/\f i c H,⟨xs.length,by simp,L0 _,h0⟩,?_⟩
 rintro i m c H ⟨rfl,hi,p⟩
 have q:=w i c H hi p
 by_cases hlt:i<xs.length
 ·refine .inr ⟨⟨xs,xs[i],q,by simp[hlt]⟩,f (i+1),λs H' r=>⟨xs.length - (i+1),by omega,rfl,hlt,r⟩,λx H' y=>?_⟩
  obtain⟨P,z,A,rfl,rfl,u⟩:=y
  exact o i z P c _ (u xs q) p A
 ·have e:i=xs.length:=by omega
  subst e
  exact .inl ⟨⟨xs,q,LL _⟩,hd c H p⟩
theorem yB (e:X.K=K):cT X (.builtin "len") (λxs H Q=>∃x n,xs=[x]/\Cz K x H n/\Q (.int n) H):=by subst e;exact aU
theorem fG {a:Pos}{es:List Expr}{k:Nat}{t:IS}{n:Nat}(c:X.calm=true)(e:X.K=K)(h:Jz X es t)
  (d:(assignEach es X.env).length=n) (b:(assignEach es X.env).findIdx? (·.1)=none):PG X (.Tuple es k a) (Ip K n t):=by subst e;exact cV c h d b
theorem xo (a:Array Nat):∀(m:Nat) (b:Array Nat),((List.replicate m a).foldl (· ++ ·) b).toList=b.toList++(List.replicate m a.toList).flatten
 |0,b=>by simp
 |m+1,b=>by rw[List.replicate_succ,Mx,xo a m];simp[List.replicate_succ]
def Jp:R2:=λx y H Q=>∃z k,x=.str z/\y=.int k/\0<=k/\k<=100/\z.length<=100/\∀r,cp r=(List.replicate k.toNat (cp z)).flatten->Q (.str r) H
theorem D5:gy X (binaryOp .Mult) Jp:=by
 intro pins s σ H x y v u Q I f j h
 obtain⟨z,k,rfl,rfl,h1,h2,d,q⟩:=h
 obtain⟨t,rfl⟩:=f
 obtain⟨l,rfl⟩:=j
 have c:z.length*k.toNat<=100*100:=Nat.mul_le_mul d (by lia)
 have b:z.length*k.toNat<=sizeLine:=LR c (by decide)
 refine P.mul_str ?_ (λ_ _=>?_) (λ_ _=>?_) ?_
 ·rw[decide_eq_false (by lia),decide_eq_false (by lia)];rfl
 ·have:(100:Int)<=(2^63 - 1)/k:=by
   by_cases hk:k=0
   ·lia
   ·exact Int.le_ediv_of_mul_le (by lia) (by lia)
  lia
 ·unfold Builtin.Str.tooLong;exact decide_eq_false (by lia)
 ·by_cases h0:k<1
  ·rw[if_pos h0]
   have e:k=0:=by lia
   subst e
   exact⟨by decide,.str _,H,I.tok _,⟨_,rfl⟩,q _ rfl⟩
  ·rw[if_neg h0]
   split
   ·rename_i hh
    refine⟨.str z,H,I,⟨t,rfl⟩,q _ ?_⟩
    rcases Bool.or_eq_true .. |>.mp hh with hh|hh
    ·have e:k=1:=by simpa using hh
     subst e
     simp
    ·have e:z.length=0:=by simpa using hh
     have g:cp z=[]:=Ox (by rw[Mt];exact e)
     rw[g];simp
   ·have a:=xo z.cps k.toNat #[]
    refine⟨?_,.str _,H,I.tok _,⟨_,rfl⟩,q _ (by simpa using a)⟩
    have:(List.replicate k.toNat (cp z)).flatten.length=k.toNat*(cp z).length:=EV _ _
    show(List.foldl (· ++ ·) #[] (List.replicate k.toNat z.cps)).size<=sizeLine
    rw[<-Mt,a]
    simp only[NP,this,Mt]
    rw[Nat.mul_comm];exact b
end
noncomputable def res:List (Bool×Bool)->Bool->Bool
 |[],z=>z
 |(true,_)::r,z=>res r z
 |(false,b)::_,_=>b
def LF (K:LO) (H:Hp) (kd:Bool) (m:V) (l:List Int):Prop:=
 (kd=false/\∃i,m=.int i/\l=[i])\/(kd=true/\∃b i j,m=.ref b/\bW K H b [.int i,.int j]/\l=[i,j])
def Pr (K:LO) (H:Hp) (kd:Bool) (v:V) (k:List Int):Prop:=∃a p m l,v=.ref a/\bW K H a [.int p,m]/\LF K H kd m l/\k=p::l
theorem jT {b:Type}(f:b->Int)(c:Int):∀(l:List b),(l.map f).Nodup->(l.filter λx=>f x==c).length<=1
 |[],_=>by simp
 |a::r,h=>by
  rw[L1,MG] at h
  have d:=jT f c r h.2
  by_cases e:f a=c
  ·have z:(r.filter λx=>f x==c)=[]:=by
    refine List.filter_eq_nil_iff.mpr λx g q=>h.1 ?_
    rw[e]
    exact LN.mpr ⟨x,g,by simpa using q⟩
   rw[Oy (p:=λx=>f x==c) (by simpa using e),z]
   exact LL _
  ·rw[Oz (p:=λx=>f x==c) (by simpa using e)]
   exact d
theorem yk{Q:Bool->Shared->Prop}(a:s.TypeIs (.ref b) "tuple")(h:Q false s):wpAny (model prog w) A (Builtin.Dict.quietEq (.ref b)) Q E s:=by
 refine LJ (N3 a F.slot_tuple_eq.lookup (LM ?_))
 exact h
theorem sR {id:String}{d:Addr}{o:Obj}{es:Array DictEntry}{ep:Nat}{Q:Array DictEntry->Shared->Prop}(m:s.heap.get? d=some o)(hd:o.data=.dict es ep)
  (l:∀e∈es,∃b,e.key=.ref b/\s.TypeIs (.ref b) "tuple") (n:(es.toList.map (·.hash)).Nodup) (h:Q es s):wpAny (model prog w) A (Builtin.Dict.entriesForEmpty id d) Q E s:=by
 refine LJ (M0 m hd (LJ ?_))
 rw[<-Array.forIn_toList]
 refine wpAny_forIn_list _ (λrest _ s'=>s'=s/\∀e∈rest,e∈es) _ ?_ ?_ _ _ ⟨rfl,λe j=>Nc.mp j⟩
 ·rintro e rest u s' ⟨rfl,a⟩
  obtain⟨b,f,g⟩:=l e (a e LX)
  rw[f]
  refine LJ (yk g ?_)
  have one:¬(es.filter (·.hash==e.hash)).size>1:=by
   have:=jT (λx:DictEntry=>x.hash) e.hash es.toList n
   rw[<-Mt,Array.toList_filter]
   omega
  rw[if_neg one]
  exact LM ⟨rfl,λx c=>a x (LZ _ c)⟩
 ·rintro u s' ⟨rfl,_⟩
  exact LM h
theorem zx{Q:Unit->Shared->Prop}(m:d≠o)(l:(o==sysModules)=false)
  (hd:s.heap.get? d=some od) (g:od.ExactDict) (c:od.data=.dict #[] ep') (j:s.heap.get? o=some oo) (f:oo.data=.dict es ep)
  (q:∀e∈es,∃b,e.key=.ref b/\s.TypeIs (.ref b) "tuple") (x:(es.toList.map (·.hash)).Nodup) (hz:es.size<=sizeLine)
  (n:∀h',(∃o' h,h'.get? d=some o'/\o'.ExactDict/\o'.data=.dict es h)->Heap.SameBut d s.heap h'->Q () {s with heap:=h'}):
  wpAny (model prog w) A (Builtin.Dict.mergeDict nm d o) Q E s:=by
 unfold Builtin.Dict.mergeDict
 rw[if_neg (by simpa using m)]
 unfold Builtin.Dict.showsAll
 rw[if_neg (by rw[l];exact L6)]
 refine LJ (LM (LJ (M0 j f ?_)))
 by_cases he:es= #[]
 ·subst he
  rw[if_neg (by simp)]
  refine LJ (N7 j f (LJ (M0 j f (LJ ?_))))
  rw[Std.Legacy.Range.forIn_eq_forIn_range']
  exact LM (LM (n s.heap ⟨od,ep',hd,g,c⟩ (Heap.SameBut.refl _ _)))
 ·have a:(decide (es.size<=8)&&es.all λe=>(keyPart e.key).isSome)=false:=by
   rw[Bool.and_eq_false_iff]
   refine .inr (Bool.eq_false_iff.mpr λz=>he ?_)
   rw[<-Array.all_toList,NB] at z
   refine Array.eq_empty_of_size_eq_zero (Nat.eq_zero_of_not_pos λr=>?_)
   have p:es[0]∈es:=Array.getElem_mem r
   obtain⟨b,u,_⟩:=q _ p
   have y:=z _ (Nc.mpr p)
   rw[u] at y
   exact absurd y L6
  rw[a]
  refine LJ (M0 hd c ?_)
  refine LJ (sR j f q x ?_)
  rw[if_pos (by simpa using he)]
  exact LJ (wpAny_updateDictKeysTo hd c (LM (n _ ⟨_,ep'+1,MW _ hd (Obj.isFreed_of_dict (Obj.data_mapDictKeys c _)),g.mapDictKeys _,Obj.data_mapDictKeys c _⟩ (Heap.SameBut.update ..))) (by lia))
theorem og(g:(o==sysModules)=false)(n:s.heap.get? o=some oo)(m:oo.ExactDict)(l:oo.data=.dict es ep)
  (D:∀e∈es,∃b,e.key=.ref b/\s.TypeIs (.ref b) "tuple") (B:(es.toList.map (·.hash)).Nodup) (hz:es.size<=sizeLine)
  (h:∀h',(∃o' f,h'.get? s.heap.objs.size=some o'/\o'.ExactDict/\o'.data=.dict es f)->(∀b u,s.heap.get? b=some u->h'.get? b=some u)->Q (.ref s.heap.objs.size) {s with heap:=h'}):
  wpAny (model prog w) A (call (.type "dict") [.ref o]) Q E s:=by
 refine callType_codes (Q₁:=λv d=>v=.ref s.heap.objs.size/\d={s with heap:=s.heap.push {cls:=.type "dict",data:=.dict #[]}}) F.kt_called_dict (F.kt_typeCall_dict_1 _) F.entry_dict_init (kt_code_dict_new _ ⟨rfl,rfl⟩) ?_
 rintro v d ⟨rfl,rfl⟩
 have a:∀b u,s.heap.get? b=some u->(s.heap.push {cls:=.type "dict",data:=.dict #[]}).get? b=some u:=λb u x=>LU _ x
 have p:Shared.TypeIs {s with heap:=s.heap.push {cls:=.type "dict",data:=.dict #[]}} (.ref s.heap.objs.size) "dict" :=⟨_,L4 _ rfl,rfl⟩
 have j:Shared.TypeIs {s with heap:=s.heap.push {cls:=.type "dict",data:=.dict #[]}} (.ref o) "dict" :=⟨oo,a _ _ n,m.1⟩
 have c:o<s.heap.objs.size:=LW n
 refine⟨p,F.args_dict_init_2 _ _,?_⟩
 refine LJ ?_
 refine LJ (Oi p ?_)
 refine LM ?_
 show wpAny _ _ (Builtin.Dict.updateFrom "dict.__init__" s.heap.objs.size (.ref o) [] .none) _ _ _
 refine LJ (N8 j ?_)
 refine LJ ?_
 refine LJ ?_
 refine LJ (NC j isSubtype_dict_dict ?_)
 refine LJ (N3 j F.slot_dict_iter.lookup (LM ?_))
 refine zx (Nt c) g (L4 _ rfl) ⟨rfl,rfl,rfl⟩ rfl (a _ _ n) l (λe C=>?_) B hz λh' new sb=>?_
 ·obtain⟨b,r,y,z,q⟩:=D e C
  exact⟨b,r,y,a _ _ z,q⟩
 ·exact LJ (LM (LM ⟨rfl,h h' new λb u x=>sb.extBut b u (L3 (LW x)) (a _ _ x)⟩))
def p5 (P:Program) (w:World) (kvs:List (List cS×V)):Prop:=(kvs.map λp=>tupleKeyHash (bo P w) p.1).Nodup
theorem KT.keys {kvs:List (List cS×V)}{xs:List (List cS×Addr×Value)}(r:KT H kvs xs):kvs.map (·.1)=xs.map (·.1):=by
 induction r with
 |nil=>rfl
 |cons h _ ih=>rw[L1,L1,ih,h.1]
section
variable {a:Addr}
theorem EB {kvs:List (List cS×V)}(I:aJ X pins σ H s)(e:Rd H a (.dT kvs))(J:p5 X.prog X.w kvs)(h:∀p s',H p=none->aJ X pins σ (upd H p (.dT kvs)) s'->Q (.ref p) s'):wpAny (model X.prog X.w) A (call (.type "dict") [.ref a]) Q E s:=by
 obtain⟨z,hd,xs,c,o,es,ep,B,G,d,m,f,u⟩:=rO I.hok e
 have N:es.size=xs.length:=size_of_entries m
 have j:kvs.length=xs.length:=Paired.length c
 refine og hd B G d (λx F=>?_) ?_ (by lia) λh' new l=>?_
 ·have C:x∈xs.map (entryOfKey (tupleKind (bo X.prog X.w))):=m▸Nc.mpr F
  obtain⟨y,D,rfl⟩:=LN.mp C
  obtain⟨K,_,_,h1,h2,_⟩:=f y D
  exact⟨y.2.1,rfl,K,h1,h2⟩
 ·rw[m,LV]
  have:xs.map ((λx:DictEntry=>x.hash)∘entryOfKey (tupleKind (bo X.prog X.w)))=kvs.map λp=>tupleKeyHash (bo X.prog X.w) p.1:=by
   have r:xs.map ((λx:DictEntry=>x.hash)∘entryOfKey (tupleKind (bo X.prog X.w)))=(xs.map (·.1)).map (tupleKeyHash (bo X.prog X.w)):=by rw[LV];rfl
   rw[r,<-c.keys,LV];rfl
  rw[this];exact J
 ·obtain⟨o',g,h1,h2,M⟩:=new
  have n:H s.heap.objs.size=none:=I.hok.fresh (LL _)
  refine h _ _ n (I.laid (a:=s.heap.objs.size) (o:=.dT kvs) (t':=s.toks) l (LL _) ⟨z,beq_eq_false_iff_ne.mpr (L8 (L3 I.big)),xs,c.keeps λb ys q=>?_,o',es,g,h1,h2,M,m,u⟩)
  rw[ak (ax q n)];exact q
end
noncomputable def Ju (P:Program) (w:World):List V->Hp->VK->Prop:=λxs H Q=>∃a,xs=[.ref a]/\
 ((∃kvs,Rd H a (.dK kvs)/\∀p,H p=none->Q (.ref p) (upd H p (.dK kvs)))\/∃kvs,Rd H a (.dT kvs)/\p5 P w kvs/\∀p,H p=none->Q (.ref p) (upd H p (.dT kvs)))
theorem yI:cT X (.type "dict") (Ju X.prog X.w):=by
 intro pins s σ H xs f Q I r h
 obtain⟨a,rfl,h⟩:=h
 obtain⟨u,rfl,c⟩:=dF r
 cases c
 rcases h with ⟨kvs,e,q⟩|⟨kvs,e,d,q⟩
 ·exact B_ I e λp s' b I'=>⟨.ref p,_,I',rfl,q p b⟩
 ·exact EB I e d λp s' b I'=>⟨.ref p,_,I',rfl,q p b⟩
theorem y8:typeLookup (.type "list_reverseiterator") "__len__" =pure none:=by rw[typeLookup_type,builtinLookup_eq_fast];kernel_rfl
theorem B7:typeLookup (.type "list_reverseiterator") "__length_hint__" =pure (some (.builtin "list_reverseiterator.__length_hint__")):=by rw[typeLookup_type,builtinLookup_eq_fast];kernel_rfl
section
variable {I:Addr} {fp wr:List Addr} {G:Array GenState->Array GenState->Prop} {n:Nat} {P:Nat->Value->Prop} {St:Nat->Shared->Prop}
theorem vq(W:WalksS prog w A.in1 I fp wr G n P St)(o:∀i s,St i s->s.TypeIs (.ref I) "list_reverseiterator")(S:Addr)(res:Value)(j:Nat)(d:St 0 s)(h:S∉fp)(x:I∈fp)
  (B:s.heap.get? S=some {cls:=.type "list",data:=.seq #[] j}) (z:n<=sizeLine)
  (y:∀s' c g,Moved (S::wr) G s s'->s'.heap.get? S=some {cls:=.type "list",dict:=none,data:=.seq c g,slots:= #[]}->ItemsOf P c n->R (.ok (.ret res)) s'):
  wpAny (model prog w) A.in1 (Builtin.List.listExtendWith (.ref S) (.ref I) res)
   (λp s'=>match p with| .done f=>R (.ok f) s'| .again g=>g.quiet=true/\codeAny (model prog w) A g R s') (λe s'=>R (.error e) s') s:=by
 have a:S≠I:=λe=>h (e▸x)
 unfold Builtin.List.listExtendWith
 refine LJ (N8 (o 0 _ d) ?_)
 have h1:Builtin.List.listSameRef (.ref S) (.ref I)=false:=by simp[Builtin.List.listSameRef,a]
 rw[if_neg (by rw[h1];decide)]
 refine LJ (W.self 0 _ _ _ d (LJ (Ms ?_)))
 unfold Builtin.List.listLengthHint
 refine LJ (N3 (o 0 _ d) y8 ?_)
 show wpAny _ A.in1 (specialOf (Value.ref I) (Str.ofString "__length_hint__")>>=_) _ _ _
 refine LJ (N3 (o 0 _ d) B7 ?_)
 generalize m:("list_reverseiterator.__length_hint__" :String)=r
 wp_delta
 rw[show splitId r=some ("list_reverseiterator", "__length_hint__") from by subst m;decide+kernel]
 subst m
 refine LJ (NC (b:=true) (o 0 _ d) (by rw[isSubtype_type];kernel_rfl) (LM ?_))
 rw[if_neg (by decide)]
 exact LM ⟨plainId_quiet F.plain_extend_loop _,codeAny_extend_loopS W z _ h _ n 0 _ _ _ rfl (L0 _) d B (ItemsOf.nil P) λs' c g u q l=>y s' c g u q l⟩
theorem nR(W:WalksS prog w A.in1.in1 I fp wr G n P St)(D:∀i s,St i s->s.TypeIs (.ref I) "list_reverseiterator")(B:St 0 s)(r:∀b∈fp,b<s.heap.objs.size)(H:I∈fp)(J:n<=sizeLine)
  (C:∀s' g y,Moved (s.heap.objs.size::wr) G {s with heap:=s.heap.push {cls:=.type "list",data:=.seq #[]}} s'->
   s'.heap.get? s.heap.objs.size=some {cls:=.type "list",dict:=none,data:=.seq g y,slots:= #[]}->ItemsOf P g n->Q (.ref s.heap.objs.size) s'):
  wpAny (model prog w) A (call (.type "list") [.ref I]) Q E s:=by
 have c:s.heap.objs.size∉fp:=λu=>ML _ (r _ u)
 refine callType_codes (Q₁:=λv j=>v=.ref s.heap.objs.size/\j={s with heap:=s.heap.push {cls:=.type "list",data:=.seq #[]}}) F.called_list (F.typeCall_list_1 _) F.entry_list_init
  (code_list_new _ ⟨rfl,rfl⟩) λv j l=>?_
 obtain⟨rfl,rfl⟩:=l
 have q:(s.heap.push {cls:=.type "list",data:=.seq #[]}).get? s.heap.objs.size=some {cls:=.type "list",data:=.seq #[]}:=L4 _ rfl
 refine⟨⟨_,q,rfl⟩,F.args_list_init_2 _ _,?_⟩
 have d:=W.frame 0 s _ s.toks B (LL _) λb _ o e=>LU {cls:=.type "list",data:=.seq #[]} e
 show wpAny _ A.in1.in1 (do let x<-Builtin.List.listItems (.ref s.heap.objs.size);Builtin.List.listUpdate (.ref s.heap.objs.size) (λ_=> #[]);letGo x.toList.reverse;Builtin.List.listExtendWith (.ref s.heap.objs.size) (.ref I) .none) _ _ _
 refine LJ ?_
 unfold Builtin.List.listItems
 refine LJ (Ni q rfl (LM ?_))
 show wpAny _ A.in1.in1 (updateSeq s.heap.objs.size (λ_=> #[])>>=λ_=>letGo (#[]:Array Value).toList.reverse>>=λ_=>Builtin.List.listExtendWith (.ref s.heap.objs.size) (.ref I) .none) _ _ _
 refine LJ (wpAny_updateSeq q rfl ?_)
 have f:=MW (Obj.mapSeq (λ_=>(#[]:Array Value))) q rfl
 have a:∀b o,b≠s.heap.objs.size->(s.heap.push {cls:=.type "list",data:=.seq #[]}).get? b=some o->((s.heap.push {cls:=.type "list",data:=.seq #[]}).update s.heap.objs.size (Obj.mapSeq (λ_=>(#[]:Array Value)))).get? b=some o:=
  λb o p e=>(Heap.get?_update_other _ _ (L8 p)).trans e
 refine LJ (wpAny_letGo ?_)
 refine vq W D _ .none _ (W.frame 0 _ _ s.toks d (LL _) λb p o e=>a b o (λh=>c (h▸p)) e) c H f J λs' g y u z m=>?_
 exact⟨rfl,C s' g y (Moved.trans W.gtrans ((Moved.refl W.grefl).then_heap (LL _) λb o p e=>a b o (λh=>p (h▸LX)) e) u) z m⟩
end
def AX (K:LO) (te:TE):TE:=λσ H Q=>te σ H λx H1=>∃l ys,x=.ref l/\aF K H1 l ys/\∀p,H1 p=none->Q (.ref p) (upd H1 p (.lst ys.reverse))
theorem mK(hc:X.calm=true)(hg:Gl X "list")(hm:X.mg "list" =none)(N:Gl X "reversed")(O:X.mg "reversed" =none)(he:PE X e te)
  (P:starEach [Expr.Call (.Name "reversed" p2) [e] [] pos2] X.env=[(false,eval (.Call (.Name "reversed" p2) [e] [] pos2) X.env)]:=by rfl) (E:starEach [e] X.env=[(false,eval e X.env)]:=by rfl):
  PE X (.Call (.Name "list" p1) [.Call (.Name "reversed" p2) [e] [] pos2] [] pos1) (AX X.K te):=by
 intro pins s σ H Q I h
 refine Ng (gi I hg hm jz ?_ (by decide) (by decide))
 refine PyProof.Rows.callWith_type1 ?_ P rfl
 rw[P]
 show wpAny _ _ (spliced [(false,eval (.Call (.Name "reversed" p2) [e] [] pos2) X.env)]) _ _ s
 refine Calls.spliced_cons ?_
 refine Ng (gi I N O rE ?_ (by decide) (by decide))
 refine PyProof.Rows.callWith_type1 ?_ E rfl
 rw[E]
 show wpAny _ _ (spliced [(false,eval e X.env)]) _ _ s
 refine Calls.spliced_cons (cy (he pins s σ H _ I h) λu B ⟨x,H1,I1,ru,l,ys,ex,Z,q⟩=>Calls.spliced_nil ?_)
 subst ex
 cases(show u=Value.ref l from ru)
 obtain⟨d,T,M,R⟩:=I1.list Z
 have m:l<B.heap.objs.size:=by obtain⟨o,Y,_⟩:=M.isList;exact LW Y
 refine call_reversed_list M.isList (Calls.spliced_nil ?_)
 have S:∀b o,B.heap.get? b=some o->(B.heap.push (revObj l ((d.toArray.size:Int) - 1))).get? b=some o:=λb o z=>LU _ z
 have I2:=I1.kept (t':=B.toks) S
 have hI:(B.heap.push (revObj l ((d.toArray.size:Int) - 1))).IsRevIter B.heap.objs.size l ((d.toArray.size:Int) - 1):=⟨_,L4 _ rfl,rfl,rfl⟩
 have p:(B.heap.push (revObj l ((d.toArray.size:Int) - 1))).IsList l d.toArray:=M.isList.at λo z=>S _ _ z
 have W:=(Walks.listRev (prog:=X.prog) (w:=X.w) (A:=X.A.in1.in1) (I1.ok.hd hc) B.heap.objs.size l (L3 m) d.toArray).toS
 have f:(B.heap.push (revObj l ((d.toArray.size:Int) - 1))).objs.size=B.heap.objs.size+1:=Mz ..
 have y:d.toArray.size<=sizeLine:=by rw[Ma,<-T.length];exact R
 refine nR W (λi s' st=>st.2.1.typeIs) ⟨L0 _,by simpa using hI,p⟩ (λb hb=>?_) (by simp) y λs' C c F hS ⟨D,G⟩=>?_
 ·show b<(B.heap.push _).objs.size
  rw[f]
  rcases LS.mp hb with rfl|hb
  ·exact NZ _
  ·rw[LY.mp hb];exact N5 m
 ·have es:=Moved.eq_with F
  have n:H1 (B.heap.objs.size+1)=none:=I1.hok.fresh (Nat.le_succ _)
  have U:aW ys.reverse C.toList:=by
   have e:C.toList=d.reverse:=by
    refine N6 λj=>?_
    rcases Nat.lt_or_ge j d.length with hj|hj
    ·have g:j<C.size:=by rw[D];simpa using hj
     have:=G j C[j] (Nj g)
     rw[List.getElem?_reverse hj,ND,Nj g,<-this]
     simp
    ·rw[NQ (by rw[Mt,D];simpa using hj),NQ (by simpa using hj)]
   rw[e];exact T.reverse
  have r:s'.heap.get? (B.heap.objs.size+1)=some {cls:=.type "list",dict:=none,data:=.seq C c,slots:= #[]}:=by rw[<-f];exact hS
  have J:=aJ.turnedLaid (a:=B.heap.objs.size+1) (o:=.lst ys.reverse) (h':=s'.heap) (t':=s'.toks) (fp:=[B.heap.objs.size]) I2 (λb hb=>?_) (λb o hb z=>?_) (NX (by show(B.heap.push _).objs.size<=_;rw[f];exact LL _))
   (show bV X.prog X.w _ s'.heap _ (.lst ys.reverse) from⟨by rw[NR];exact R,C.toList,c,U,by simpa using r⟩)
  ·rw[es]
   refine⟨.ref (B.heap.objs.size+1),_,J,?_,q _ n⟩
   show Value.ref (B.heap.push _).objs.size=_
   rw[f]
  ·rw[LY.mp hb];exact I1.fpOk (LL _) (I1.hok.fresh (LL _))
  ·refine F.heap b o (λhx=>?_) (LU _ z)
   rcases LS.mp hx with e|hx
   ·have:=LW z;rw[e] at this;exact ML _ this
   ·exact hb hx
theorem bL.one(r:bL k A):A.units+1<cLine:=by have:=r.un;lia
theorem iZ(c:Ev td σ H (.ref a))(b:Ev ty σ H y)(g:jy H a y (some v)):Ev (wM td ty) σ H v:=λ_ q=>c _ (b _ ⟨a,v,rfl,g,q⟩)
section
variable {d:Addr} {u:HO} {o:Obj}
theorem bV.upd(ok:bV P w H h b x)(a:∀xs,H d≠some (.tup xs))(e:∀y,H d≠some (.own y)):bV P w (L2.upd H d v) h b x:=
 ok.stay (λ_ _ _ q=>q) (λc q=>by rw[ak (λz=>by rw[z] at q;exact e _ q)];exact q) λc xs q=>by rw[ak (λz=>by rw[z] at q;exact a _ q)];exact q
theorem aJ.freeze (I:aJ X pins σ H s)(e:H d=some u)(f:FR (some u)):∃o,aJ X pins σ (upd H d (.frz o u)) s/\s.heap.get? d=some o:=by
 have ok:=I.hok d u e
 obtain⟨o,c⟩:∃o,s.heap.get? d=some o:=by
  cases u with
  |lst xs=>obtain⟨_,_,_,_,z⟩:=ok;exact⟨_,z⟩
  |dK kvs=>obtain⟨_,_,_,_,o,_,_,z,_⟩:=ok;exact⟨o,z⟩
  |dT kvs=>obtain⟨_,_,_,_,o,_,_,z,_⟩:=ok;exact⟨o,z⟩
  |set S n=>obtain⟨o,_,_,_,z,_⟩:=ok;exact⟨o,z⟩
  |ins C dx fs=>obtain⟨_,_,_,z,_⟩:=ok;exact⟨_,z⟩
  |ext φ=>obtain⟨_,z,_⟩:=ok;exact z
  |_=>exact f.elim
 have a:FR (H d):=by rw[e];exact f
 refine⟨o,I.write (t':=s.toks) (h':=s.heap) (x:=d) (e:=d) (o:=.frz o u) a (.inl rfl) (λb v _ q=>q) ⟨o,c⟩ ⟨c,?_⟩,c⟩
 exact ok.upd (λxs z=>by rw[z] at a;exact a) (λy z=>by rw[z] at a;exact a)
theorem aJ.thaw (I:aJ X pins σ H s)(e:H d=some (.frz o u))(l:∀o' j,X.H₀ d≠some (.frz o' j)):aJ X pins σ (upd H d u) s:=by
 have a:∀b,H b=none->b≠d:=λb n z=>by rw[z,e] at n;cases n
 have f:∀xs,H d≠some (.tup xs):=λxs z=>by rw[e] at z;cases z
 have g:∀y,H d≠some (.own y):=λy z=>by rw[e] at z;cases z
 have B:=I.base
 refine⟨I.ok,I.os,I.bare,⟨B.keep,B.slot,λb v q n r=>?_,B.there,λb xs q=>?_,λb v w q=>?_,λb ps q=>?_⟩,I.loc,I.cell,?_,λx c q=>?_,λp h=>?_,λb v q=>?_,I.len⟩
 ·have:=B.free b v q n r
  rw[ak (a b this)];exact this
 ·have:=B.tups b xs q
  rw[ak (λz=>by rw[z] at this;exact f _ this)];exact this
 ·have:=B.frzs b v w q
  rw[ak (λz=>by rw[z] at q;exact l _ _ q)];exact this
 ·obtain⟨more,this⟩:=B.tbls b ps q
  exact⟨more,by rw[ak (λz=>by rw[z,e] at this;cases this)];exact this⟩
 ·rw[ak (a _ I.free)];exact I.free
 ·rw[ak (a _ (I.freeC x c q))];exact I.freeC x c q
 ·obtain⟨h1,h2,m⟩:=I.pin p h
  exact⟨h1,by rw[ak (a _ h2)];exact h2,m⟩
 ·by_cases hb:b=d
  ·subst hb
   rw[ae] at q;cases q
   obtain⟨_,z⟩:=I.hok b _ e
   exact z.upd f g
  ·rw[ak hb] at q
   exact(I.hok b v q).upd f g
end
noncomputable def Lc (D:fX) (d:Addr) (o:Obj) (u:HO):fX:=
 ⟨λa H1=>H1 d=some (.frz o u)/\D.nx a (upd H1 d u),λv H1=>H1 d=some (.frz o u)/\D.rt v (upd H1 d u),λa H1=>H1 d=some (.frz o u)/\D.bk a (upd H1 d u),λa H1=>H1 d=some (.frz o u)/\D.ct a (upd H1 d u)⟩
def K5 (t:TS):TS:=λD σ H=>∃d u,H d=some u/\FR (some u)/\∀o,t (Lc D d o u) σ (upd H d (.frz o u))
theorem Ad(h:PS X a t):PS X a (K5 t):=by
 intro pins s σ H D I n
 obtain⟨d,u,e,m,q⟩:=n
 have j:∀o' l,X.H₀ d≠some (.frz o' l):=λo' l z=>by
  have:=I.base.frzs d o' l z
  rw[e] at this;cases this;exact m
 obtain⟨o,I1,_⟩:=I.freeze e m
 refine cy (h pins s σ _ _ I1 (q o)) λf s' g=>?_
 cases f with
 |next=>obtain⟨b,H',I',c,k⟩:=g;exact⟨b,_,I'.thaw c j,k⟩
 |brk=>obtain⟨b,H',I',c,k⟩:=g;exact⟨b,_,I'.thaw c j,k⟩
 |cont=>obtain⟨b,H',I',c,k⟩:=g;exact⟨b,_,I'.thaw c j,k⟩
 |ret v=>obtain⟨x,b,H',I',r,c,k⟩:=g;exact⟨x,b,_,I'.thaw c j,r,k⟩
noncomputable def kR:HO->Nat
 | .dK kvs=>kvs.length
 | .dT kvs=>kvs.length
 |_=>0
def pE:HO->Prop
 | .dK _=>True
 | .dT _=>True
 |_=>False
noncomputable def ja (H:Hp):HO->Nat->V->V->Prop
 | .dK kvs,i,x,v=>∃k,kvs[i]?=some (k,v)/\x=kV k
 | .dT kvs,i,x,v=>∃k b,kvs[i]?=some (k,v)/\x=.ref b/\H b=some (.tup (k.map kV))
 |_,_,_,_=>False
theorem fJ {a b:Type}{R:a->b->Prop}:∀{xs:List a} {ys:List b} (_:Paired R xs ys) (i:Nat) (hi:i<ys.length),∃x,xs[i]?=some x/\R x ys[i]
 |_,_,.nil,i,hi=>absurd hi (Nat.not_lt_zero _)
 |_,_,.cons r _,0,_=>⟨_,rfl,r⟩
 |_,_,.cons _ t,i+1,hi=>by
  obtain⟨x,h1,h2⟩:=fJ t i (by simpa using hi)
  exact⟨x,by simpa using h1,by simpa using h2⟩
theorem iB(ok:iL P w H h)(e:H d=some (.frz o u))(D:pE u):(d==sysModules)=false/\h.get? d=some o/\o.ExactDict/\
  ∃es ep,o.data=.dict es ep/\es.size=kR u/\∀i (hi:i<es.size),∃x v,ja H u i x v/\aZ x es[i].key/\aZ v es[i].val:=by
 obtain⟨b,k⟩:=ok d _ e
 cases u with
 |dK kvs=>
  obtain⟨z,c,vs,a,o',es,ep,h1,h2,m,f,n,E⟩:=k
  rw[b] at h1;cases h1
  have l:es.size=vs.length:=by rw[<-n.length];simp
  refine⟨c,b,h2,es,ep,m,by rw[l,<-a.length];rfl,λi hi=>?_⟩
  obtain⟨p,g,q,r1⟩:=fJ a i (by omega)
  obtain⟨s,C⟩:=n.get? (i:=i) (e:=es[i]) (k:=vs[i].1) (v:=vs[i].2) (by simp[hi]) (by rw[Mi])
  refine⟨kV p.1,p.2,⟨p.1,g,rfl⟩,?_,by rw[C];exact r1⟩
  rw[<-q] at s
  rcases cE s with ⟨j,t,A,r⟩|⟨j,t,A,r⟩<;>rw[A,r]<;>exact⟨t,rfl⟩
 |dT kvs=>
  obtain⟨z,c,xs,a,o',es,ep,h1,h2,m,f,n⟩:=k
  rw[b] at h1;cases h1
  have l:es.size=xs.length:=size_of_entries f
  refine⟨c,b,h2,es,ep,m,by rw[l,<-Paired.length a];rfl,λi hi=>?_⟩
  obtain⟨p,g,q,B,r1⟩:=fJ a i (by omega)
  have y:es[i]=entryOfKey (tupleKind (bo P w)) xs[i]:=by
   have:=entry_at f i
   rw[Mi (by omega),Nj hi] at this
   exact Option.some.inj this
  refine⟨.ref xs[i].2.1,p.2,⟨p.1,_,g,rfl,B⟩,?_,?_⟩
  ·rw[y];rfl
  ·rw[y];exact r1
 |_=>exact D.elim
section
variable {d it:Addr} {o:Obj} {es:Array DictEntry} {i ep:Nat}
theorem wa(hd:(d==sysModules)=false)(c:s.heap.get? d=some o)(f:o.ExactDict)(a:o.data=.dict es ep)
  (e:Q (.ref s.heap.objs.size) {s with heap:=s.heap.push {cls:=.type "dict_keyiterator",data:=.fields #[.ref d,.int 0 0,.int es.size 0,.int ep 0]}}):wpAny (model prog w) A (pyIter (.ref d)) Q E s:=by
 have b:s.TypeIs (.ref d) "dict" :=⟨o,c,f.1⟩
 refine wpAny_pyIter_slot b F.slot_dict_iter (Mu F.slot_dict_iter b F.entry_dict_iter ?_ (F.args_dict_iter_1 _))
 refine LJ (LJ (Oi b ?_))
 refine LM ?_
 show wpAny _ _ (Builtin.Dict.showsAll d>>=_) _ _ s
 unfold Builtin.Dict.showsAll
 rw[if_neg (by rw[hd];exact L6)]
 refine LJ (LM (LJ (M0 c a (LJ (N7 c a ?_)))))
 refine LJ (NO (LM ⟨_,rfl, "dict_keyiterator",_,⟨_,L4 _ rfl,rfl⟩,F.slot_dict_keyiterator_next.lookup,?_⟩))
 simpa[rawInt] using e
theorem xE(a:s.heap.IsKeyIter it d i es.size ep)(b:s.heap.get? d=some o)(c:o.data=.dict es ep)(f:i<es.size)
  (g:∀h',h'.IsKeyIter it d (i+1) es.size ep->Heap.SameBut it s.heap h'->Q (some es[i].key) {s with heap:=h'}):wpAny (model prog w) A (pyNext (.ref it)) Q E s:=by
 obtain⟨j,e,h,hd⟩:=id a
 refine LJ (MZ (Nh (name:=Str.ofString "__next__") a.typeIs F.slot_dict_keyiterator_next
  (Mu F.slot_dict_keyiterator_next a.typeIs F.entry_dict_keyiterator_next ?_ (F.args_dict_keyiterator_next_1 _))))
 refine LJ (LM (LJ (LJ ?_)))
 refine LJ (OA a.typeIs (LM ?_))
 refine LJ (wpAny_fieldsOf e hd ?_)
 show wpAny _ _ (if (Value.ref d==Value.none)=true then _ else _) _ _ s
 refine LJ (LM (LJ (M0 b c ?_)))
 rw[if_neg (by simp)]
 refine LJ (LM (LJ (N7 b c ?_)))
 rw[if_neg (by simp)]
 refine LM ?_
 simp only[show¬((i:Int)<0) from by lia,if_false,MH,Nj f]
 refine LJ ?_
 refine LJ (OA a.typeIs (LM ?_))
 refine LJ (wpAny_isOneOf_keyiter a.typeIs ?_)
 show wpAny _ _ (setField (.ref it) 1 (rawInt ((i:Int)+1))>>=_) _ _ s
 refine LJ (wpAny_setField e hd (by simp) ?_)
 have new:(s.heap.update it (Obj.mapFields (·.setIfInBounds 1 (rawInt ((i:Int)+1))))).IsKeyIter it d (i+1) es.size ep:=
  ⟨_,MW _ e (Obj.isFreed_of_fields (Obj.data_mapFields hd _)),(Obj.cls_mapFields ..).trans h,by rw[Obj.data_mapFields hd];simp[rawInt]⟩
 refine LJ (Ms (LJ (wpAny_isOneOf_keyiter (s:={s with heap:=s.heap.update it (Obj.mapFields (·.setIfInBounds 1 (rawInt ((i:Int)+1))))}) new.typeIs ?_)))
 exact LM (LM ⟨_,rfl,LM (g _ new (Heap.SameBut.update ..))⟩)
theorem wZ(l:A.handled=none)(e:s.heap.get? d=some o)(f:o.data=.dict es ep)(h:es.size<=i)
  (j:∀h',Heap.ExtBut it s.heap h'->Q none {s with heap:=h'}):(s.heap.IsKeyIter it d i es.size ep->wpAny (model prog w) A (pyNext (.ref it)) Q E s)/\(s.heap.IsValIter it d i es.size ep->wpAny (model prog w) A (pyNext (.ref it)) Q E s):=by
 constructor
 all_goals
  intro c
  obtain⟨p,g,n,hd⟩:=id c
  first|refine LJ (MZ (Nh (name:=Str.ofString "__next__") c.typeIs F.slot_dict_keyiterator_next (Mu F.slot_dict_keyiterator_next c.typeIs F.entry_dict_keyiterator_next ?_ (F.args_dict_keyiterator_next_1 _))))|refine LJ (MZ (Nh (name:=Str.ofString "__next__") c.typeIs F.slot_dict_valueiterator_next (Mu F.slot_dict_valueiterator_next c.typeIs F.entry_dict_valueiterator_next ?_ (F.args_dict_valueiterator_next_1 _))))
  refine LJ (LM (LJ (LJ ?_)))
  first|refine LJ (OA c.typeIs (LM ?_))|refine LJ (OB c.typeIs (LM ?_))
  refine LJ (wpAny_fieldsOf g hd ?_)
  show wpAny _ _ (if (Value.ref d==Value.none)=true then _ else _) _ _ s
  refine LJ (LM (LJ (M0 e f ?_)))
  rw[if_neg (by simp)]
  refine LJ (LM (LJ (N7 e f ?_)))
  rw[if_neg (by simp)]
  refine LM ?_
  simp only[show¬((i:Int)<0) from by lia,if_false,MH,Oj h]
  refine LJ ?_
  first|refine LJ (OA c.typeIs (LM ?_))|refine LJ (OB c.typeIs (LM ?_))
  show wpAny _ _ (setField (.ref it) 0 .none>>=_) _ _ s
  refine LJ (wpAny_setField g hd (by simp) ?_)
  refine LJ ?_
  refine LJ (m:=firstArgMember _ _) (wpAny_of_eq (a:=Value.none) (by first|rfl|(simp only[firstArgMember];rfl)) (NO ?_ (by size_fits)))
  refine LJ (wpAny_handled ?_)
  rw[show A.in1.handled=none from l]
  refine LJ (LM (wpAny_throw ?_))
  refine LJ (NC (T:= "StopIteration") (b:=true) ⟨_,L4 _ rfl,rfl⟩ isSubtype_stop ?_)
  exact LM (j _ (((Heap.SameBut.update ..).extBut.push _).push _))
theorem AZ(g:A.handled=none)(c:s.heap.IsKeyIter it d i es.size ep)(a:s.heap.get? d=some o)(b:o.data=.dict es ep)(e:es.size<=i)(f:∀h',Heap.ExtBut it s.heap h'->Q none {s with heap:=h'}):wpAny (model prog w) A (pyNext (.ref it)) Q E s:=(wZ g a b e f).1 c
end
noncomputable def Jg (d:Addr) (o:Obj) (u:HO):It:=
 ⟨λi H=>H d=some (.frz o u)/\i<kR u,λi H x H'=>H'=H/\∃v,ja H u i x v,λi H=>H d=some (.frz o u)/\kR u<=i⟩
theorem nE {h h':Heap}{it d:Addr}{i n ep:Nat}(x:h.IsKeyIter it d i n ep)(k:∀o,h.get? it=some o->h'.get? it=some o):h'.IsKeyIter it d i n ep:=let ⟨o,ho,r⟩:=x;⟨o,k _ ho,r⟩
theorem yO {P:Program}{W:Expr}(d it:Addr)(o:Obj)(u:HO)(O:pE u)(es:Array DictEntry)(ep:Nat)(hd:o.data=.dict es ep):
  nO P w K W (Jg d o u) [it] it (λi h=>h.IsKeyIter it d i es.size ep) where
 mem:=by simp
 obj:=λi h st b n=>by
  rw[LY.mp n]
  obtain⟨r,e,c,q⟩:=st
  exact⟨r,e,λv z=>by rw[q] at z;cases z⟩
 keep:=λi h h' st k=>nE st λr e=>k it (by simp) r e
 item:=by
  intro X Z hw S N i pins s σ H E I y st hg
  obtain⟨J,hi⟩:=hg
  obtain⟨_,f,_,m,l,a,T,g⟩:=iB I.hok J O
  rw[hd] at a;cases a
  obtain⟨D,M,f2,B,C,G⟩:=y it (by simp)
  have j:i<es.size:=by lia
  obtain⟨x,v,Y,r1,r2⟩:=g i j
  refine xE st f hd j λh' p sb=>?_
  have U:aJ X pins σ H {s with heap:=h'}:=I.turned (t':=s.toks) (λb R n e=>(sb.2 b n).trans e) D M B C G
  obtain⟨r,e,c,q⟩:=id p
  exact⟨_,rfl,so (s:={s with heap:=h'}) e c q (by decide) ⟨x,H,U,r1,⟨rfl,v,Y⟩,p,λb n=>(y b n).1⟩⟩
 done:=by
  intro X Z hw S N i pins s σ H E I y st hg
  obtain⟨J,hi⟩:=hg
  obtain⟨_,f,_,m,l,a,T,g⟩:=iB I.hok J O
  rw[hd] at a;cases a
  obtain⟨D,M,f2,B,C,G⟩:=y it (by simp)
  exact AZ (I.ok.hd N) st f hd (by lia) λh' eb=>⟨rfl,I.turned (t':=s.toks) (λb R n e=>eb b R n e) D M B C G⟩
 self:=λA i s Q E st h=>by
  refine wpAny_pyIter_slot st.typeIs F.slot_dict_keyiterator_iter (Mu F.slot_dict_keyiterator_iter st.typeIs F.entry_dict_keyiterator_iter ?_ (F.args_dict_keyiterator_iter_1 _))
  exact LM ⟨_,rfl, "dict_keyiterator",_,st.typeIs,F.slot_dict_keyiterator_next.lookup,h⟩
def J3 (te:TE):TI:=λσ H R=>te σ H λx H1=>∃d o u,x=.ref d/\H1 d=some (.frz o u)/\pE u/\R (Jg d o u) H1
theorem E4(j:PE X e te):PI X tg e (J3 te):=by
 intro pins s σ H R I h
 refine cy (j pins s σ H _ I h) λv f p=>?_
 obtain⟨x,H1,I1,r,d,o,u,ex,hd,g,q⟩:=p
 subst ex
 cases(show v=Value.ref d from r)
 obtain⟨w,c,n,es,ep,a,y,_⟩:=iB I1.hok hd g
 refine wa w c n a ?_
 have m:∀b ob,f.heap.get? b=some ob->(f.heap.push {cls:=.type "dict_keyiterator",data:=.fields #[.ref d,.int 0 0,.int es.size 0,.int ep 0]}).get? b=some ob:=λb ob z=>LU _ z
 refine⟨f.heap.objs.size,[f.heap.objs.size],_,_,H1,rfl,I1.kept (t':=f.toks) m,yO d _ o u g es ep a,⟨_,L4 _ rfl,rfl,rfl⟩,λb l=>?_,q⟩
 rw[LY.mp l]
 exact I1.fpOk (LL _) (I1.hok.fresh (LL _))
theorem Bq {d:Addr}{o:Obj}{u:HO}{g:TG}{f:TS}{D:fX}(a:Nat->St->Hp->Prop)(h0:a 0 σ H)(n:∀i σ H,i<=kR u->a i σ H->H d=some (.frz o u))
  (j:∀i x v σ H,ja H u i x v->i<kR u->a i σ H->g x σ H λc H2=>f {D with nx:=a (i+1),ct:=a (i+1),bk:=D.nx} c H2) (hd:∀σ H,a (kR u) σ H->D.nx σ H):
  ∃W:Nat->Nat->St->Hp->Prop,(∃m,W 0 m σ H)/\∀i m σ H,W i m σ H->
   ((Jg d o u).stop i H/\D.nx σ H)\/((Jg d o u).go i H/\∃N:St->Hp->Prop,(∀b H',N b H'->∃h,h<m/\W (i+1) h b H')/\∀x H',(Jg d o u).yld i H x H'->g x σ H' λc H2=>f {D with nx:=N,ct:=N,bk:=D.nx} c H2):=by
 refine⟨λi m σ H=>m=kR u - i/\i<=kR u/\a i σ H,⟨kR u,by simp,L0 _,h0⟩,?_⟩
 rintro i m σ H ⟨rfl,hi,p⟩
 have q:=n i σ H hi p
 by_cases hlt:i<kR u
 ·refine .inr ⟨⟨q,hlt⟩,a (i+1),λb H' l=>⟨kR u - (i+1),by omega,rfl,hlt,l⟩,λx H' y=>?_⟩
  obtain⟨e,v,k⟩:=y
  subst e
  exact j i x v σ _ k hlt p
 ·have e:i=kR u:=by omega
  subst e
  exact .inl ⟨⟨q,LL _⟩,hd σ H p⟩
theorem BF (n:Nat):((List.range n).all λ_=>true)=true:=by simp
noncomputable def KW (es:Array (Int×Value)) (i:Nat):Int:=(es[i]?.map (·.1)).getD 0
theorem B0{Q:Bool->Shared->Prop}(a:s.heap.get? b=some o)(f:o.cls=.type "tuple")(hd:o.data=.seq items n)(c:∀v∈items,∃i t,v=Value.int i t)(h:Q true s):
  wpAny (model prog w) A (hashByValue 8 (.ref b)) Q E s:=by
 have g:s.TypeIs (.ref b) "tuple" :=⟨o,a,f⟩
 refine LJ (N3 g F.slot_tuple_hash.lookup ?_)
 refine LJ ?_
 refine LJ (wpAny_load a ?_)
 rw[hd]
 refine LM (LJ ?_)
 rw[<-Array.forIn_toList]
 refine wpAny_forIn_list _ (λrest q s'=>s'=s/\q=(none,())/\∀v∈rest,∃i t,v=Value.int i t) _ ?_ ?_ _ _ ⟨rfl,rfl,λv d=>c v (Nc.mp d)⟩
 ·rintro v rest q s' ⟨rfl,rfl,hr⟩
  obtain⟨i,t,rfl⟩:=hr v LX
  have e:hashByValue 7 (.int i t)=pure true:=by simp[hashByValue]
  exact LJ (LM (by
   exact LM ⟨rfl,rfl,λx j=>hr x (LZ _ j)⟩))
 ·rintro q s' ⟨rfl,rfl,_⟩
  exact LM h
section
variable {R:Result->Shared->Prop} {I:Addr} {fp wr:List Addr} {G:Array GenState->Array GenState->Prop} {n:Nat} {P:Nat->Value->Prop} {St:Nat->Shared->Prop}
def ou (h:Heap) (k:List Int) (b:Addr):Prop:=∃o a c,h.get? b=some o/\o.cls=.type "tuple" /\o.data=.seq a c/\IntsAre a.toList k
end
abbrev pY (led:Bool):Obj:={cls:=.type "set",dict:=none,data:=.set #[] 0 (.fresh 0 0 led)}
noncomputable def ig (k:List Int):Int:=reduceHash (Builtin.Tuple.tupleHashOf (k.map hashInt))
theorem EU(t:ou h k b):(tupleKind (intKind prog w)).is h k b:=by
 obtain⟨o,a,c,h1,h2,e,d⟩:=t
 refine⟨o,a,c,h1,h2,e,?_⟩
 have all:∀{us:List Value} {ns:List Int},IntsAre us ns->PySem.ItemsAre (intKind prog w) ns us:=by
  intro us ns z
  induction z with
  |nil=>exact .nil
  |cons n t _ ih=>exact .cons (intKind_is _ _ _ _) ih
 exact all d
noncomputable def KP (a:Addr) (n:Nat):HO:=.ext λh=>∃o es ep t,h.get? a=some o/\o.ExactSet/\o.data=.set es ep t/\SetTable.fits t es.size=true/\es.size=n
theorem A4(ok:iL P w H h)(e:H b=some (.tup (c.map V.int))):ou h c b:=by
 obtain⟨_,a,f,o,g,d,n,hd⟩:=ok b _ e
 exact⟨o,a.toArray,n,g,d,hd,by simpa using vf f⟩
theorem u3:cT X (.builtin "len") (λxs H Q=>∃a n,xs=[V.ref a]/\H a=some (KP a n)/\n<1000/\Q (.int n) H):=by
 intro pins s σ H xs g Q I r h
 obtain⟨a,n,rfl,ha,f,q⟩:=h
 obtain⟨u,rfl,c⟩:=dF r
 cases c
 obtain⟨⟨o,es,ep,t,h1,h2,e,d,b⟩,_⟩:=I.hok a _ ha
 subst b
 exact call_len_set h1 h2 e d (by lia) ⟨.int es.size,H,I.tok _,⟨_,rfl⟩,q⟩
structure KS (K:LO) (C:Addr) (m:Str) (f:Addr):Prop where
 ex:∃mc,PySem.W.readsIn K C mc=true/\PySem.W.findCls K (.ref C) mc m=some (.val (.ref f))
 hh:PySem.W.handedIn (.ref f)=true
 hg:Oq K (.ref C) "__getattribute__" =some (some (.builtin "type.__getattribute__"))
 kp:Mv K (.ref f)=true
structure iV (P:Program) (w:World) (K:LO) (mg:Str->Option Value) (base:Heap) (C:Addr) (m:Str) (k:Nat) (ps:List Str) (sp:Sp):Prop where
 ex:∃f fd,fz P w K mg base n8 k f fd ps sp/\KS K C m f/\cC K fd ps []
section
variable {C:Addr} {k:Nat} {ps:List Str} {sp:Sp} {m:Str} {pos apos:Pos} {e o:Expr} {es:List Expr} {t:TA}
theorem xt {pl:Sem Bool}(E:PE X o (tC (.ref C)))(G:iV X.prog X.w X.K X.mg X.base C m k ps sp)(g:bL k X.A)(q:PA X (e::es) t)
  (c:starEach (e::es) X.env=(false,eval e X.env)::starEach es X.env:=by rfl) (b:(backTo pos (starEach es X.env)).any (·.1)=false:=by rfl)
  (z:eval (.Call (.Attribute o m apos) (e::es) [] pos) X.env=(do
   let d<-eval o X.env
   standAt apos.atName
   let (f,first)<-holding [d] (getMethod d m pl)
   callWith pos f first (backTo pos (starEach (e::es) X.env)) (backToKw pos (keywordEach [] X.env))):=by rfl):
  PE X (.Call (.Attribute o m apos) (e::es) [] pos) (dY sp [] E0 t):=by
 obtain⟨f,fd,F,a,n⟩:=G.ex
 obtain⟨N,h1,h2⟩:=a.ex
 intro pins s σ H Q I h
 refine Ot (pl:=pl) (cy (E pins s σ H (λv H1=>v=.ref C/\H1=H) I ⟨rfl,rfl⟩) λu y D=>?_) z
 obtain⟨x,H1,I1,j,ex,B⟩:=D
 subst ex B
 cases(show u=Value.ref C from j)
 refine PySem.W.method_cls I1.kIn a.hg (PySem.W.cls_value I1.kIn h1 h2 a.hh ?_)
 have l:=I1.tok (y.toks+1)
 refine Os (first:=[]) (h₀:=X.base) I.ok.mod.kin a.kp (cy (q pos pins _ σ _ _ l h) λJ M ⟨vs,H2,I3,r,p⟩=>⟨I3.kIn,?_⟩) c b
 exact kI F g n .nil kQ I3 r p
end
structure zq (K:LO) (x qual:Str) (st:Stmt) (f:Addr) (fd:FuncData):Prop where
 ex:∃(oc:Value) (od:Option Addr) (dV kV doc pm:Value) (an:Option Addr) (cdv ct:Value) (osl:Array (Option Value)),
  fd=Mh x qual (cq st) (bP st) (aM st) dV kV doc pm an cdv ct/\K.lookup f=some ⟨oc,od,.func fd,osl⟩/\MO K cdv qual=true
section
variable {P:Program}
theorem zq.ok {x e:Str}{st:Stmt}{f:Addr}{fd:FuncData}{N ps:List Str}{k:Nat}{sp:Sp}(F:zq K x e st f fd)(S:fE N ps (aM st))(len:∀vs H Q E,sp vs H Q E->vs.length=ps.length)
  (j:∀(g:Value) (A:Around) (d:List Env) (s:Shared) (H:Hp) (vs:List V) (Q:VK) (E:XK),bL k (A.deeper (envOfC e (aM st) s.heap.objs.size f g))->sp vs H Q E->
   ∃t,nV (qZ n8 P w K mg base N e (aM st) f g A d s H E).nox (bP st) t/\t {nx:=λ_ H'=>Q .non H',rt:=Q} (h_ N vs) H):fz P w K mg base n8 (k+1) f fd ps sp:=by
 obtain⟨o,y,r,kV,c,p,u,g,n,b,rfl,m,a⟩:=F.ex
 refine F9 m a S len λA d s H vs Q E hr l=>?_
 obtain⟨t,h,q⟩:=j g A d s H vs Q E hr l
 exact⟨t,h.nox,q⟩
theorem qi{st:Stmt}{a:Array (Option Value)}{kV:Value}(l:K.lookup f=some ⟨oc,od,.func (Mh x qual (cq st) (bP st) (aM st) dV kV doc pm an cdv ct),a⟩)
  (c:MO K cdv qual=true):zq K x qual st f (Mh x qual (cq st) (bP st) (aM st) dV kV doc pm an cdv ct):=⟨⟨oc,od,dV,kV,doc,pm,an,cdv,ct,a,rfl,l,c⟩⟩
theorem HN{c:Array (Option Value)}(hd:fd.defaults=.ref T)(e:K.lookup T=some ⟨oc,od,.seq items n,c⟩)
  (h:∀a:List Value,a.length=ps.length->∃k,bindArgs fd ⟨a,[]⟩=(seqItems? fd.defaults>>=k)/\k (some items)=pure (ps.zip a)):cC K fd ps []:=λs a d b=>by
 rw[Mb] at b|-
 obtain⟨k,h1,h2⟩:=h a b
 exact PySem.W.binds_K d hd e rfl h1 h2
end
theorem mr:isSubtype (.type "AttributeError") (.type "AttributeError")=pure true:=by rw[isSubtype_type];kernel_rfl
section
variable {h:Heap} {g:Array GenState} {d:Drawn} {t:Nat} {os:OsState} {a:Addr}
abbrev KZ (T:Addr):Obj:={cls:=.type "AttributeError",data:=.fields #[.ref T,.none,.none,.none,.bool false,.none,unsetMember,unsetMember]}
theorem y3{Q:Unit->Shared->Prop}(hx:h.get? e=some (KZ T))
  (c:∀h',Heap.SameBut e h h'->Shared.TypeIs ⟨h',g,d,t,os⟩ (.ref e) "AttributeError" ->Q () ⟨h',g,d,t,os⟩):wpAny (model prog w) A (noteAttr (.ref e) (.ref a) nm) Q E ⟨h,g,d,t,os⟩:=by
 have b:(⟨h,g,d,t,os⟩:Shared).TypeIs (.ref e) "AttributeError" :=⟨_,hx,rfl⟩
 refine LJ (LJ (NC b mr ?_))
 refine LJ (wpAny_load hx ?_)
 dsimp only
 refine LM ?_
 refine LJ (NF (LJ (N8 b ?_)))
 refine LJ (wpAny_load hx ?_)
 refine wpAny_update hx ?_
 refine c _ (Heap.SameBut.update ..) ⟨_,MW _ hx (by rfl),by rfl⟩
theorem ue {o:Type}{Q:o->Shared->Prop}(p:A.handled=none)(n:msg.length<=sizeLine)
  (q:∀e h' tk,(∀b u,h.get? b=some u->h'.get? b=some u)->Shared.TypeIs ⟨h',g,d,tk,os⟩ (.ref e) "AttributeError" ->E (.ref e) ⟨h',g,d,tk,os⟩):
  wpAny (model prog w) A (raiseAttrError (.ref a) name msg) Q E ⟨h,g,d,t,os⟩:=by
 refine LJ (wpAny_mkStr (hx:=n) ?_)
 refine LJ ?_
 refine LJ (m:=firstArgMember _ _) (wpAny_of_eq (a:=Value.none) (by first|rfl|(simp only[firstArgMember];rfl)) ?_)
 refine NO ?_ (by first|size_fits|decide)
 refine LJ (wpAny_mkText (LJ ?_))
 have f:h.objs.size<(h.push {cls:=.type "tuple",data:=.seq #[Value.str msg t]}).objs.size:=by rw[Mz];exact NZ _
 have c:∀b u,h.get? b=some u->(h.push {cls:=.type "tuple",data:=.seq #[Value.str msg t]}).get? b=some u:=λb u z=>LU _ z
 revert f c
 intro f c
 refine y3 (L4 _ rfl) λh' sb l=>?_
 refine LJ (wpAny_handled ?_)
 rw[p]
 refine LJ (LM (wpAny_throw ?_))
 exact q _ h' _ (λb u z=>by
  have j:=c b u z
  rw[sb.2 b (L3 (LW j))]
  exact LU _ j) l
theorem EH{Q:Fin->Shared->Prop}(c:A.handled=none)(hx:h.get? a=some {cls:=.type "list",data:=.seq items n})
  (f:∀e h' tk,(∀b u,h.get? b=some u->h'.get? b=some u)->Shared.TypeIs ⟨h',g,d,tk,os⟩ (.ref e) "AttributeError" ->E' (.ref e) ⟨h',g,d,tk,os⟩):
  wpAny (model prog w) A (Builtin.«object.__getattribute__» ⟨[.ref a,.str "keys" tk],[]⟩) Q E' ⟨h,g,d,t,os⟩:=by
 have l:(⟨h,g,d,t,os⟩:Shared).TypeIs (.ref a) "list" :=⟨_,hx,rfl⟩
 have j:typeLookup (.type "list") "keys" =pure none:=by rw[typeLookup_type,builtinLookup_eq_fast];kernel_rfl
 repeat (any_goals (first|assumption|wp_step))
 exact ue c (by decide+kernel) f
theorem DZ(o:A.handled=none)(hx:h.get? a=some {cls:=.type "list",data:=.seq items n})
  (m:∀h' tk,(∀b u,h.get? b=some u->h'.get? b=some u)->Q none ⟨h',g,d,tk,os⟩):wpAny (model prog w) A (getAttr? (.ref a) "keys") Q E ⟨h,g,d,t,os⟩:=by
 have c:(⟨h,g,d,t+1,os⟩:Shared).TypeIs (.ref a) "list" :=⟨_,hx,rfl⟩
 have l:=F.slot_list_getattribute.lookup
 have p:=F.slot_list_getattribute.bind (.ref a)
 have q:typeLookup (.type "list") "__getattr__" =pure none:=by rw[typeLookup_type,builtinLookup_eq_fast];kernel_rfl
 refine LJ (wpAny_mkText (LJ (MZ ?_)))
 refine Ms (LJ (N8 c ?_))
 rw[l]
 refine LJ (LM ?_)
 dsimp only
 unfold getAttrByItsOwn hookBefore
 refine LJ (LM (LJ (MZ (Ms ?_))))
 unfold callGetattribute
 unfold boundAndCalled
 refine wpAny_call (codeAny_call_builtin F.slot_list_getattribute.plain F.entry_list_ga (F.slot_list_getattribute.check _ _ _ _ _ _ _ _ c (F.args_list_getattribute_2 _ _) (EH (show A.in1.handled=none from o) hx λe h' tk j f=>?_)))
 unfold getattributeRaised hookBehind
 refine LJ (NC f mr ?_)
 show wpAny _ _ (attributeErrorLeaves (.ref a) (.str "keys" t) (.ref e) false false) _ _ _
 unfold attributeErrorLeaves
 refine LJ (wpAny_throw (LJ (NC f mr ?_)))
 exact LM (m _ _ j)
end
theorem o9:entryFor table "dict.update.loop" =some Builtin.«dict.update.loop»:=entryFor_of_tree (by kernel_rfl)
theorem oA:plainId "dict.update.loop" =true:=by decide+kernel
def nB (h:Heap) (p:Addr) (k v:Value):Prop:=∃o c,h.get? p=some o/\o.cls=.type "tuple" /\o.data=.seq #[k,v] c
abbrev Ay (h:Heap) (p k:Addr) (v:Value):Prop:=nB h p (.ref k) v
section
variable {R:Result->Shared->Prop} {I:Addr} {fp wr:List Addr} {G:Array GenState->Array GenState->Prop} {n:Nat} {P:Nat->Value->Prop} {St:Nat->Shared->Prop} {DX KO:Nat->Heap->Prop}
theorem uH (W:WalksS prog w A.in1 I fp wr G n P St)(D:Addr)(N:D∉fp)(r:Nat->Addr)(M O:Nat->Value)(x:∀i v,P i v->v=.ref (r i))
  (B:∀i,i<n->r i≠D/\r i∉wr) (K:∀i,i<n->∀h h':Heap,(∀b o,b≠D->b∉wr->h.get? b=some o->h'.get? b=some o)->KO i h->KO i h')
  (u:∀(i:Nat),i<=n->∀(h h':Heap),(∀b o,b∉wr->h.get? b=some o->h'.get? b=some o)->DX i h->DX i h')
  (C:∀i,i<n->∀(s:Shared) (Q:Unit->Shared->Prop) (E:Value->Shared->Prop),KO i s.heap->DX i s.heap->(∀h' t,s.toks<=t->DX (i+1) h'->Heap.SameBut D s.heap h'->Q () {s with heap:=h',toks:=t})->wpAny (model prog w) A.in1 (dictSet D (M i) (O i)) Q E s):
  ∀(k i:Nat) (U:Tok) (s:Shared),n - i=k->i<=n->St i s->(∀j,j<n->nB s.heap (r j) (M j) (O j)/\KO j s.heap)->DX i s.heap->
   (∀s',Moved (D::wr) G s s'->DX n s'.heap->R (.ok (.ret .none)) s')->
   codeAny (model prog w) A (.builtin "dict.update.loop" ⟨[.ref D,.ref I,.int (i:Nat) U,.none],[]⟩) R s:=by
 have more:∀b∈wr,b∈D::wr:=λb g=>LZ _ g
 intro k
 induction k with
 |zero=>
  intro i U s hk hi l ht X Z
  obtain rfl:i=n:=by omega
  refine codeAny_builtin o9 ?_
  refine LJ (W.done s _ _ l λs' m=>?_)
  refine LJ ?_
  refine LM (LM (Z s' (m.mono more) (u _ hi _ _ (λb o g e=>m.heap b o g e) X)))
 |succ k ih=>
  intro i U s hk hi l ht X Z
  have a:i<n:=by omega
  refine codeAny_builtin o9 ?_
  refine LJ (W.item i s _ _ a l λv s' hP H m=>?_)
  obtain rfl:=x i v hP
  have d:∀j,j<n->nB s'.heap (r j) (M j) (O j)/\KO j s'.heap:=λj p=>by
   obtain⟨⟨o,c,h1,h2⟩,Y⟩:=ht j p
   exact⟨⟨o,c,m.heap _ o (B j p).2 h1,h2⟩,K j p _ _ (λb o _ g e=>m.heap b o g e) Y⟩
  have f:=u i hi _ _ (λb o g e=>m.heap b o g e) X
  obtain⟨⟨o,c,h1,h2,Y⟩,h4⟩:=d i a
  have hT:s'.TypeIs (.ref (r i)) "tuple" :=⟨o,h1,h2⟩
  refine LJ (Ms (LJ (wpAny_tryCatch ?_)))
  refine LJ (N8 hT ?_)
  refine LJ ?_
  refine LJ (wpAny_load h1 ?_)
  rw[Y]
  refine LM (LM ?_)
  refine Ms (C i a _ _ _ h4 f λh' t' J T sb=>?_)
  refine LM ⟨plainId_quiet oA _,?_⟩
  have e:((i:Nat):Int)+1=((i+1:Nat):Int):=by omega
  refine ih (i+1) _ _ (by omega) a (W.frame _ s' _ _ H J λb g o q=>?_) (λj p=>?_) T λS F y=>?_
  ·rw[sb.2 b (λz=>N (z▸g))];exact q
  ·obtain⟨⟨o,c,q1,q2⟩,q3⟩:=d j p
   refine⟨⟨o,c,?_,q2⟩,K j p _ _ (λb o g _ q=>?_) q3⟩
   ·rw[sb.2 _ (B j p).1];exact q1
   ·rw[sb.2 b g];exact q
  ·refine Z S (Moved.trans W.gtrans ((m.mono more).then_heap J λb o g q=>?_) F) y
   rw[sb.2 b (λz=>g (by rw[z];exact LX))];exact q
end
theorem tf {K:Type} [DecidableEq K]{xs:List (K×Addr×Value)}{k:K}{a:Addr}{v:Value}{P:Addr->Prop}(h:∀x∈xs,P x.2.1)(c:P a):∀x∈storedH xs k a v,P x.2.1:=by
 unfold storedH
 split
 ·intro x hx
  obtain⟨y,b,rfl⟩:=LN.mp hx
  unfold putAt
  split
  ·exact h y b
  ·exact h y b
 ·intro x hx
  rcases L_.mp hx with hx|hx
  ·exact h x hx
  ·rw[LY.mp hx];exact c
theorem tx {K:Type} [DecidableEq K]{xs:List (K×Addr×Value)}{k:K}{a:Addr}{v:Value}:(storedH xs k a v).length<=xs.length+1:=by
 unfold storedH
 split
 ·rw[LK];lia
 ·simp
noncomputable def su {K:Type} [DecidableEq K] (a:Nat->K) (c:Nat->Addr) (b:Nat->Value):Nat->List (K×Addr×Value)
 |0=>[]
 |i+1=>storedH (su a c b i) (a i) (c i) (b i)
theorem oz {K:Type} [DecidableEq K]{a:Nat->K}{b:Nat->Addr}{c:Nat->Value}{P:Addr->Prop}:∀(i:Nat),(∀j,j<i->P (b j))->∀x∈su a b c i,P x.2.1
 |0,_=>λ_ h=>nomatch h
 |i+1,h=>tf (oz i λj d=>h j (by lia)) (h i (NZ _))
theorem oR {K:Type} [DecidableEq K]{a:Nat->K}{c:Nat->Addr}{b:Nat->Value}:∀(i:Nat),(su a c b i).length<=i
 |0=>LL _
 |i+1=>LR tx (NG (oR i))
section
variable {DX KO:Nat->Heap->Prop}
theorem hU {l:Addr}{as:List Addr}{c:Nat}{Q:Value->Shared->Prop}(hh:A.handled=none)(U:s.heap.get? l=some {cls:=.type "list",data:=.seq (as.map Value.ref).toArray c})
  (W vv:Nat->Value) (hp:∀j,j<as.length->nB s.heap (as.getD j 0) (W j) (vv j)/\KO j s.heap)
  (O:∀j,j<as.length->∀h h':Heap,(∀b o,b<s.heap.objs.size->h.get? b=some o->h'.get? b=some o)->KO j h->KO j h')
  (X:∀i,i<=as.length->∀h h':Heap,(∀b o,b<=s.heap.objs.size->h.get? b=some o->h'.get? b=some o)->DX i h->DX i h')
  (M:∀i,i<as.length->∀(s':Shared) (Q:Unit->Shared->Prop) (E:Value->Shared->Prop),KO i s'.heap->DX i s'.heap->(∀h' t,s'.toks<=t->DX (i+1) h'->Heap.SameBut s.heap.objs.size s'.heap h'->Q () {s' with heap:=h',toks:=t})->wpAny (model prog w) A.in1.in1 (dictSet s.heap.objs.size (W i) (vv i)) Q E s')
  (h0:∀h':Heap,h'.get? s.heap.objs.size=some {cls:=.type "dict",data:=.dict #[]}->DX 0 h')
  (h:∀(h':Heap) (tk:Nat),DX as.length h'->(∀b o,s.heap.get? b=some o->h'.get? b=some o)->Q (.ref s.heap.objs.size) {s with heap:=h',toks:=tk}):
  wpAny (model prog w) A (call (.type "dict") [.ref l]) Q E s:=by
 refine callType_codes (Q₁:=λv J=>v=.ref s.heap.objs.size/\J={s with heap:=s.heap.push {cls:=.type "dict",data:=.dict #[]}}) F.kt_called_dict (F.kt_typeCall_dict_1 _) F.entry_dict_init (kt_code_dict_new _ ⟨rfl,rfl⟩) ?_
 rintro v J ⟨rfl,rfl⟩
 have a:∀b u,s.heap.get? b=some u->(s.heap.push {cls:=.type "dict",data:=.dict #[]}).get? b=some u:=λb u x=>LU _ x
 have T:Shared.TypeIs {s with heap:=s.heap.push {cls:=.type "dict",data:=.dict #[]}} (.ref s.heap.objs.size) "dict" :=⟨_,L4 _ rfl,rfl⟩
 have lT:Shared.TypeIs {s with heap:=s.heap.push {cls:=.type "dict",data:=.dict #[]}} (.ref l) "list" :=⟨_,a _ _ U,rfl⟩
 have P:(s.heap.push {cls:=.type "dict",data:=.dict #[]}).get? s.heap.objs.size=some {cls:=.type "dict",data:=.dict #[]}:=L4 _ rfl
 have m:(s.heap.push {cls:=.type "dict",data:=.dict #[]}).objs.size=s.heap.objs.size+1:=Mz ..
 revert a T lT P m
 intro a T lT P m
 refine⟨T,F.args_dict_init_2 _ _,?_⟩
 refine LJ ?_
 refine LJ (Oi T ?_)
 refine LM ?_
 show wpAny _ _ (Builtin.Dict.updateFrom "dict.__init__" s.heap.objs.size (.ref l) [] .none) _ _ _
 refine LJ (N8 lT ?_)
 refine LJ (DZ (show A.in1.in1.handled=none from hh) (a _ _ U) λh1 a2 I=>?_)
 refine LJ (NF (LJ ?_))
 have n:h1.get? l=some {cls:=.type "list",data:=.seq (as.map Value.ref).toArray c}:=I _ _ (a _ _ U)
 have p:h1.IsList l (as.map Value.ref).toArray:=⟨_,n,rfl,c,rfl⟩
 refine Nu p (LM ⟨plainId_quiet oA _,?_⟩)
 have f:s.heap.objs.size+1<=h1.objs.size:=LW (I _ _ P)
 have G:l<s.heap.objs.size:=LW U
 have B:l≠h1.objs.size:=L3 (LW n)
 have nD:s.heap.objs.size∉[h1.objs.size,l]:=λz=>by
  rcases LS.mp z with z|z
  ·exact absurd z (L3 (Nat.lt_of_succ_le f))
  ·exact absurd (LY.mp z) (Nt G)
 have Z:∀{b:Addr},b<s.heap.objs.size->b∉[h1.objs.size]:=λK z=>absurd (LY.mp z) (L3 (Me K (Nat.le_of_succ_le f)))
 have d:∀{b:Addr} {o:Obj},s.heap.get? b=some o->b<s.heap.objs.size:=λe=>LW e
 have H:A.in1.in1.handled=none:=by simpa using hh
 have sz:(as.map Value.ref).toArray.size=as.length:=by simp
 refine uH (A:=A.in1) ((Walks.list H _ l B (as.map Value.ref).toArray).toS) s.heap.objs.size nD (λi=>as.getD i 0) W vv (λi v hv=>?_) (λi hi=>?_) (λi hi g N hg z=>O i (sz▸hi) g N (λb o K e=>hg b o (L3 K) (Z K) e) z) (λi hi g N hg z=>X i (sz▸hi) g N (λb o K e=>hg b o (λy=>absurd (LY.mp y) (L3 (Me (Nat.lt_succ_of_le K) f))) e) z) (λi hi=>M i (sz▸hi))
  ((as.map Value.ref).toArray.size - 0) 0 0 _ (by lia) (L0 _) ⟨⟨_,L4 _ rfl,rfl,rfl⟩,p.push _⟩ (λj hj=>?_) (h0 _ (LU _ (I _ _ P))) λs' S Y=>?_
 ·have r:(as.map Value.ref).toArray[i]?=some v:=hv
  rw[Ov,L7] at r
  obtain⟨x,hx,rfl⟩:=MY.mp r
  rw[MI,hx];rfl
 ·obtain⟨⟨o,c',R,_⟩,_⟩:=hp i (sz▸hi)
  exact⟨L3 (d R),Z (d R)⟩
 ·obtain⟨⟨o,c',R,q2⟩,q3⟩:=hp j (sz▸hj)
  have up:∀b u,s.heap.get? b=some u->(h1.push {cls:=.type "list_iterator",data:=.fields #[.ref l,.int 0 0]}).get? b=some u:=λb u z=>LU _ (I _ _ (a _ _ z))
  exact⟨⟨o,c',up _ _ R,q2⟩,O j (sz▸hj) _ _ (λb o _ q=>up b o q) q3⟩
 ·obtain⟨h',N,d',D,C⟩:=s'
  obtain rfl:N=s.gens:=S.gens
  obtain rfl:d'=s.drawn:=S.drawn
  obtain rfl:C=s.os:=S.os
  refine⟨rfl,h h' D (sz▸Y) λb o e=>S.heap b o (λz=>?_) (LU _ (I _ _ (a _ _ e)))⟩
  rcases LS.mp z with z|z
  ·exact absurd z (L3 (d e))
  ·exact Z (d e) z
end
abbrev zF (H:Hp) (as:List Addr) (kvs:List (List cS×V)):Prop:=Paired (λa (kv:List cS×V)=>∃b,H a=some (.tup [.ref b,kv.2])/\H b=some (.tup (kv.1.map kV))) as kvs
noncomputable def GC {b:Type} [DecidableEq b] (kvs:List (b×V)):List (b×V):=kvs.foldl (λa c=>c6 a c.1 c.2) []
abbrev DQ (kvs:List (List cS×V)):List (List cS×V):=GC kvs
theorem jB {a:Type} [DecidableEq a]{kvs:List (a×V)}{p:a×V}:GC (kvs++[p])=c6 (GC kvs) p.1 p.2:=by unfold GC;rw[N9];rfl
theorem x_ {c:Type} [DecidableEq c]{kvs:List (c×V)}:(GC kvs).length<=kvs.length:=by
 have all:∀(l b:List (c×V)),(l.foldl (λb d=>c6 b d.1 d.2) b).length<=b.length+l.length:=by
  intro l
  induction l with
  |nil=>intro b;exact LL _
  |cons a r ih=>
   intro b
   have h1:=ih (c6 b a.1 a.2)
   have h2:=eK b a.1 a.2
   rw[Mx,L5]
   lia
 have h:=all kvs []
 unfold GC
 simpa using h
theorem fW (hc:X.calm=true){k:Nat}(Y:bL k X.A):cT X (.type "dict") (λxs H Q=>∃(l:Addr) (as:List Addr) (kvs:List (List cS×V)),xs=[.ref l]/\H l=some (.lst (as.map V.ref))/\zF H as kvs/\∀p,H p=none->Q (.ref p) (upd H p (.dT (DQ kvs)))):=by
 intro pins s σ H xs us Q I r h
 obtain⟨l,as,kvs,rfl,hl,T,q⟩:=h
 obtain⟨u,rfl,ru⟩:=dF r
 cases ru
 obtain⟨O,y,c,rv,f⟩:=I.hok l _ hl
 obtain rfl:=gB rv
 have hu:=Y.units
 have len:as.length=kvs.length:=Paired.length T
 have ex:∀j,∃(b:Addr) (u:Value),j<as.length->Ay s.heap (as.getD j 0) b u/\H b=some (.tup ((kvs.getD j ([],.non)).1.map kV))/\aZ (kvs.getD j ([],.non)).2 u:=λj=>by
  by_cases D:j<as.length
  ·have d:j<kvs.length:=by lia
   obtain⟨a,ha,b,h1,h2⟩:=fJ T j d
   obtain⟨_,ii,rr,o,ho,m,n,hd⟩:=I.hok a _ h1
   obtain⟨u1,u2,rfl,r1,r2⟩:=kW rr
   cases(show u1=Value.ref b from r1)
   refine⟨b,u2,λ_=>?_⟩
   have W:as.getD j 0=a:=by rw[MI,ha];rfl
   have M:kvs.getD j ([],.non)=kvs[j]:=by rw[MI,Mi d];rfl
   rw[W,M]
   exact⟨⟨o,n,ho,m,hd⟩,h2,r2⟩
  ·exact⟨0,.none,λz=>absurd z D⟩
 obtain⟨C,J⟩:∃C:Nat->Addr,∀j,∃u:Value,j<as.length->Ay s.heap (as.getD j 0) (C j) u/\H (C j)=some (.tup ((kvs.getD j ([],.non)).1.map kV))/\aZ (kvs.getD j ([],.non)).2 u:=⟨λj=>Classical.choose (ex j),λj=>Classical.choose_spec (ex j)⟩
 obtain⟨G,B⟩:∃G:Nat->Value,∀j,j<as.length->Ay s.heap (as.getD j 0) (C j) (G j)/\H (C j)=some (.tup ((kvs.getD j ([],.non)).1.map kV))/\aZ (kvs.getD j ([],.non)).2 (G j):=⟨λj=>Classical.choose (J j),λj=>Classical.choose_spec (J j)⟩
 have kt:∀i,i<=as.length->KT H (DQ (kvs.take i)) (su (λj=>(kvs.getD j ([],.non)).1) C G i):=by
  intro i
  induction i with
  |zero=>intro _;exact .nil
  |succ i ih=>
   intro hi
   obtain⟨_,h2,N⟩:=B i hi
   have w:i<kvs.length:=by lia
   have M:kvs[i]?=some (kvs.getD i ([],.non)):=by rw[MI,Mi w];rfl
   have et:kvs.take (i+1)=kvs.take i++[kvs.getD i ([],.non)]:=by rw[NH,M];rfl
   unfold DQ;rw[et,jB]
   exact KT.put (ih (by lia)) _ h2 N
 have mono:∀{g K:Heap} {k:List cS} {b:Addr},(∀o,g.get? b=some o->K.get? b=some o)->(tupleKind (bo X.prog X.w)).is g k b->(tupleKind (bo X.prog X.w)).is K k b:=λhg ⟨o,F,n,z1,z2⟩=>⟨o,F,n,hg o z1,z2⟩
 refine hU (I.ok.hd hc) f (λj=> .ref (C j)) G (DX:=λi h=>h.DictOfH (tupleKind (bo X.prog X.w)) s.heap.objs.size (su (λj=>(kvs.getD j ([],.non)).1) C G i)) (KO:=λj h=>(tupleKind (bo X.prog X.w)).is h (kvs.getD j ([],.non)).1 (C j)) (λj D=>?_) (λj D g K hg z=>mono (λo q=>hg _ o (I.hok.lt (B j D).2.1) q) z) (λi hi g K hg ⟨o,es,ep,a1,a2,a3,a4,Z,a6⟩=>⟨o,es,ep,hg _ _ (LL _) a1,a2,a3,a4,λx U=>mono (λo q=>hg _ o (Nq (oz (P:=λb=>b<s.heap.objs.size) i (λj D=>I.hok.lt (B j (Me D hi)).2.1) x U)) q) (Z x U),a6⟩) (λi hi s' Q E k1 d1 q=>wpAny_dictSet_heap (show X.A.units+1+1<cLine by lia) k1 d1 (λh' hd sb=>q h' _ (NI _ _) hd sb) (LR (oR i) (LR (Nq hi) (by simpa using O)))) (λh' e=>⟨_,#[],0,e,⟨rfl,rfl,rfl⟩,rfl,rfl,(λ_ z=>nomatch z),NN⟩) λh' tk hd hk=>?_
 ·obtain⟨h1,h2,_⟩:=B j D
  exact⟨h1,ki I.hok h2⟩
 ·have S:=kt as.length (LL _)
  rw[len,Mc] at S
  rw[len] at hd
  obtain⟨o,es,ep,h1,h2,N,h4,h5,h6⟩:=hd
  have R:H s.heap.objs.size=none:=I.hok.fresh (LL _)
  refine⟨.ref s.heap.objs.size,_,I.laid (a:=s.heap.objs.size) (o:=.dT (DQ kvs)) (t':=tk) hk (LL _) ⟨LR x_ (by rw[<-len];simpa using O),beq_eq_false_iff_ne.mpr (L8 (L3 I.big)),_,S.keeps λb ys z=>?_,o,es,ep,h1,h2,N,h4,h6⟩,rfl,q _ R⟩
  rw[ak (ax z R)];exact z
structure Nx (prog:Program) (w:World) (A:Around) (it src:Addr) (vals:Array Value) (St:Nat->Heap->Prop):Prop where
 obj:∀i h,St i h->∃o vs,h.get? it=some o/\o.data=.fields vs/\o.cls≠.type "zip" /\∃o',h.get? src=some o'
 keep:∀i h h',St i h->(∀o,h.get? it=some o->h'.get? it=some o)->(∀o,h.get? src=some o->h'.get? src=some o)->St i h'
 item:∀(i:Nat) (s:Shared) (Q:Value->Shared->Prop) (E:Value->Shared->Prop) (x:Value),St i s.heap->vals[i]?=some x->(∀h',St (i+1) h'->Heap.SameBut it s.heap h'->Q x {s with heap:=h'})->wpAny (model prog w) A (Builtin.SmallTypes.nextOf (.ref it)) Q E s
 done:∀(i:Nat) (s:Shared) (Q:Value->Shared->Prop) (E:Value->Shared->Prop),A.handled=none->St i s.heap->vals[i]?=none->
  (∀h' e,Heap.ExtBut it s.heap h'->(∃o,h'.get? e=some o/\o.cls=.type "StopIteration")->E (.ref e) {s with heap:=h'})->wpAny (model prog w) A (Builtin.SmallTypes.nextOf (.ref it)) Q E s
theorem tU{it:Addr}(c:IsTupIter s.heap it t i)(g:IsTup s.heap t items)(hx:items[i]?=some x)
  (e:∀h',IsTupIter h' it t (i+1)->Heap.SameBut it s.heap h'->Q x {s with heap:=h'}):wpAny (model prog w) A (Builtin.SmallTypes.nextOf (.ref it)) Q E s:=by
 obtain⟨o,d,f,hd⟩:=id c
 obtain⟨h,b,_,nl,a⟩:=g
 refine LJ (Nh (name:=Str.ofString "__next__") c.typeIs slot_tupleiter_next (Mu slot_tupleiter_next c.typeIs entry_tupleiter_next ?_ (args_tupleiter_next _)))
 show wpAny _ _ (field (.ref it) 0>>=_) _ _ s
 refine LJ (MA d hd (x:=.ref t) rfl ?_)
 refine LJ (MA d hd (x:=.int i 0) rfl ?_)
 refine LJ (Ni b a ?_)
 simp only[MH,hx]
 refine LJ (wpAny_setField d hd (by simp) (LM ⟨x,rfl,LM (e _ ?_ (Heap.SameBut.update ..))⟩))
 exact⟨_,MW _ d (Obj.isFreed_of_fields (Obj.data_mapFields hd _)),(Obj.cls_mapFields ..).trans f,by rw[Obj.data_mapFields hd];simp[rawInt]⟩
theorem uZ{it:Addr}(g:A.handled=none)(d:IsTupIter s.heap it t i)(h:IsTup s.heap t items)(hx:items[i]?=none)
  (j:∀h' e,Heap.ExtBut it s.heap h'->(∃o,h'.get? e=some o/\o.cls=.type "StopIteration")->E (.ref e) {s with heap:=h'}):wpAny (model prog w) A (Builtin.SmallTypes.nextOf (.ref it)) Q E s:=by
 obtain⟨o,f,l,hd⟩:=id d
 obtain⟨n,c,_,nl,b⟩:=h
 refine LJ (Nh (name:=Str.ofString "__next__") d.typeIs slot_tupleiter_next (Mu slot_tupleiter_next d.typeIs entry_tupleiter_next ?_ (args_tupleiter_next _)))
 show wpAny _ _ (field (.ref it) 0>>=_) _ _ s
 refine LJ (MA f hd (x:=.ref t) rfl ?_)
 refine LJ (MA f hd (x:=.int i 0) rfl ?_)
 refine LJ (Ni c b ?_)
 simp only[MH,hx]
 refine LJ (NF (LJ (wpAny_setField f hd (by simp) ?_)))
 refine LJ ?_
 refine LJ (m:=firstArgMember _ _) (wpAny_of_eq (a:=Value.none) (by first|rfl|(simp only[firstArgMember];rfl)) (NO ?_ (by size_fits)))
 refine LJ (wpAny_handled ?_)
 first|rw[show A.in1.handled=none from g]|rw[g]
 refine LJ (LM (wpAny_throw ?_))
 exact j _ _ (((Heap.SameBut.update ..).extBut.push _).push _) ⟨_,L4 _ rfl,rfl⟩
theorem Nx.tup {it t:Addr}{items:Array Value}(c:t≠it):Nx prog w A it t items (λi h=>IsTupIter h it t i/\IsTup h t items) where
 obj:=λi h ⟨⟨o,h1,h2,n⟩,⟨o',d,_⟩⟩=>⟨o,_,h1,n,by rw[h2];decide,o',d⟩
 keep:=λi h h' ⟨⟨o,h1,h2⟩,⟨o',d,l⟩⟩ j m=>⟨⟨o,j _ h1,h2⟩,⟨o',m _ d,l⟩⟩
 item:=λi s Q E x ⟨h1,h2⟩ e f=>tU h1 h2 e λh' a b=>f h' ⟨a,h2.extBut b.extBut c⟩ b
 done:=λi s Q E p ⟨h1,h2⟩ e g=>uZ p h1 h2 e g
structure ZA (z TI TO i1 i2 s1 s2:Addr):Prop where
 TIz:TI≠z
 TOz:TO≠z
 i1z:i1≠z
 i2z:i2≠z
 TITO:TI≠TO
 TIi1:TI≠i1
 TIi2:TI≠i2
 TOi1:TO≠i1
 TOi2:TO≠i2
 i12:i1≠i2
 s1z:s1≠z
 s1TO:s1≠TO
 s1i2:s1≠i2
 s2z:s2≠z
 s2TO:s2≠TO
 s2i1:s2≠i1
theorem ER {z TI TO C B s1 Y:Addr}{xs ys:Array Value}{K P:Nat->Heap->Prop}{i:Nat}{x y a b:Value}{Q:Value->Shared->Prop}(D:ZA z TI TO C B s1 Y)(O:Nx prog w A C s1 xs K)(S:Nx prog w A B Y ys P)
  (hz:IsZip s.heap z TI TO .none) (N:IsPair s.heap TI (.ref C) (.ref B)) (I:IsPair s.heap TO a b) (h1:K i s.heap) (h2:P i s.heap) (hx:xs[i]?=some x) (hy:ys[i]?=some y)
  (hQ:∀h',IsZip h' z TI TO (rawInt s.heap.objs.size)->IsPair h' TO x y->K (i+1) h'->P (i+1) h'->IsPair h' s.heap.objs.size x y->h'.objs.size=s.heap.objs.size+1->
   (∀c o,c≠z->c≠TO->c≠C->c≠B->s.heap.get? c=some o->h'.get? c=some o)->Q (.ref s.heap.objs.size) {s with heap:=h'}):
  wpAny (model prog w) A (Builtin.«zip.__next__» ⟨[.ref z],[]⟩) (λJ s'=>∃v,J=.done (.ret v)/\Q v s') E s:=by
 show wpAny _ _ (field (.ref z) 2>>=_) _ _ _
 refine LJ (MA hz rfl (x:=.bool false) rfl ?_)
 refine LJ (MA hz rfl (x:=.ref TI) rfl (LJ (Ni N rfl ?_)))
 refine LJ ?_
 refine LJ (MA hz rfl (x:=.none) rfl (LM ?_))
 refine LJ (NF (LJ (MA hz rfl (x:=.ref TO) rfl (LJ (N_ hz (by simp) λg1 z1 p=>?_)))))
 refine LJ ?_
 refine LJ (LJ (wpAny_onRaise ?_))
 refine LJ (O.item i {s with heap:=g1} _ _ x (O.keep _ _ _ h1 (λo e=>p.extBut _ _ D.i1z e) (λo e=>p.extBut _ _ D.s1z e)) hx λg2 a1 r=>LM ?_)
 have X:IsPair g2 TO a b:=r.extBut _ _ D.TOi1 (p.extBut _ _ D.TOz I)
 refine LJ (Ni X rfl (LJ (wpAny_updateSeq_pair X λg3 t3 n=>?_)))
 refine LJ (wpAny_letGo (LM ?_))
 refine LJ (LJ (wpAny_onRaise ?_))
 refine LJ (S.item i {s with heap:=g3} _ _ y (S.keep _ _ _ h2 (λo e=>n.extBut _ _ D.TOi2.symm (r.extBut _ _ D.i12.symm (p.extBut _ _ D.i2z e))) (λo e=>n.extBut _ _ D.s2TO (r.extBut _ _ D.s2i1 (p.extBut _ _ D.s2z e)))) hy λg4 a2 u=>LM ?_)
 have Z:IsPair g4 TO x b:=u.extBut _ _ D.TOi2 t3
 refine LJ (Ni Z rfl (LJ (wpAny_updateSeq_pair Z λl H m=>?_)))
 replace H:IsPair l TO x y:=H
 refine LJ (wpAny_letGo (LM (LM ?_)))
 refine LJ (Ni H rfl (LJ (wpAny_newTuple ?_)))
 have h:l.objs.size=s.heap.objs.size:=by rw[m.1,u.1,n.1,r.1,p.1]
 have W:IsZip l z TI TO .ellipsis:=m.extBut _ _ D.TOz.symm (u.extBut _ _ D.i2z.symm (n.extBut _ _ D.TOz.symm (r.extBut _ _ D.i1z.symm z1)))
 have j:∀c o,c≠z->c≠TO->c≠C->c≠B->s.heap.get? c=some o->l.get? c=some o:=λc o q G T R e=>m.extBut _ _ G (u.extBut _ _ R (n.extBut _ _ G (r.extBut _ _ T (p.extBut _ _ q e))))
 have g:z<l.objs.size:=LW W
 refine LJ ?_
 have z6:IsZip (l.push {cls:=.type "tuple",data:=.seq #[x,y]}) z TI TO .ellipsis:=LU _ W
 refine LJ (N_ z6 (by simp) λg7 z7 U=>?_)
 refine N_ z7 (by simp) λF z8 M=>?_
 have up:∀c o,c≠z->l.get? c=some o->F.get? c=some o:=λc o q e=>M.extBut _ _ q (U.extBut _ _ q (LU _ e))
 have d:IsPair F l.objs.size x y:=M.extBut _ _ (Nt g) (U.extBut _ _ (Nt g) (L4 _ rfl))
 have f:F.objs.size=l.objs.size+1:=by rw[M.1,U.1,Mz]
 rw[h] at z8 d f
 refine LM ⟨_,rfl,?_⟩
 rw[h]
 exact hQ F z8 (up _ _ D.TOz H)
  (O.keep _ _ _ a1 (λo e=>up _ o D.i1z (m.extBut _ _ D.TOi1.symm (u.extBut _ _ D.i12 (n.extBut _ _ D.TOi1.symm e)))) (λo e=>up _ o D.s1z (m.extBut _ _ D.s1TO (u.extBut _ _ D.s1i2 (n.extBut _ _ D.s1TO e)))))
  (S.keep _ _ _ a2 (λo e=>up _ o D.i2z (m.extBut _ _ D.TOi2.symm e)) (λo e=>up _ o D.s2z (m.extBut _ _ D.s2TO e))) d f λc o q G T R e=>up c o q (j c o q G T R e)
theorem HH{TI TO:Addr}{J O:Nat->Heap->Prop}{Q:Fin->Shared->Prop}(U:A.handled=none)(D:ZA z TI TO i1 i2 s1 s2)(B:Nx prog w A i1 s1 xs J)(R:Nx prog w A i2 s2 ys O)
  (hz:IsZip s.heap z TI TO .none) (u:IsPair s.heap TI (.ref i1) (.ref i2)) (r:IsPair s.heap TO a b) (h1:J i s.heap) (h2:O i s.heap) (p:xs[i]?=none\/ys[i]?=none)
  (W:∀h' e,(∀c o,c≠z->c≠TO->c≠i1->c≠i2->s.heap.get? c=some o->h'.get? c=some o)->(∃o,h'.get? e=some o/\o.cls=.type "StopIteration")->E (.ref e) {s with heap:=h'}):
  wpAny (model prog w) A (Builtin.«zip.__next__» ⟨[.ref z],[]⟩) Q E s:=by
 show wpAny _ _ (field (.ref z) 2>>=_) _ _ _
 refine LJ (MA hz rfl (x:=.bool false) rfl ?_)
 refine LJ (MA hz rfl (x:=.ref TI) rfl (LJ (Ni u rfl ?_)))
 refine LJ ?_
 refine LJ (MA hz rfl (x:=.none) rfl (LM ?_))
 refine LJ (NF (LJ (MA hz rfl (x:=.ref TO) rfl (LJ (N_ hz (by simp) λF T n=>?_)))))
 refine LJ ?_
 refine LJ (LJ (wpAny_onRaise ?_))
 have j:=B.keep _ _ F h1 (λo e=>n.extBut _ _ D.i1z e) (λo e=>n.extBut _ _ D.s1z e)
 cases hx:xs[i]? with
 |none=>
  refine LJ (B.done i {s with heap:=F} _ _ U j hx λH e l I=>?_)
  obtain⟨C,d,f⟩:=I
  have N:IsZip H z TI TO .ellipsis:=l _ _ D.i1z.symm T
  have g:e≠z:=λx=>by subst x;rw[N] at d;cases d;simp at f
  exact N_ N (by simp) λy _ m=>W y e (λc o q _ G _ x=>m.extBut _ _ q (l _ _ G (n.extBut _ _ q x))) ⟨C,m.extBut _ _ g d,f⟩
 |some x=>
  have Z:ys[i]?=none:=by rcases p with h|h;rw[hx] at h;cases h;exact h
  refine LJ (B.item i {s with heap:=F} _ _ x j hx λH a1 l=>LM ?_)
  have K:IsPair H TO a b:=l.extBut _ _ D.TOi1 (n.extBut _ _ D.TOz r)
  refine LJ (Ni K rfl (LJ (wpAny_updateSeq_pair K λy t3 m=>?_)))
  refine LJ (wpAny_letGo (LM ?_))
  refine LJ (LJ (wpAny_onRaise ?_))
  refine LJ (R.done i {s with heap:=y} _ _ U (R.keep _ _ _ h2 (λo e=>m.extBut _ _ D.TOi2.symm (l.extBut _ _ D.i12.symm (n.extBut _ _ D.i2z e))) (λo e=>m.extBut _ _ D.s2TO (l.extBut _ _ D.s2i1 (n.extBut _ _ D.s2z e)))) Z λg4 e P I=>?_)
  obtain⟨C,d,f⟩:=I
  have S:IsZip g4 z TI TO .ellipsis:=P _ _ D.i2z.symm (m.extBut _ _ D.TOz.symm (l.extBut _ _ D.i1z.symm T))
  have g:e≠z:=λx=>by subst x;rw[S] at d;cases d;simp at f
  exact N_ S (by simp) λX _ M=>W X e (λc o q Y G c4 x=>M.extBut _ _ q (P _ _ c4 (m.extBut _ _ Y (l.extBut _ _ G (n.extBut _ _ q x))))) ⟨C,M.extBut _ _ g d,f⟩
theorem pO(I:aJ X pins σ H s)(h:bW X.K H t xs)(f:kC X pins H b):t≠b:=λz=>by
 subst z
 obtain⟨c,l,g,f3,j,m⟩:=f
 rcases h with (h|⟨_,h⟩)|⟨o,d,n,e,_⟩
 ·rw[c] at h;cases h
 ·rw[c] at h;cases h
 ·have a:=I.ok.mod.kin _ _ e
  rcases f3 with f3|f3
  ·exact I.ok.noex _ _ a f3
  ·exact absurd (Me (LW (I.ok.bs _ _ a).1) f3) (ML _)
noncomputable def Bg (K:LO) (b a:Addr):It:=
 ⟨λi H=>∃xs ys x y,bW K H b xs/\bW K H a ys/\xs[i]?=some x/\ys[i]?=some y,
  λi H x H'=>∃p d c,H p=none/\x=.ref p/\H'=upd H p (.tup [d,c])/\(∀xs,bW K H b xs->xs[i]?=some d)/\∀ys,bW K H a ys->ys[i]?=some c,
  λi H=>∃xs ys,bW K H b xs/\bW K H a ys/\(xs.length<=i\/ys.length<=i)⟩
def Kd (z TI TO d c f e:Addr) (i:Nat) (h:Heap):Prop:=IsZip h z TI TO .none/\IsPair h TI (.ref d) (.ref c)/\(∃a b,IsPair h TO a b)/\IsTupIter h d f i/\IsTupIter h c e i
theorem yF {P:Program}{bt:List Expr}{x1:Nat}{b5:Pos}(z TI TO i1 i2 t1 t2:Addr)(D0:TI≠z/\TO≠z/\i1≠z/\i2≠z/\TI≠TO/\TI≠i1/\TI≠i2/\TO≠i1/\TO≠i2/\i1≠i2):
  nO P w K (.Tuple bt x1 b5) (Bg K t1 t2) [z,TI,TO,i1,i2] z (Kd z TI TO i1 i2 t1 t2) where
 mem:=by simp
 obj:=λi h st b hb=>by
  obtain⟨h1,h2,⟨a,c,h3⟩,⟨o4,h4,_,d4⟩,⟨o5,h5,_,d5⟩⟩:=st
  simp only[LS,Md,or_false] at hb
  rcases hb with rfl|rfl|rfl|rfl|rfl
  ·exact⟨_,h1,λv e=>by have e':Data.fields _=Data.cell v:=e;cases e'⟩
  ·exact⟨_,h2,λv e=>by have e':Data.seq _ _=Data.cell v:=e;cases e'⟩
  ·exact⟨_,h3,λv e=>by have e':Data.seq _ _=Data.cell v:=e;cases e'⟩
  ·exact⟨_,h4,λv e=>by rw[d4] at e;cases e⟩
  ·exact⟨_,h5,λv e=>by rw[d5] at e;cases e⟩
 keep:=λi h h' ⟨h1,h2,⟨a,c,h3⟩,⟨o4,h4,c4,d4⟩,⟨o5,h5,c5,d5⟩⟩ k=>⟨k z (by simp) _ h1,k TI (by simp) _ h2,⟨a,c,k TO (by simp) _ h3⟩,⟨o4,k i1 (by simp) _ h4,c4,d4⟩,⟨o5,k i2 (by simp) _ h5,c5,d5⟩⟩
 item:=by
  intro X hP hw hK hc i pins s σ H E I hf st hg
  subst hP hw hK
  obtain⟨xs,ys,x,y,g,j,hx,hy⟩:=hg
  obtain⟨hz,B,⟨a,b,M⟩,J,O⟩:=st
  obtain⟨C,r1,p1,_⟩:=I.tuple g
  obtain⟨G,r2,p2,_⟩:=I.tuple j
  obtain⟨u1,Z,ac⟩:=r1.get hx
  obtain⟨u2,am,ap⟩:=r2.get hy
  obtain⟨d1,d2,d3,d4,d5,d6,d7,d8,d9,R⟩:=D0
  have d:∀b∈[z,TI,TO,i1,i2],t1≠b:=λb hb=>pO I g (hf b hb)
  have f:∀b∈[z,TI,TO,i1,i2],t2≠b:=λb hb=>pO I j (hf b hb)
  have D:ZA z TI TO i1 i2 t1 t2:=⟨d1,d2,d3,d4,d5,d6,d7,d8,d9,R,d _ (by simp),d _ (by simp),d _ (by simp),f _ (by simp),f _ (by simp),f _ (by simp)⟩
  have hT:s.TypeIs (.ref z) "zip" :=⟨_,hz,rfl⟩
  have nT:s.heap.get? s.heap.objs.size=none:=NX (LL _)
  have S:∀b∈[z,TI,TO,i1,i2],b<s.heap.objs.size:=λb hb=>by
   obtain⟨_,e4,_⟩:=J
   obtain⟨_,e5,_⟩:=O
   simp only[LS,Md,or_false] at hb
   rcases hb with rfl|rfl|rfl|rfl|rfl
   ·exact LW hz
   ·exact LW B
   ·exact LW M
   ·exact LW e4
   ·exact LW e5
  refine LJ (MZ (Nh (name:=Str.ofString "__next__") hT F.slot_zip_next (Mu F.slot_zip_next hT F.entry_zip_next
   (ER D (Nx.tup (items:=C.toArray) (d _ (by simp))) (Nx.tup (items:=G.toArray) (f _ (by simp))) hz B M ⟨J,p1⟩ ⟨O,p2⟩ (by simpa using Z) (by simpa using am) λh' a1 a2 a3 a4 a5 a6 hk=>LM ⟨_,rfl,?_⟩) (F.args_zip_next_1 _))))
  refine wpAny_letOwnedTupleGo_zip (s:={s with heap:=h'}) a1 λh2 b4 sb=>?_
  have ab:z<s.heap.objs.size:=S z (by simp)
  have Y:h2.get? s.heap.objs.size=some {cls:=.type "tuple",data:=.seq #[u1,u2]}:=(sb.2 _ (Nt ab)).trans a5
  refine⟨.ref s.heap.objs.size,upd H s.heap.objs.size (.tup [x,y]),aJ.turnedLaid (s:=s) (h':=h2) (fp:=[z,TI,TO,i1,i2]) (t':=s.toks) I hf (λb v hb q=>?_) nT ?_,rfl,⟨_,x,y,I.hok.none_of nT,rfl,rfl,λl hl=>by rw[I.tuple_inj hl g];exact hx,λl hl=>by rw[I.tuple_inj hl j];exact hy⟩,
   ⟨b4,?_,⟨_,_,(sb.2 _ d2).trans a2⟩,?_,?_⟩,λb hb=>?_⟩
  ·have p:b≠z/\b≠TO/\b≠i1/\b≠i2:=⟨λe=>hb (by simp[e]),λe=>hb (by simp[e]),λe=>hb (by simp[e]),λe=>hb (by simp[e])⟩
   exact(sb.2 b p.1).trans (hk b v p.1 p.2.1 p.2.2.1 p.2.2.2 q)
  ·exact⟨by show 2<=sizeLine;decide,_,.cons ac (.cons ap .nil),_,Y,rfl,_,rfl⟩
  ·exact(sb.2 _ d1).trans (hk _ _ d1 d5 d6 d7 B)
  ·obtain⟨o,e,r⟩:=a3.1
   exact⟨o,(sb.2 _ d3).trans e,r⟩
  ·obtain⟨o,e,r⟩:=a4.1
   exact⟨o,(sb.2 _ d4).trans e,r⟩
  ·rw[ak (L3 (S b hb))];exact(hf b hb).1
 done:=by
  intro X hP hw hK hc i pins s σ H E I hf st hg
  subst hP hw hK
  obtain⟨xs,ys,g,j,U⟩:=hg
  obtain⟨hz,B,⟨a,b,M⟩,J,O⟩:=st
  obtain⟨C,r1,p1,_⟩:=I.tuple g
  obtain⟨G,r2,p2,_⟩:=I.tuple j
  have e1:=r1.length
  have e2:=r2.length
  obtain⟨d1,d2,d3,d4,d5,d6,d7,d8,d9,R⟩:=D0
  have d:∀b∈[z,TI,TO,i1,i2],t1≠b:=λb hb=>pO I g (hf b hb)
  have f:∀b∈[z,TI,TO,i1,i2],t2≠b:=λb hb=>pO I j (hf b hb)
  have D:ZA z TI TO i1 i2 t1 t2:=⟨d1,d2,d3,d4,d5,d6,d7,d8,d9,R,d _ (by simp),d _ (by simp),d _ (by simp),f _ (by simp),f _ (by simp),f _ (by simp)⟩
  have hT:s.TypeIs (.ref z) "zip" :=⟨_,hz,rfl⟩
  refine LJ (MZ (Nh (name:=Str.ofString "__next__") hT F.slot_zip_next (Mu F.slot_zip_next hT F.entry_zip_next
   (HH (show X.A.in1.handled=none from I.ok.hd hc) D (Nx.tup (items:=C.toArray) (d _ (by simp))) (Nx.tup (items:=G.toArray) (f _ (by simp))) hz B M ⟨J,p1⟩ ⟨O,p2⟩ ?_ λh' e hk he=>?_) (F.args_zip_next_1 _))))
  ·rcases U with h|h
   ·exact .inl (Oj (by simp;lia))
   ·exact .inr (Oj (by simp;lia))
  ·obtain⟨o,ho,W⟩:=he
   refine LJ (NC (T:= "StopIteration") (b:=true) ⟨o,ho,W⟩ isSubtype_stop ?_)
   refine LM ⟨rfl,?_⟩
   refine I.step (g':=s.gens) (d':=s.drawn) (t':=s.toks) (h':=h') (ch:=[z,TI,TO,i1,i2]) (λb hb=>⟨(hf b hb).2.2.2.1,(hf b hb).2.1,(hf b hb).2.2.2.2.1,(hf b hb).2.2.2.2.2⟩) (λb u _ _ hc' q _=>?_) (λb u _ _ hc' q _=>⟨u.slots,?_⟩) (λb u _ _ n=>n) (λb u hc' q=>⟨u,?_⟩) (λb xs q=>q) (λb u xs q=>q) (λb ps q=>⟨#[],by rw[q];simp⟩) (λm hm=>?_) (λb u q=>?_) I.bare
   ·exact hk b u (λe=>hc' (by simp[e])) (λe=>hc' (by simp[e])) (λe=>hc' (by simp[e])) (λe=>hc' (by simp[e])) q
   ·exact hk b u (λe=>hc' (by simp[e])) (λe=>hc' (by simp[e])) (λe=>hc' (by simp[e])) (λe=>hc' (by simp[e])) q
   ·exact hk b u (λe=>hc' (by simp[e])) (λe=>hc' (by simp[e])) (λe=>hc' (by simp[e])) (λe=>hc' (by simp[e])) q
   ·obtain⟨o',es,ep,ad,r⟩:=hm
    have nl:∀b∈[z,TI,TO,i1,i2],X.env.locals≠b:=λb hb=>L8 (hf b hb).2.1
    exact⟨o',es,ep,hk _ o' (nl _ (by simp)) (nl _ (by simp)) (nl _ (by simp)) (nl _ (by simp)) ad,r⟩
   ·have uX:∀b∈[z,TI,TO,i1,i2],∀c u,H c=some u->c≠b:=λb hb c u e z=>by rw[z,(hf b hb).1] at e;cases e
    refine(I.hok b u q).stay (λc v hc' e=>?_) (λ_ e=>e) λ_ _ e=>e
    have an:∃u',H c=some u':=by
     rcases hc' with rfl|hc'
     ·exact⟨_,q⟩
     ·exact⟨_,hc'⟩
    obtain⟨u',N⟩:=an
    exact hk c v (uX _ (by simp) c u' N) (uX _ (by simp) c u' N) (uX _ (by simp) c u' N) (uX _ (by simp) c u' N) e
 self:=λA i s Q E st h=>wpAny_pyIter_zip st.1 h
abbrev Fu (h:Heap) (l1:Addr):Heap:=h.push {cls:=.type "tuple_iterator",data:=.fields #[.ref l1,.int 0 0]}
abbrev Ek (h:Heap) (l1 l2:Addr):Heap:=(Fu h l1).push {cls:=.type "tuple_iterator",data:=.fields #[.ref l2,.int 0 0]}
abbrev D8 (h:Heap) (l1 l2:Addr):Heap:=(Ek h l1 l2).push {cls:=.type "tuple",data:=.seq #[.ref h.objs.size,.ref (Fu h l1).objs.size]}
abbrev FT (h:Heap) (l1 l2:Addr):Heap:=(D8 h l1 l2).push {cls:=.type "tuple",data:=.seq #[.none,.none]}
abbrev vB (h:Heap) (l1 l2:Addr):Heap:=(FT h l1 l2).push {cls:=.type "zip",data:=.fields #[.none,.bool false,.bool false,.ref (Ek h l1 l2).objs.size,.ref (D8 h l1 l2).objs.size]}
theorem BG (l1 a:Addr)(xs ys:Array Value):Meets (Builtin.«zip.__new__» ⟨[.type "zip",.ref l1,.ref a],[]⟩) (λ_ R s=>IsTup s.heap l1 xs/\IsTup s.heap a ys/\R (.ok (.ret (.ref (FT s.heap l1 a).objs.size))) {s with heap:=vB s.heap l1 a}):=
 .of_wp λprog w A R s h=>by
  obtain⟨b,g,d,tk,os⟩:=s;obtain⟨c,f,h⟩:=h
  have sz:=sub_zip
  have e:IsTup (Shared.heap ⟨b,g,d,tk,os⟩) l1 xs:=c
  have b2:IsTup (Shared.heap ⟨b.push {cls:=.type "tuple_iterator",data:=.fields #[.ref l1,.int 0 0]},g,d,tk,os⟩) a ys:=IsTup.push f _
  wp_walk using iter_tuple e,iter_tuple b2
  exact⟨_,rfl,h⟩
theorem yX{l1:Addr}(j:IsTup s.heap l1 xs)(b:IsTup s.heap l2 ys)
  (h:∀h',Kd (s.heap.objs.size+4) (s.heap.objs.size+2) (s.heap.objs.size+3) s.heap.objs.size (s.heap.objs.size+1) l1 l2 0 h'->h'.objs.size=s.heap.objs.size+5->(∀c o,s.heap.get? c=some o->h'.get? c=some o)->Q (.ref (s.heap.objs.size+4)) {s with heap:=h'}):
  wpAny (model prog w) A (call (.type "zip") [.ref l1,.ref l2]) Q E s:=by
 refine callType_new F.called_zip (by decide) (F.typeCall_zip_2 _ _) (F.newCall_zip_2 _ _) (λl=>F.args_object_init_3 l _ _) F.entry_zip_new (BG l1 l2 xs ys) ⟨j,b,?_⟩
 have g:(Fu s.heap l1).objs.size=s.heap.objs.size+1:=Mz ..
 have d:(Ek s.heap l1 l2).objs.size=s.heap.objs.size+2:=by rw[Mz,g]
 have e:(D8 s.heap l1 l2).objs.size=s.heap.objs.size+3:=by rw[Mz,d]
 have f:(FT s.heap l1 l2).objs.size=s.heap.objs.size+4:=by rw[Mz,e]
 have q:(vB s.heap l1 l2).objs.size=s.heap.objs.size+5:=by rw[Mz,f]
 have a:(vB s.heap l1 l2).get? (FT s.heap l1 l2).objs.size=some _:=L4 _ rfl
 have p:(vB s.heap l1 l2).get? (D8 s.heap l1 l2).objs.size=some _:=LU _ (L4 _ rfl)
 have m:(vB s.heap l1 l2).get? (Ek s.heap l1 l2).objs.size=some _:=LU _ (LU _ (L4 _ rfl))
 have n:(vB s.heap l1 l2).get? (Fu s.heap l1).objs.size=some _:=LU _ (LU _ (LU _ (L4 _ rfl)))
 have r:(vB s.heap l1 l2).get? s.heap.objs.size=some _:=LU _ (LU _ (LU _ (LU _ (L4 _ rfl))))
 rw[d,e,f] at a
 rw[g,d] at m
 rw[e] at p
 rw[g] at n
 rw[f]
 exact⟨⟨_,a,rfl⟩,h _ ⟨a,m,⟨_,_,p⟩,⟨_,r,rfl,rfl⟩,⟨_,n,rfl,rfl⟩⟩ q λc o x=>LU _ (LU _ (LU _ (LU _ (LU _ x))))⟩
def Jy (K:LO) (c:TA):TI:=λσ H R=>c σ H λvs H1=>∃a b,vs=[.ref a,.ref b]/\(∃xs,bW K H1 a xs)/\(∃ys,bW K H1 b ys)/\R (Bg K a b) H1
theorem Fw(J:Gl X "zip")(C:X.mg "zip" =none)(F:PA X [a,b] ta)(M:starEach [a,b] X.env=[(false,eval a X.env),(false,eval b X.env)]:=by rfl)
  (G:starEach [a,b] X.env=(false,eval a X.env)::starEach [b] X.env:=by rfl) (u:(backTo pos (starEach [b] X.env)).any (·.1)=false:=by rfl):
  PI X (.Tuple elts x1 pt) (.Call (.Name "zip" p) [a,b] [] pos) (Jy X.K ta):=by
 intro pins s σ H R I h
 refine Ng (gi I J C Ha ?_ (by decide) (by decide))
 refine PyProof.Rows.callWith_type1 (cy (F pos pins s σ H _ I h) λN r E=>?_) G u
 obtain⟨vs,H1,I1,r1,l1,w,A,⟨xs,e⟩,⟨ys,g⟩,q⟩:=E
 subst A
 obtain⟨B,y,rfl,d,f⟩:=kW r1
 cases(show B=Value.ref l1 from d)
 cases(show y=Value.ref w from f)
 obtain⟨j,o,p1,_⟩:=I1.tuple e
 obtain⟨l,m,p2,_⟩:=I1.tuple g
 refine yX p1 p2 λh' st sz D=>?_
 refine wpAny_pyIter_zip (s:={r with heap:=h'}) st.1 ?_
 refine⟨r.heap.objs.size+4,[r.heap.objs.size+4,r.heap.objs.size+2,r.heap.objs.size+3,r.heap.objs.size,r.heap.objs.size+1],_,_,H1,rfl,I1.kept (t':=r.toks) D,yF _ _ _ _ _ l1 w ?_,st,λb x=>?_,q⟩
 ·generalize r.heap.objs.size=n
  refine⟨?_,?_,?_,?_,?_,?_,?_,?_,?_,?_⟩<;>(intro z;have O:(_:Nat)=_:=z;lia)
 ·have c:r.heap.objs.size<=b:=by
   simp only[LS,Md,or_false] at x
   rcases x with rfl|rfl|rfl|rfl|rfl
   ·exact NI _ _
   ·exact NI _ _
   ·exact NI _ _
   ·exact LL _
   ·exact NI _ _
  exact I1.fpOk c (I1.hok.fresh c)
theorem Bj {a b:Addr}{xs ys:List V}{g:TG}{n:TS}{D:fX}(q:xs.length=ys.length)(c:Nat->St->Hp->Prop)(h0:c 0 σ H)(B:∀i σ H,i<=xs.length->c i σ H->bW K H a xs/\bW K H b ys)
  (r:∀i x y p σ H,xs[i]?=some x->ys[i]?=some y->H p=none->c i σ H->g (.ref p) σ (upd H p (.tup [x,y])) λd H2=>n {D with nx:=c (i+1),ct:=c (i+1),bk:=D.nx} d H2) (hd:∀σ H,c xs.length σ H->D.nx σ H):
  ∃W:Nat->Nat->St->Hp->Prop,(∃m,W 0 m σ H)/\∀i m σ H,W i m σ H->
   ((Bg K a b).stop i H/\D.nx σ H)\/((Bg K a b).go i H/\∃N:St->Hp->Prop,(∀f H',N f H'->∃l,l<m/\W (i+1) l f H')/\∀x H',(Bg K a b).yld i H x H'->g x σ H' λd H2=>n {D with nx:=N,ct:=N,bk:=D.nx} d H2):=by
 refine⟨λi m σ H=>m=xs.length - i/\i<=xs.length/\c i σ H,⟨xs.length,by simp,L0 _,h0⟩,?_⟩
 rintro i m σ H ⟨rfl,hi,p⟩
 obtain⟨h,j⟩:=B i σ H hi p
 by_cases hlt:i<xs.length
 ·refine .inr ⟨⟨xs,ys,xs[i],ys[i],h,j,by simp[hlt],by simp[show i<ys.length by omega]⟩,c (i+1),λf H' A=>⟨xs.length - (i+1),by omega,rfl,hlt,A⟩,λx H' z=>?_⟩
  obtain⟨P,s,C,w,rfl,rfl,o,u⟩:=z
  exact r i s C P σ _ (o xs h) (u ys j) w p
 ·have e:i=xs.length:=by omega
  subst e
  exact .inl ⟨⟨xs,ys,h,j,.inl (LL _)⟩,hd σ H p⟩
section
variable {d it v:Addr} {o:Obj} {es:Array DictEntry} {i ep:Nat}
theorem wA(hd:(d==sysModules)=false)(c:s.heap.get? d=some o)(b:o.ExactDict)
  (h:Q (.ref s.heap.objs.size) {s with heap:=s.heap.push {cls:=.type "dict_values",data:=.fields #[.ref d]}}):wpAny (model prog w) A (call (.builtin "dict.values") [.ref d]) Q E s:=by
 have a:s.TypeIs (.ref d) "dict" :=⟨o,c,b.1⟩
 refine Mu F.slot_dict_values a F.entry_dict_values ?_ (F.args_dict_values_1 _)
 refine LJ ?_
 refine LJ (Oi a ?_)
 refine LM ?_
 unfold Builtin.Dict.showsAll
 rw[if_neg (by rw[hd];exact L6)]
 exact LJ (LM (LJ (NO (LM ⟨_,rfl,h⟩))))
theorem FM(f:s.heap.IsValuesView v d)(g:s.heap.get? d=some o)(e:o.data=.dict es ep)
  (h:Q (.ref s.heap.objs.size) {s with heap:=s.heap.push {cls:=.type "dict_valueiterator",data:=.fields #[.ref d,.int 0 0,.int es.size 0,.int ep 0]}}):wpAny (model prog w) A (pyIter (.ref v)) Q E s:=by
 obtain⟨j,b,c,a⟩:=id f
 refine wpAny_pyIter_slot f.typeIs F.slot_dict_values_iter (Mu F.slot_dict_values_iter f.typeIs F.entry_dict_values_iter ?_ (F.args_dict_values_iter_1 _))
 refine LJ (LM (LJ ?_))
 refine LJ (MA b a (x:=.ref d) rfl (LM (LJ ?_)))
 refine LJ (M0 g e (LJ (N7 g e ?_)))
 simp only[show Builtin.Dict_items.ownsTuple "dict_valueiterator" =false by decide,Bool.false_eq_true,if_false]
 refine NO (LM ⟨_,rfl, "dict_valueiterator",_,⟨_,L4 _ rfl,rfl⟩,F.slot_dict_valueiterator_next.lookup,?_⟩)
 simpa[rawInt] using h
theorem FK(a:s.heap.IsValIter it d i es.size ep)(b:s.heap.get? d=some o)(c:o.data=.dict es ep)(f:i<es.size)
  (g:∀h',h'.IsValIter it d (i+1) es.size ep->Heap.SameBut it s.heap h'->Q (some es[i].val) {s with heap:=h'}):wpAny (model prog w) A (pyNext (.ref it)) Q E s:=by
 obtain⟨j,e,h,hd⟩:=id a
 refine LJ (MZ (Nh (name:=Str.ofString "__next__") a.typeIs F.slot_dict_valueiterator_next
  (Mu F.slot_dict_valueiterator_next a.typeIs F.entry_dict_valueiterator_next ?_ (F.args_dict_valueiterator_next_1 _))))
 refine LJ (LM (LJ (LJ ?_)))
 refine LJ (OB a.typeIs (LM ?_))
 refine LJ (wpAny_fieldsOf e hd ?_)
 show wpAny _ _ (if (Value.ref d==Value.none)=true then _ else _) _ _ s
 refine LJ (LM (LJ (M0 b c ?_)))
 rw[if_neg (by simp)]
 refine LJ (LM (LJ (N7 b c ?_)))
 rw[if_neg (by simp)]
 refine LM ?_
 simp only[show¬((i:Int)<0) from by lia,if_false,MH,Nj f]
 refine LJ ?_
 refine LJ (OB a.typeIs (LM ?_))
 refine LJ (wpAny_isOneOf_valiter a.typeIs ?_)
 show wpAny _ _ (setField (.ref it) 1 (rawInt ((i:Int)+1))>>=_) _ _ s
 refine LJ (wpAny_setField e hd (by simp) ?_)
 have new:(s.heap.update it (Obj.mapFields (·.setIfInBounds 1 (rawInt ((i:Int)+1))))).IsValIter it d (i+1) es.size ep:=
  ⟨_,MW _ e (Obj.isFreed_of_fields (Obj.data_mapFields hd _)),(Obj.cls_mapFields ..).trans h,by rw[Obj.data_mapFields hd];simp[rawInt]⟩
 refine LJ (Ms (LJ (wpAny_isOneOf_valiter (s:={s with heap:=s.heap.update it (Obj.mapFields (·.setIfInBounds 1 (rawInt ((i:Int)+1))))}) new.typeIs ?_)))
 refine LJ (wpAny_isOneOf_valiter (s:={s with heap:=s.heap.update it (Obj.mapFields (·.setIfInBounds 1 (rawInt ((i:Int)+1))))}) new.typeIs ?_)
 exact LM (LM ⟨_,rfl,LM (g _ new (Heap.SameBut.update ..))⟩)
theorem Hl(g:A.handled=none)(c:s.heap.IsValIter it d i es.size ep)(a:s.heap.get? d=some o)(b:o.data=.dict es ep)(e:es.size<=i)(f:∀h',Heap.ExtBut it s.heap h'->Q none {s with heap:=h'}):wpAny (model prog w) A (pyNext (.ref it)) Q E s:=(wZ g a b e f).2 c
end
noncomputable def JD (d:Addr) (o:Obj) (u:HO):It:=
 ⟨λi H=>H d=some (.frz o u)/\i<kR u,λi H v H'=>H'=H/\∃x,ja H u i x v,λi H=>H d=some (.frz o u)/\kR u<=i⟩
theorem yM {P:Program}{W:Expr}(d it:Addr)(o:Obj)(u:HO)(O:pE u)(es:Array DictEntry)(ep:Nat)(hd:o.data=.dict es ep):
  nO P w K W (JD d o u) [it] it (λi h=>h.IsValIter it d i es.size ep) where
 mem:=by simp
 obj:=λi h st b n=>by
  rw[LY.mp n]
  obtain⟨r,e,c,q⟩:=st
  exact⟨r,e,λv z=>by rw[q] at z;cases z⟩
 keep:=λi h h' st k=>Heap.IsValIter.at st λr e=>k it (by simp) r e
 item:=by
  intro X Z hw S N i pins s σ H E I y st hg
  obtain⟨J,hi⟩:=hg
  obtain⟨_,f,_,m,l,a,T,g⟩:=iB I.hok J O
  rw[hd] at a;cases a
  obtain⟨D,M,f2,B,C,G⟩:=y it (by simp)
  have j:i<es.size:=by omega
  obtain⟨x,v,Y,r1,r2⟩:=g i j
  refine FK st f hd j λh' p sb=>?_
  have U:aJ X pins σ H {s with heap:=h'}:=I.turned (t':=s.toks) (λb R n e=>(sb.2 b n).trans e) D M B C G
  obtain⟨r,e,c,q⟩:=id p
  exact⟨_,rfl,so (s:={s with heap:=h'}) e c q (by decide) ⟨v,H,U,r2,⟨rfl,x,Y⟩,p,λb n=>(y b n).1⟩⟩
 done:=by
  intro X Z hw S N i pins s σ H E I y st hg
  obtain⟨J,hi⟩:=hg
  obtain⟨_,f,_,m,l,a,T,g⟩:=iB I.hok J O
  rw[hd] at a;cases a
  obtain⟨D,M,f2,B,C,G⟩:=y it (by simp)
  exact Hl (I.ok.hd N) st f hd (by omega) λh' eb=>⟨rfl,I.turned (t':=s.toks) (λb R n e=>eb b R n e) D M B C G⟩
 self:=λA i s Q E st h=>by
  refine wpAny_pyIter_slot st.typeIs F.slot_dict_valueiterator_iter (Mu F.slot_dict_valueiterator_iter st.typeIs entry_dict_valueiterator_iter ?_ (F.args_dict_valueiterator_iter_1 _))
  exact LM ⟨_,rfl, "dict_valueiterator",_,st.typeIs,F.slot_dict_valueiterator_next.lookup,h⟩
def Ka (te:TE):TI:=λσ H R=>te σ H λx H1=>∃d o u,x=.ref d/\H1 d=some (.frz o u)/\pE u/\R (JD d o u) H1
theorem zk(C:PE X e te)
  (l:attributeBase e "values" X.env (eval e X.env)=eval e X.env:=by rfl) (g:(apos.endLine==cpos.line)=true:=by rfl):
  PI X tg (.Call (.Attribute e "values" apos) [] [] cpos) (Ka te):=by
 intro pins s σ H R I h
 refine wpAny_Call_method0_late l g (cy (C pins s σ H _ I h) λv j B=>?_)
 obtain⟨x,H1,I1,r,d,o,u,ex,hd,w,q⟩:=B
 subst ex
 cases(show v=Value.ref d from r)
 obtain⟨D,c,n,es,ep,f,E,_⟩:=iB I1.hok hd w
 refine⟨"dict", "dict.values",F.plainAttrs_dict,F.slot_dict_values,F.type_dict_values,⟨o,c,n.1⟩,λa y=>by cases y;exact⟨o,c,n.2.1⟩,Calls.callWith_builtin rfl (PySem.evalArgs_none ?_)⟩
 refine wA D c n ?_
 have p:∀b ob,j.heap.get? b=some ob->(j.heap.push {cls:=.type "dict_values",data:=.fields #[.ref d]}).get? b=some ob:=λb ob z=>LU _ z
 refine FM (s:={j with heap:=j.heap.push {cls:=.type "dict_values",data:=.fields #[.ref d]}}) ⟨_,L4 _ rfl,rfl,rfl⟩ (p _ _ c) f ?_
 have m:=I1.kept (t':=j.toks) p
 refine⟨_,[(j.heap.push {cls:=.type "dict_values",data:=.fields #[.ref d]}).objs.size],_,_,H1,rfl,m.kept (t':=j.toks) (λb ob z=>LU _ z),yM d _ o u w es ep f,⟨_,L4 _ rfl,rfl,rfl⟩,λb A=>?_,q⟩
 rw[LY.mp A]
 exact m.fpOk (LL _) (m.hok.fresh (LL _))
theorem Be {d:Addr}{o:Obj}{u:HO}{g:TG}{f:TS}{D:fX}(a:Nat->St->Hp->Prop)(h0:a 0 σ H)(n:∀i σ H,i<=kR u->a i σ H->H d=some (.frz o u))
  (j:∀i x v σ H,ja H u i x v->i<kR u->a i σ H->g v σ H λc H2=>f {D with nx:=a (i+1),ct:=a (i+1),bk:=D.nx} c H2) (hd:∀σ H,a (kR u) σ H->D.nx σ H):
  ∃W:Nat->Nat->St->Hp->Prop,(∃m,W 0 m σ H)/\∀i m σ H,W i m σ H->
   ((JD d o u).stop i H/\D.nx σ H)\/((JD d o u).go i H/\∃N:St->Hp->Prop,(∀b H',N b H'->∃h,h<m/\W (i+1) h b H')/\∀x H',(JD d o u).yld i H x H'->g x σ H' λc H2=>f {D with nx:=N,ct:=N,bk:=D.nx} c H2):=by
 refine⟨λi m σ H=>m=kR u - i/\i<=kR u/\a i σ H,⟨kR u,by simp,L0 _,h0⟩,?_⟩
 rintro i m σ H ⟨rfl,hi,p⟩
 have q:=n i σ H hi p
 by_cases hlt:i<kR u
 ·refine .inr ⟨⟨q,hlt⟩,a (i+1),λb H' l=>⟨kR u - (i+1),by omega,rfl,hlt,l⟩,λx H' y=>?_⟩
  obtain⟨e,v,k⟩:=y
  subst e
  exact j i v x σ _ k hlt p
 ·have e:i=kR u:=by omega
  subst e
  exact .inl ⟨⟨q,LL _⟩,hd σ H p⟩
theorem fq:∀{c d:List Int},c.map V.int=d.map V.int->c=d
 |[],[],_=>rfl
 |[],_::_,h=>by simp at h
 |_::_,[],h=>by simp at h
 |a::c,b::d,h=>by
  injection h with h1 h2
  injection h1 with h1
  rw[h1,fq h2]
noncomputable def IW (H:Hp) (c:List Int) (u:Value):Bool:=match u with
 | .ref a=> @decide (H a=some (.tup (c.map V.int))) (Classical.propDecidable _)
 |_=>false
theorem AS(h:H a=some (.tup (d.map V.int))):IW H c (.ref a)=decide (d=c):=by
 show @decide (H a=some (.tup (c.map V.int))) (Classical.propDecidable _)=decide (d=c)
 by_cases e:d=c
 ·subst e
  rw[decide_eq_true (rfl:d=d)]
  exact @decide_eq_true _ (Classical.propDecidable _) h
 ·rw[decide_eq_false e]
  refine @decide_eq_false _ (Classical.propDecidable _) λz=>e ?_
  rw[h] at z
  injection z with z
  injection z with z
  exact fq z
def G2 (K:LO) (a:Bool):R2:=λx y H Q=>∃(b p:Addr) (as:List Addr) (c:List Int) (cs:List (List Int)),x=.ref b/\y=.ref p/\H b=some (.tup (c.map V.int))/\aF K H p (as.map V.ref)/\aX H as cs/\Q (.bl (if a then !decide (c∈cs) else decide (c∈cs))) H
theorem v_:∀{as:List Addr} {cs:List (List Int)},aX H as cs->(as.map Value.ref).any (IW H c)=decide (c∈cs)
 |_,_,.nil=>by simp
 |a::as,d::cs,.cons r t=>by
  rw[L1,MX,AS r,v_ t]
  by_cases h:d=c
  ·subst h;simp
  ·have:¬c=d:=λz=>h z.symm
   simp[h,this]
theorem w_(f:bL k X.A)(I:aJ X pins σ H s){b:Addr}{c:List Int}(e:H b=some (.tup (c.map V.int))):
  ∀{as:List Addr} {cs:List (List Int)},aX H as cs->∀u∈as.map Value.ref,SeqAt.EqAt X.A.in1 s u (.ref b) (IW H c u)
 |_,_,.nil=>λu hu=>by simp at hu
 |a::as,d::cs,.cons r t=>λu hu=>by
  rw[L1] at hu
  rcases LS.mp hu with rfl|hu
  ·obtain⟨j,r1⟩:=(Dp.ints (K:=X.K) (ns:=d) (bW.of r)).reads I (u:=.ref a) rfl
   obtain⟨h,g⟩:=(Dp.ints (K:=X.K) (ns:=c) (bW.of e)).reads I (u:=.ref b) rfl
   have:=f.units
   have h1:=iF d
   rw[AS r,<-kz]
   exact SeqAt.eqAt_reads _ _ _ _ _ _ _ _ r1 g (Dp.ints (K:=X.K) (H:=H) (bW.of r)).lay (Dp.ints (K:=X.K) (H:=H) (bW.of e)).lay (by show X.A.units+1+_<_;lia)
  ·exact w_ f I e t u hu
theorem zh(g:bL k X.A):gy X (compareOp .NotIn) (G2 X.K true):=by
 intro pins s σ H x y v u Q I l n h
 obtain⟨b,p,as,c,cs,rfl,rfl,m,e,d,q⟩:=h
 cases l
 cases n
 obtain⟨a,j,f,r⟩:=I.list e
 cases gB j
 refine SeqAt.notIn_listAt (IW H c) f.isList (λw o=>w_ g I m d w (by simpa using o)) ⟨.bl _,H,I,rfl,?_⟩
 rw[show(as.map Value.ref).toArray.any (IW H c)=(as.map Value.ref).any (IW H c) by simp,v_ d]
 exact q
theorem yv{cs:List (List Int)}(f:Ev ta σ H (.ref b))(a:Ev tb σ H (.ref p))(h1:H b=some (.tup (c.map V.int)))(d:aF K H p (as.map V.ref))(e:aX H as cs):Ev (fv (G2 K true) ta tb) σ H (.bl (!decide (c∈cs))):=
 λ_ q=>f _ (a _ ⟨b,p,as,c,cs,rfl,rfl,h1,d,e,q⟩)
noncomputable def qj (f:Nat->Nat):Nat->Nat->Bool
 |0,_=>true
 |n+1,acc=>!(acc.testBit (f n))&&qj f n (acc|||(1<<<f n))
theorem oU {f:Nat->Nat}:∀{n a:Nat},qj f n a=true->∀i<n,a.testBit (f i)=false/\∀j<n,f j=f i->j=i
 |0,_,_,i,hi=>absurd hi (Nat.not_lt_zero _)
 |n+1,a,h,i,hi=>by
  unfold qj at h
  rw[MD] at h
  obtain⟨h1,h2⟩:=h
  have h1:a.testBit (f n)=false:=by simpa using h1
  have c:=oU h2
  have key:∀k<n,a.testBit (f k)=false/\f k≠f n:=λk g=>by
   have:=(c k g).1
   rw[Nat.testBit_or,Bool.or_eq_false_iff] at this
   refine⟨this.1,λe=>?_⟩
   have d:=this.2
   rw[e,Nat.testBit_shiftLeft] at d
   simp at d
  by_cases e:i=n
  ·subst e
   refine⟨h1,λj l b=>?_⟩
   by_cases e2:j=i
   ·exact e2
   ·exact absurd b (key j (by lia)).2
  ·refine⟨(key i (by lia)).1,λj l b=>?_⟩
   by_cases e2:j=n
   ·subst e2;exact absurd b.symm (key i (by lia)).2
   ·exact(c i (by lia)).2 j (by lia) b
noncomputable def t_ (k:Nat):Int:=reduceHash (Builtin.Tuple.tupleHashOf [((k/256:Nat):Int),((k/16%16:Nat):Int),((k%16:Nat):Int)])
def Lo (k:Nat):Nat:=(t_ k%14941).toNat
theorem GR:qj Lo 1024 0=true:=by decide+kernel
theorem wL(a:i<1024)(b:j<1024)(e:t_ i=t_ j):i=j:=(oU GR j b).2 i a (by unfold Lo;rw[e])
section
variable {d:Addr} {es:Array DictEntry} {ep:Nat}
theorem CV (hd:(d==sysModules)=false):PySem.W.KdlSrc prog w "dict" d d es.size (λi v=>∃hi:i<es.size,v=es[i].key) (λh=>∃o,h.get? d=some o/\o.ExactDict/\o.data=.dict es ep) where
 type:=λ_ ⟨o,a,j,_⟩=>⟨o,a,j.1⟩
 there:=λ_ ⟨o,a,_⟩=>⟨LW a,LW a⟩
 keep:=λ_ _ ⟨o,a,x⟩ l=>⟨o,l d (.inl rfl) o a,x⟩
 notList:=by decide
 notTuple:=by decide
 hint:=λ_ _ _ _ ⟨o,a,j,_⟩ m=>PySem.W.kdl_hint_dict ⟨o,a,j.1⟩ m
 iter:=λA s q ⟨o,a,j,c⟩=>⟨_,λi h=>h.IsKeyIter s.heap.objs.size d i es.size ep/\∃o,h.get? d=some o/\o.data=.dict es ep,(λ_ _ m=>wa hd a j c m),{
   sub:=λb f=>by simp at f;simp[f]
   frame:=λ_ _ _ ⟨st,o,h1,h2⟩ l=>⟨nE st λo e=>l _ (by simp) o e,o,l d (by simp) o h1,h2⟩
   item:=λi s' Q E hi ⟨st,o,h1,h2⟩ g=>xE st h1 h2 hi λh' n sb=>g _ h' s'.toks ⟨hi,rfl⟩ ⟨n,o,(sb.2 d (L3 (LW a))).trans h1,h2⟩ λb o f e=>(sb.2 b (λz=>f (by simp[z]))).trans e
   done:=λs' Q E ⟨st,o,h1,h2⟩ g=>AZ q st h1 h2 (LL _) λh' p=>g h' s'.toks λb o f e=>p b o (λz=>f (by simp[z])) e
   self:=λi s' Q E ⟨st,_⟩ g=>wpAny_pyIter_keyiter st g},⟨⟨_,L4 _ rfl,rfl,rfl⟩,o,LU _ a,c⟩⟩
end
theorem w8:∀{cs:List (List Int)} {vs:List Value},vs.length=cs.length->(∀(i:Nat) (v:Value) (c:List Int),vs[i]?=some v->cs[i]?=some c->∃a,v=.ref a/\H a=some (.tup (c.map V.int)))->∃as:List Addr,vs=as.map Value.ref/\aX H as cs
 |[],[],_,_=>⟨[],rfl,.nil⟩
 |[],_::_,h,_=>by simp at h
 |_::_,[],h,_=>by simp at h
 |c::cs,v::vs,h,f=>by
  obtain⟨a,rfl,ha⟩:=f 0 v c rfl rfl
  obtain⟨as,rfl,b⟩:=w8 (cs:=cs) (vs:=vs) (by simpa using h) λi v c h1 h2=>f (i+1) v c (by simpa using h1) (by simpa using h2)
  exact⟨a::as,rfl,.cons ha b⟩
theorem gK:∀c:List Int,(c.map Sum.inl:List cS).map kV=c.map V.int
 |[]=>rfl
 |a::c=>by rw[L1,L1,L1,gK c];rfl
section
variable {κ:Type} [DecidableEq κ] {knd:HeapKind prog w κ}
theorem tG{f:List (κ×Addr×Value)}{k:κ}(r:knd.room A)(q:knd.is s.heap k b)(z:s.heap.DictOfH knd d f)
  (h1:∀p,atKey f k=some p->Q p.2 {s with toks:=s.toks+knd.draws k})
  (D:atKey f k=none->∀h',h'.DictOfH knd d (storedH f k b v)->Heap.SameBut d s.heap h'->Q v {s with heap:=h',toks:=s.toks+knd.draws k})
  (hsz:f.length<=sizeLine):wpAny (model prog w) A (dictSetDefault d (.ref b) v) Q E s:=by
 obtain⟨G,F,ep,g,C,hd,m,a,o⟩:=z
 unfold dictSetDefault
 try with_reducible refine Ms ?_
 refine LJ (knd.pyHash r q ?_)
 refine LJ (wpAny_dictFind_heap (s:={s with toks:=s.toks+knd.draws k}) r q g hd m a o (λl=>?_) λj p u=>?_)
 ·have h:=atKey_none_of_get l
  have c:k∉f.map (·.1):=not_mem_keys_of_get l
  have n:storedH f k b v=f++[(k,b,v)]:=storedH_new h b v
  refine LJ (NF (LJ (wpAny_updateDictKeys (hz:=by have e:=size_of_entries m;lia) (s:={s with toks:=s.toks+knd.draws k}) g hd
   (LM (D h _ ⟨_,_,ep+1,MW _ g (Obj.isFreed_of_dict (Obj.data_mapDictKeys hd _)),C.mapDictKeys _,Obj.data_mapDictKeys hd _,?_,?_,?_⟩ (Heap.SameBut.update ..))))))
  ·rw[n];simp[m,entryOfKey]
  ·rw[n]
   intro x hx
   rcases L_.mp hx with hx|hx
   ·exact knd.keeps (a x hx) g hd (Heap.SameBut.update ..)
   ·cases LY.mp hx
    exact knd.keeps q g hd (Heap.SameBut.update ..)
  ·rw[n,LQ,MQ]
   refine⟨o,by simp,λx hx y B=>?_⟩
   cases LY.mp B
   exact λe=>c ((show x=k from e)▸hx)
 ·have h:=atKey_of_get o u
  refine LJ (M0 (s:={s with toks:=s.toks+knd.draws k}) g hd ?_)
  rw[entry_at m j,u]
  exact LJ (NF (LM (h1 p h)))
end
noncomputable def Eg:V->List V->Hp->VK->Prop:=λx vs H Q=>∃a b kvs k y,x=.ref a/\vs=[.ref b,y]/\H a=some (.dT kvs)/\H b=some (.tup (k.map kV))/\kvs.length<sizeLine/\
 (∀v,bX kvs k=some v->Q v H)/\(bX kvs k=none->Q y (upd H a (.dT (c6 kvs k y))))
theorem zD(E:bL j X.A):FH X "dict.setdefault" Eg:=by
 intro pins s σ H x vs v Y Q I P O h
 obtain⟨a,b,d,k,y,rfl,rfl,m,w,l,N,R⟩:=h
 cases P
 obtain⟨Z,g,rfl,r1,u⟩:=kW O
 cases r1
 obtain⟨z,hd,xs,f,n⟩:=F8 I.hok m
 have G:xs.length<=sizeLine:=by rw[<-Paired.length f];exact z
 have W:(c6 d k y).length<=sizeLine:=by have:=eK d k y;lia
 have T:X.A.units+1<cLine:=bL.one E
 refine Mu PySem.F.slot_dict_setdefault n.typeIs PySem.F.entry_dict_setdefault ?_ (PySem.F.args_dict_setdefault_3 _ _ _)
 unfold Builtin.«dict.setdefault»
 refine LJ ?_
 unfold Builtin.Dict.keyAndDefault
 refine LJ (Oi n.typeIs ?_)
 show wpAny _ _ (pure (a,Value.ref b,some g)) _ _ s
 refine LM ?_
 show wpAny _ _ (if (a==sysModules)=true then _ else (dictSetDefault a (.ref b) g>>=_)) _ _ s
 rw[if_neg (by rw[hd];exact L6)]
 refine LJ (tG (tupleKind_room_in1 T) (ki I.hok w) n (λp M=>LM ⟨p.2,rfl,?_⟩) (λK h' o D=>LM ⟨g,rfl,?_⟩) G)
 ·have:=f.val k
  rw[M] at this
  cases e:bX d k with
  |none=>rw[e] at this;exact this.elim
  |some v=>rw[e] at this;exact⟨v,H,I.tok _,this,N v e⟩
 ·have:=f.val k
  rw[K] at this
  cases e:bX d k with
  |some v=>rw[e] at this;exact this.elim
  |none=>
   obtain⟨q,es,ep,r,S,J,U,_,C⟩:=o
   refine⟨y,_,qH (ob:=.dT (c6 d k y)) I (by rw[m];exact True.intro) D ⟨q,r⟩ ⟨W,hd,_,(f.put k w u).keeps λc ys B=>?_,q,es,ep,r,S,J,U,C⟩,u,R e⟩
   rw[ak (cQ B m (λz=>nomatch z))]
   exact B
theorem uM(e:X.K=K)(a:bL k X.A):gy X (compareOp .NotIn) (G2 K true):=by subst e;exact zh a
theorem wH (e:X.K=K):GV X (nW K):=by subst e;exact aI
theorem ug (O:X.calm=true):cT X (.type "list") (λxs H Q=>∃(a:Addr) (u:HO),xs=[.ref a]/\H a=some u/\FR (some u)/\pE u/\kR u<=1000/\
  ∀(l:Addr) (ys:List V),H l=none->ys.length=kR u->(∀(i:Nat) y,ys[i]?=some y->∃v,ja H u i y v)->Q (.ref l) (upd H l (.lst ys))):=by
 intro pins s σ H xs us Q I r h
 obtain⟨a,u,rfl,e,mu,T,j,q⟩:=h
 obtain⟨uu,rfl,rx⟩:=dF r
 cases rx
 obtain⟨o,I1,C⟩:=I.freeze e mu
 obtain⟨hS,p,hc,es,ep,w,G,m⟩:=iB I1.hok ae T
 have A:es.size<=sizeLine:=by rw[G];exact LR j (by decide)
 refine PySem.W.kdl_call (CV hS) (I.ok.hd O) ⟨o,p,hc,w⟩ A λh' tk D c N hD E=>?_
 obtain⟨ys,J,F⟩:∃ys:List V,aW ys D.toList/\∀(i:Nat) y,ys[i]?=some y->∃v,ja H u i y v:=by
  have n:∀(i:Nat) v,D.toList[i]?=some v->∃y,aZ y v/\∃w',ja H u i y w':=λi v M=>by
   obtain⟨hi,rfl⟩:=E.2 i v (by rw[<-ND];exact M)
   obtain⟨x,y,d,r1,S⟩:=m i hi
   refine⟨x,r1,y,?_⟩
   cases u with
   |dK kvs=>exact d
   |dT kvs=>
    obtain⟨k,b,h1,h2,K⟩:=d
    have hb:b≠a:=λz=>by rw[z,ae] at K;cases K
    rw[ak hb] at K
    exact⟨k,b,h1,h2,K⟩
   |_=>exact d.elim
  have mk:∀(l:List Value) (f:Nat),(∀(i:Nat) v,l[i]?=some v->∃y,aZ y v/\∃w',ja H u (f+i) y w')->∃ys:List V,aW ys l/\∀(i:Nat) y,ys[i]?=some y->∃v,ja H u (f+i) y v:=by
   intro l
   induction l with
   |nil=>exact λf _=>⟨[],.nil,λi y h=>by simp at h⟩
   |cons v l ih=>
    intro f R
    obtain⟨y,r1,w',d⟩:=R 0 v rfl
    obtain⟨ys,S,B⟩:=ih (f+1) λi Y P=>by
     have:=R (i+1) Y P
     rw[show f+1+i=f+(i+1) by lia];exact this
    refine⟨y::ys,.cons r1 S,λi z G=>?_⟩
    cases i with
    |zero=>cases G;exact⟨w',d⟩
    |succ i=>
     have:=B i z G
     rw[show f+1+i=f+(i+1) by lia] at this;exact this
  obtain⟨ys,r,N⟩:=mk D.toList 0 λi v M=>by rw[Oa];exact n i v M
  exact⟨ys,r,λi y Z=>by have:=N i y Z;rw[Oa] at this;exact this⟩
 have g:ys.length=kR u:=by rw[J.length,Mt,E.1,G]
 have U:H s.heap.objs.size=none:=I.hok.fresh (LL _)
 refine⟨.ref s.heap.objs.size,_,I.laid (o:=.lst ys) N (LL _) ⟨?_,D.toList,c,J,hD⟩,rfl,q _ ys U g F⟩
 rw[g];exact LR j (by decide)
namespace TabA
open SetTable
variable (t:SetTable) (hashAt:Nat->Int) (h:Int)
noncomputable def lp (p:Probe):Probe:={p with j:=(leap t.mask p.i p.perturb).1,more:=runEnd t.mask (leap t.mask p.i p.perturb).1 - (leap t.mask p.i p.perturb).1,i:=(leap t.mask p.i p.perturb).1,perturb:=(leap t.mask p.i p.perturb).2}
def nF (N:Nat) (p:Probe):Prop:=∀f,N<=f->∃j,probe.go t hashAt h f p=some (.empty j none)
variable {t hashAt h}
theorem nF.mono{p:Probe}(g:nF t hashAt h N p)(l:N<=M):nF t hashAt h M p:=λf a=>g f (LR l a)
theorem yR(e:t.slot j=.live i):i<t.place.size:=by
 unfold slot at e
 dsimp only at e
 split at e
 ·rename_i q
  injection e with e
  subst e
  have a:=beq_iff_eq.mp q
  exact(OC.mp a).1
 ·split at e<;>cases e
theorem j0(hd:t.dummies= #[]):t.slot j≠.dummy:=by
 unfold slot
 dsimp only
 split
 ·intro z;cases z
 ·rw[hd]
  split
  ·rename_i q
   unfold has at q
   simp at q
  ·intro z;cases z
theorem y9(hd:t.dummies= #[])(b:j∉t.place):t.slot j=.empty:=by
 cases e:t.slot j with
 |empty=>rfl
 |dummy=>exact(j0 hd e).elim
 |live i=>
  unfold slot at e
  dsimp only at e
  split at e
  ·rename_i q
   have a:=beq_iff_eq.mp q
   exact(b (Array.mem_of_getElem? a)).elim
  ·split at e<;>cases e
theorem uD {p:Probe}(a:p.dummy=none)(e:t.slot p.j=.empty):nF t hashAt h 1 p:=by
 intro f b
 obtain⟨f,rfl⟩:∃g,f=g+1:=⟨f - 1,by lia⟩
 refine⟨p.j,?_⟩
 unfold probe.go
 rw[e]
 dsimp only
 rw[a]
theorem oy{p:Probe}(hd:t.dummies= #[])(a:∀i,i<t.place.size->hashAt i≠h)(b:p.dummy=none)(g:nF t hashAt h N (t.advance p)):nF t hashAt h (N+1) p:=by
 intro f c
 obtain⟨f,rfl⟩:∃g,f=g+1:=⟨f - 1,by lia⟩
 unfold probe.go
 cases e:t.slot p.j with
 |empty=>exact⟨p.j,by dsimp only;rw[b]⟩
 |dummy=>exact(j0 hd e).elim
 |live i=>
  dsimp only
  rw[if_neg (by simpa using a i (yR e))]
  exact g f (by lia)
theorem Dl (hd:t.dummies= #[])(a:∀i,i<t.place.size->hashAt i≠h):∀(m N:Nat) (p:Probe),p.more=m->p.dummy=none->nF t hashAt h N (lp t p)->nF t hashAt h (N+(m+1)) p:=by
 intro m
 induction m with
 |zero=>
  intro N p c b g
  refine oy hd a b ?_
  have e:t.advance p=lp t p:=by unfold advance;rw[if_neg (by lia)];rfl
  rw[e];exact g
 |succ m ih=>
  intro N p c b g
  have e:t.advance p={p with j:=p.j+1,more:=m}:=by unfold advance;rw[if_pos (by lia),c];rfl
  refine oy (N:=N+(m+1)) hd a b ?_
  rw[e]
  exact ih N _ rfl b g
theorem Cy (m i:Nat):runEnd m i - i<=9:=by unfold runEnd;split<;>lia
noncomputable def mI (t:SetTable) (h:Int):Nat->Probe
 |0=>t.probeStart h
 |n+1=>lp t (mI t h n)
theorem kH:∀n,(mI t h n).dummy=none
 |0=>rfl
 |n+1=>kH n
theorem AH:∀n,(mI t h n).more<=9
 |0=>Cy _ _
 |_+1=>Cy _ _
theorem Jl:∀n,(mI t h n).j=(mI t h n).i
 |0=>rfl
 |_+1=>rfl
theorem rH (hd:t.dummies= #[])(a:∀i,i<t.place.size->hashAt i≠h):∀(n k:Nat),t.slot (mI t h (k+n)).j=.empty->nF t hashAt h (1+10*n) (mI t h k)
 |0,k,e=>uD (kH k) e
 |n+1,k,e=>by
  have g:nF t hashAt h (1+10*n) (mI t h (k+1)):=rH hd a n (k+1) (by rw[show k+1+n=k+(n+1) by lia];exact e)
  have:=Dl hd a _ _ (mI t h k) rfl (kH k) g
  exact this.mono (by have:=AH (t:=t) (h:=h) k;lia)
theorem EX (h:Int):bits h<2^64:=by unfold bits;lia
theorem rD:∀n,(mI t h n).perturb=bits h/32^n
 |0=>by show bits h=_;simp
 |n+1=>by
  show(mI t h n).perturb/32=_
  rw[rD n,Ol,Nat.pow_succ]
theorem Gs (n:Nat):(mI t h (n+1)).i=((mI t h n).i*5+1+bits h/32^(n+1))%(t.mask+1):=by
 show((mI t h n).i*5+1+(mI t h n).perturb/32)%(t.mask+1)=_
 rw[rD n,Ol,Nat.pow_succ]
theorem Je(a:13<=n):bits h/32^n=0:=by
 refine Nat.div_eq_of_lt (Me (EX h) ?_)
 exact LR (by decide:2^64<=32^13) (Nat.pow_le_pow_right (by decide) a)
noncomputable def it (M:Nat):Nat->Nat->Nat
 |0,a=>a
 |k+1,a=>(it M k a*5+1)%M
theorem uQ:∀k,(mI t h (12+k)).i=it (t.mask+1) k (mI t h 12).i
 |0=>rfl
 |k+1=>by
  show(mI t h (12+k+1)).i=_
  rw[Gs,Je (by lia),uQ k]
  rfl
theorem LI:∀a<8,∀j<8,∃k,k<8/\it 8 k a=j:=by decide+kernel
theorem Ld:∀a<32,∀j<32,∃k,k<32/\it 32 k a=j:=by decide+kernel
theorem Hd:∀n,(mI t h n).i<t.mask+1
 |0=>NJ _ (Nat.succ_pos _)
 |n+1=>by rw[Gs];exact NJ _ (Nat.succ_pos _)
theorem wj (b:t.mask=7\/t.mask=31){j:Nat}(a:j<t.mask+1):∃n,n<13+t.mask/\(mI t h n).i=j:=by
 have l:=Hd (t:=t) (h:=h) 12
 rcases b with e|e
 ·rw[e] at a l|-
  obtain⟨k,c,q⟩:=LI _ l j a
  exact⟨12+k,by lia,by rw[uQ,e];exact q⟩
 ·rw[e] at a l|-
  obtain⟨k,c,q⟩:=Ld _ l j a
  exact⟨12+k,by lia,by rw[uQ,e];exact q⟩
theorem tT:∀{l m:List Nat},l.Nodup->(∀x∈l,x∈m)->l.length<=m.length
 |[],m,_,_=>L0 _
 |a::l,m,hn,hs=>by
  have ha:=hs a LX
  have:=tT (l:=l) (m:=m.erase a) (MG.mp hn).2 λx b=>(List.mem_erase_of_ne (λ(e:x=a)=>(MG.mp hn).1 (e▸b))).mpr (hs x (LZ _ b))
  rw[List.length_erase_of_mem ha] at this
  have:=List.length_pos_of_mem ha
  simp only[L5]
  lia
theorem zf (_hd:t.dummies= #[])(b:t.place.size<=t.mask):∃j,j<t.mask+1/\j∉t.place:=by
 by_cases q:∀j,j<t.mask+1->j∈t.place
 ·exfalso
  have:=tT (l:=List.range (t.mask+1)) (m:=t.place.toList) List.nodup_range λj a=>Nc.mpr (q j (ME.mp a))
  simp at this
  lia
 ·simp only[Classical.not_forall] at q
  obtain⟨j,h1,h2⟩:=q
  exact⟨j,h1,h2⟩
theorem probe_new (c:t.mask=7\/t.mask=31)(hd:t.dummies= #[])(b:t.place.size<=t.mask)(a:∀i,i<t.place.size->hashAt i≠h):∃j,t.probe hashAt h (t.probeStart h)=some (.empty j none):=by
 obtain⟨j,d,f⟩:=zf hd b
 obtain⟨n,g,e⟩:=wj (h:=h) c d
 have:=rH (h:=h) hd a n 0 (by rw[Oa,Jl,e];exact y9 hd f)
 exact this _ (by unfold turns;lia)
noncomputable def Kl (o:Array (Option Nat)):Nat:=o.toList.countP Option.isSome
structure Ow (o:Array (Option Nat)) (k:Nat):Prop where
 sz:o.size=32
 ct:Kl o=k
 lt:∀(j v:Nat),o[j]?=some (some v)->v<k
theorem Fc {o:Array (Option Nat)}(w:Ow o k)(f:k<32):∃j,j<32/\o.getD j (some 0)=none:=by
 by_cases q:∀j,j<32->o.getD j (some 0)≠none
 ·exfalso
  have:o.toList.countP Option.isSome=o.toList.length:=by
   refine List.countP_eq_length.mpr λv c=>?_
   obtain⟨j,d,e⟩:=List.mem_iff_getElem.mp c
   have a:j<o.size:=by simpa using d
   have:=q j (by rw[<-w.sz];exact a)
   rw[OL,Nj a] at this
   have b:o[j]=v:=by simpa using e
   rw[b] at this
   cases v with
   |none=>exact(this rfl).elim
   |some _=>rfl
  have h1:=w.ct
  unfold Kl at h1
  rw[this,Mt,w.sz] at h1
  lia
 ·simp only[Classical.not_forall,Classical.not_not] at q
  obtain⟨j,h1,h2⟩:=q
  exact⟨j,h1,h2⟩
theorem yu {o:Array (Option Nat)}:∀(f i p:Nat),(∃n,n<f/\∃j,o.getD j (some 0)=none/\j=(Nat.rec (motive:=λ_=>Nat×Nat) (i,p) (λ_ q=>leap 31 q.1 q.2) n).1)->∃j,layClean.free 31 o f i p=some j/\o.getD j (some 0)=none:=by
 intro f
 induction f with
 |zero=>intro i p ⟨n,c,_⟩;lia
 |succ f ih=>
  intro i p ⟨n,c,j,b,e⟩
  unfold layClean.free
  cases q:(List.range (runEnd 31 i+1 - i)).find? λk=>(o.getD (i+k) (some 0)).isNone with
  |some k=>
   exact⟨i+k,rfl,by have:=List.find?_some q;simpa using this⟩
  |none=>
   dsimp only
   cases n with
   |zero=>
    exfalso
    have e:j=i:=e
    have:=List.find?_eq_none.mp q 0 (ME.mpr (by unfold runEnd;split<;>lia))
    rw[Nat.add_zero,<-e,b] at this
    exact this rfl
   |succ n=>
    refine ih _ _ ⟨n,by lia,j,b,e.trans ?_⟩
    have a:∀n,(Nat.rec (motive:=λ_=>Nat×Nat) (i,p) (λ_ q=>leap 31 q.1 q.2) (n+1):Nat×Nat)=Nat.rec (motive:=λ_=>Nat×Nat) ((leap 31 i p).1,(leap 31 i p).2) (λ_ q=>leap 31 q.1 q.2) n:=by
     intro n
     induction n with
     |zero=>rfl
     |succ n ih=>show leap 31 _ _=leap 31 _ _;rw[<-ih]
    rw[a]
noncomputable def Kj:SetTable:={mask:=31,place:= #[],dummies:= #[],finger:=0,led:=true,moves:=0,plain:=true}
theorem xv (h:Int):∀n,(Nat.rec (motive:=λ_=>Nat×Nat) (bits h%32,bits h) (λ_ q=>leap 31 q.1 q.2) n:Nat×Nat)=((mI Kj h n).i,(mI Kj h n).perturb)
 |0=>rfl
 |n+1=>by show leap 31 _ _=_;rw[xv h n];rfl
theorem BD {o:Array (Option Nat)}(w:Ow o k)(b:k<32)(h:Int):∃j,layClean.free 31 o (turns 31) (bits h%(31+1)) (bits h)=some j/\j<32/\o[j]?=some none:=by
 obtain⟨j,c,e⟩:=Fc w b
 obtain⟨n,d,q⟩:=wj (t:=Kj) (h:=h) (.inr rfl) (j:=j) c
 obtain⟨a,h1,h2⟩:=yu (o:=o) (turns 31) (bits h%32) (bits h) ⟨n,by unfold turns;have:Kj.mask=31:=rfl;lia,j,e,by rw[xv];exact q.symm⟩
 refine⟨a,h1,?_⟩
 rw[OL] at h2
 cases z:o[a]? with
 |none=>rw[z] at h2;cases h2
 |some v=>
  rw[z] at h2
  have lt:=(OC.mp z).1
  rw[w.sz] at lt
  exact⟨lt,congrArg some h2⟩
theorem G5 {o:Array (Option Nat)}{k j:Nat}(w:Ow o k)(b:j<32)(e:o[j]?=some none):Ow (o.setIfInBounds j (some k)) (k+1) where
 sz:=by simpa using w.sz
 ct:=by
  have h1:=w.ct
  unfold Kl at h1|-
  obtain⟨l,a⟩:=OC.mp e
  rw[Array.toList_setIfInBounds,List.countP_set (by simpa using l),h1]
  simp[a]
 lt:=λi v q=>by
  rw[Array.getElem?_setIfInBounds] at q
  split at q
  ·split at q
   ·injection q with q;injection q with q;lia
   ·cases q
  ·have:=w.lt i v q;lia
theorem rL:∀(a:List Int) (o:Array (Option Nat)) (k:Nat),Ow o k->k+a.length<=32->∃o',(a.foldl (init:=some (o,k)) λb h=>do
  let (owner,k)<-b
  let j<-layClean.free 31 owner (turns 31) (bits h%(31+1)) (bits h)
  pure (owner.setIfInBounds j (some k),k+1))=some (o',k+a.length)/\Ow o' (k+a.length)
 |[],o,k,w,_=>⟨o,rfl,w⟩
 |h::a,o,k,w,l=>by
  simp only[L5] at l
  obtain⟨j,e,c,f⟩:=BD w (by lia) h
  obtain⟨o',h1,h2⟩:=rL a _ _ (G5 w c f) (by lia)
  refine⟨o',?_,by rw[L5,show k+(a.length+1)=k+1+a.length by lia];exact h2⟩
  rw[Mx,L5,show k+(a.length+1)=k+1+a.length by lia,<-h1]
  congr 1
  show(layClean.free 31 o (turns 31) (bits h%(31+1)) (bits h)>>=_)=_
  rw[e]
  rfl
theorem laid_some (c f:Nat)(l g:Bool)(d:Array Int)(r:d.size<=32):∃t b,laid 31 c f l g d=some (t,b)/\t.mask=31/\t.dummies= #[]/\t.place.size=d.size/\b.size=d.size/\∀k∈b,k<d.size:=by
 obtain⟨o,h1,w⟩:=rL d.toList (Array.replicate 32 none) 0 ⟨by simp,by decide+kernel,λj v e=>by
  rw[Array.getElem?_replicate] at e
  split at e<;>simp at e⟩ (by simpa using r)
 have p:layClean 31 d=some o:=by
  unfold layClean
  rw[<-Array.foldl_toList]
  rw[show(31:Nat)+1=32 from rfl] at h1|-
  rw[h1]
  rfl
 have cl:((List.range (31+1)).filterMap λj=>(o.getD j none).map (j, ·)).length=d.size:=by
  rw[List.length_filterMap_eq_countP]
  have n:o.toList=(List.range 32).map (λj=>o.getD j none):=by
   refine N6 λj=>?_
   rw[L7,ND]
   by_cases hj:j<32
   ·rw[OD hj]
    have:j<o.size:=by rw[w.sz];exact hj
    simp[Nj this]
   ·have:¬j<o.size:=by rw[w.sz];exact hj
    rw[Oj (by lia)]
    rw[NQ (by simpa using hj)]
    rfl
  have h2:=w.ct
  unfold Kl at h2
  rw[n,List.countP_map] at h2
  simp only[Oa,Mt] at h2
  rw[<-h2]
  congr 1
  funext j
  simp
 refine⟨_,_,by unfold laid;rw[p];rfl,rfl,rfl,?_,?_,?_⟩
 ·simpa using cl
 ·simpa using cl
 ·intro k m
  simp only[List.mem_toArray,LN,MF] at m
  obtain⟨⟨j,k'⟩,⟨h,a,e⟩,rfl⟩:=m
  cases q:o.getD h none with
  |none=>rw[q] at e;cases e
  |some v=>
   rw[q] at e
   simp at e
   obtain⟨rfl,rfl⟩:=e
   rw[OL] at q
   have:o[h]?=some (some v):=by
    cases z:o[h]? with
    |none=>rw[z] at q;cases q
    |some u=>rw[z] at q;exact congrArg some q
   have:=w.lt _ _ this
   simpa using this
end TabA
noncomputable def hG (t:SetTable) (es:Array (Int×Value)) (h:Int) (x:Value):Option (SetTable×Array (Int×Value)):=
 if t.gaveWay=true then none else
 match t.probe (KW es) h (t.probeStart h) with
 |some (.empty j none)=>if (t.put j).1.fits (SetTable.insertAt es (t.put j).2 (h,x)).size=true then
   (if (t.put j).1.tooFull=true then
    (match (t.put j).1.relaid ((SetTable.insertAt es (t.put j).2 (h,x)).map (·.1)) (SetTable.grown (es.size+1)) with
    |some (t2,order)=>if (order.filterMap ((SetTable.insertAt es (t.put j).2 (h,x))[·]?)).size=(SetTable.insertAt es (t.put j).2 (h,x)).size then some (t2,order.filterMap ((SetTable.insertAt es (t.put j).2 (h,x))[·]?)) else none
    |none=>none)
   else some ((t.put j).1,SetTable.insertAt es (t.put j).2 (h,x))) else none
 |_=>none
theorem A0{es:Array (Int×Value)}{t b:SetTable}{Q:Unit->Shared->Prop}(c:s.heap.get? a=some o)(hd:o.data=.set es ep t)(d:t.fits es.size=true)(g:SetTable.sizeAbove wanted<=sizeLine)
  (e:t.relaid (es.map (·.1)) wanted=some (b,order)) (hz:(order.filterMap (es[·]?)).size=es.size) (f:es.size<1000) (h:Q () {s with heap:=s.heap.update a (Obj.putSet (order.filterMap (es[·]?)) b)}):
  wpAny (model prog w) A (setRelay a wanted) Q E s:=by
 refine LJ (wpAny_setState_of c hd d ?_)
 dsimp only
 rw[if_neg (by lia),e]
 refine LJ ?_
 show wpAny _ _ (if ((order.filterMap (es[·]?)).size !=es.size)=true then _ else _) _ _ _
 rw[if_neg (by simp[hz])]
 refine LM ?_
 dsimp only
 exact wpAny_storeSet_of c hd h (by have:sizeLine=2^24:=rfl;lia)
set_option tactic.hygienic true in
theorem pU {K:Type} [DecidableEq K]{knd:HeapKind prog w K}{a b:Addr}{k:K}{o:Obj}{es f:Array (Int×Value)}{ep:Nat}{t t':SetTable}{Q:Bool->Shared->Prop}(q:knd.room A)(x:knd.is s.heap k b)(g:s.heap.get? a=some o)(hd:o.data=.set es ep t)(n:t.fits es.size=true)(hz:f.size<1000)(hsz:es.size<999)
  (r:∀(tk:Nat) (Q':Bool->Shared->Prop),Q' true {s with toks:=tk}->wpAny (model prog w) A (hashByValue 8 (.ref b)) Q' E {s with toks:=tk})
  (e:hG t es (knd.hash k) (.ref b)=some (t',f)) (m:SetTable.sizeAbove (SetTable.grown (es.size+1))<=sizeLine)
  (h:∀h' p,Heap.SameBut a s.heap h'->h'.get? a=some {o with data:=.set f p t'}->Q true {s with heap:=h',toks:=s.toks+knd.draws k}):
  wpAny (model prog w) A (setAdd a (.ref b)) Q E s:=by
 unfold hG at e
 split at e
 ·cases e
 ·rename_i hg
  split at e
  ·rename_i j hp
   split at e
   ·rename_i hfit
    have d:(SetTable.insertAt es (t.put j).2 (knd.hash k,Value.ref b)).size=es.size+1:=by
     have:=(SetTable.insertAt_perm es (t.put j).2 (knd.hash k,Value.ref b)).length_eq
     simpa using this
    refine Ms (LJ (knd.pyHash q x ?_))
    refine Ms ?_
    refine LJ (wpAny_setState_of (s:={s with toks:=s.toks+knd.draws k}) g hd n ?_)
    dsimp only
    refine LJ ?_
    refine LJ (wpAny_setState_of (s:={s with toks:=s.toks+knd.draws k}) g hd n ?_)
    dsimp only
    rw[if_neg hg]
    split
    ·rename_i met hm
     have u:met=.empty j none:=Option.some.inj (hm.symm.trans hp)
     subst u
     refine LM ?_
     refine LJ (wpAny_setState_of (s:={s with toks:=s.toks+knd.draws k}) g hd n ?_)
     have c:wpAny (model prog w) A (storeSet a (SetTable.insertAt es (t.put j).2 (knd.hash k,.ref b)) (t.put j).1>>=λ_=>if (!false&&(t.put j).1.tooFull)=true then (setRelay a (SetTable.grown (es.size+1))>>=λ_=>pure true) else pure true) Q E {s with toks:=s.toks+knd.draws k}:=by
      refine LJ (wpAny_storeSet_of (s:={s with toks:=s.toks+knd.draws k}) g hd ?_ (by have:sizeLine=2^24:=rfl;lia))
      have l:=MW (Obj.putSet (SetTable.insertAt es (t.put j).2 (knd.hash k,.ref b)) (t.put j).1) g (by rw[putSet_of _ _ hd];rfl)
      rw[putSet_of _ _ hd] at l
      split at e
      ·rename_i hfull
       rw[if_pos (by simpa using hfull)]
       split at e
       ·rename_i t2 order hrl
        split at e
        ·rename_i hq
         injection e with e
         injection e with e1 e2
         subst e1 e2
         refine LJ (A0 (s:={s with heap:=_,toks:=s.toks+knd.draws k}) l rfl hfit m hrl hq (by lia) ?_)
         refine LM (h _ (ep+1+1) ((Heap.SameBut.update ..).trans (Heap.SameBut.update ..)) ?_)
         have:=MW (Obj.putSet (order.filterMap ((SetTable.insertAt es (t.put j).2 (knd.hash k,Value.ref b))[·]?)) t2) l (by rw[putSet_of _ _ rfl];rfl)
         exact this
        ·cases e
       ·cases e
      ·rename_i hfull
       injection e with e
       injection e with e1 e2
       subst e1 e2
       rw[if_neg (by simpa using hfull)]
       exact LM (h _ _ (Heap.SameBut.update ..) l)
     split
     ·refine LJ (r _ _ ?_)
      exact c
     ·refine LJ (LM ?_)
      exact c
    ·rename_i hm
     exact(hm _ hp).elim
   ·cases e
  ·cases e
section
variable {R:Result->Shared->Prop} {I:Addr} {fp wr:List Addr} {G:Array GenState->Array GenState->Prop} {n:Nat} {P:Nat->Value->Prop} {St:Nat->Shared->Prop}
theorem uF (W:WalksS prog w A.in1 I fp wr G n P St)(S:Addr)(M:S∉fp)(knd:HeapKind prog w (List Int))(y:knd.room A.in1)(U:∀h k b,ou h k b->knd.is h k b)(u:Nat->Addr)(B:Nat->List Int)(D:∀i v,P i v->v=.ref (u i))
  (E:∀i,i<n->u i≠S/\u i∉wr) (T:Nat->SetTable) (r:Nat->Array (Int×Value)) (J:∀i,i<n->hG (T i) (r i) (knd.hash (B i)) (.ref (u i))=some (T (i+1),r (i+1))) (p:∀i,i<=n->(T i).fits (r i).size=true/\(r i).size<1000/\SetTable.sizeAbove (SetTable.grown ((r i).size+1))<=sizeLine/\(r i).size<999):
  ∀(k i:Nat) (s:Shared),n - i=k->i<=n->St i s->(∀j,j<n->ou s.heap (B j) (u j))->(∃o ep,s.heap.get? S=some o/\o.ExactSet/\o.data=.set (r i) ep (T i))->
   (∀s',Moved (S::wr) G s s'->(∃o ep,s'.heap.get? S=some o/\o.ExactSet/\o.data=.set (r n) ep (T n))->R (.ok (.ret .none)) s')->
   codeAny (model prog w) A (.builtin "set.update.loop" ⟨[.ref S,.ref I],[]⟩) R s:=by
 have m:S∉wr:=λh=>M (W.sub _ h)
 have more:∀b∈wr,b∈S::wr:=λb O=>LZ _ O
 have a:∀{h h':Heap} {k b},ou h k b->(∀o,h.get? b=some o->h'.get? b=some o)->ou h' k b:=λ⟨o,l,c,h1,h2⟩ f=>⟨o,l,c,f o h1,h2⟩
 intro k
 induction k with
 |zero=>
  intro i s hk hi x ht Z Y
  obtain rfl:i=n:=by lia
  refine codeAny_builtin F.entry_set_update_loop ?_
  rw[Around.under_plainId F.plain_set_update_loop _]
  show wpAny _ A.in1 (pyNext (.ref I)>>=_) _ _ s
  refine LJ (W.done s _ _ x λs' C=>LM (Y s' (C.mono more) ?_))
  obtain⟨o,ep,h1,h2⟩:=Z
  exact⟨o,ep,C.heap S _ m h1,h2⟩
 |succ k ih=>
  intro i s hk hi x ht Z Y
  have d:i<n:=by lia
  refine codeAny_builtin F.entry_set_update_loop ?_
  rw[Around.under_plainId F.plain_set_update_loop _]
  show wpAny _ A.in1 (pyNext (.ref I)>>=_) _ _ s
  refine LJ (W.item i s _ _ d x λv s' hP N C=>?_)
  obtain rfl:=D i v hP
  obtain⟨o,ep,h1,h2,h3⟩:=Z
  have g:∀j,j<n->ou s'.heap (B j) (u j):=λj Q=>a (ht j Q) λo q=>C.heap _ o (E j Q).2 q
  obtain⟨ob,l,c,g1,g2,g3,g4⟩:=id (g i d)
  show wpAny _ A.in1 (holding [Value.ref (u i)] (setAdd S (.ref (u i)))>>=_) _ _ s'
  refine LJ (Ms ?_)
  refine pU (knd:=knd) (s:=s') y (U _ _ _ (g i d)) (C.heap S _ m h1) h3 (p i hi).1 (p (i+1) d).2.1 (p i hi).2.2.2 (λtk Q' q=>B0 (s:={s' with toks:=tk}) g1 g2 g3 (λv hv=>?_) q) (J i d) (p i hi).2.2.1 λh' a1 sb hg=>?_
  ·exact g4.allInts v (by simpa using hv)
  ·refine LM ⟨plainId_quiet F.plain_set_update_loop _,ih (i+1) _ (by lia) d (W.frame _ s' _ _ N (NI _ _) λb O o e=>?_) (λj Q=>a (g j Q) λo q=>?_) ⟨_,_,hg,h2,rfl⟩ λX K H=>?_⟩
   ·rw[sb.2 b (λz=>M (z▸O))];exact e
   ·rw[sb.2 _ (E j Q).1];exact q
   ·refine Y X (Moved.trans W.gtrans ((C.mono more).then_heap (NI _ _) λb o O e=>?_) K) H
    rw[sb.2 b (λz=>O (by rw[z];exact LX))];exact e
end
set_option maxHeartbeats 3200000 in
theorem nG {l:Addr}{as:List Addr}{Q:Value->Shared->Prop}(hh:A.handled=none)(hl:s.heap.IsList l (as.map Value.ref).toArray)
  (knd:HeapKind prog w (List Int)) (U:knd.room A.in1.in1.in1) (an:∀h k b,ou h k b->knd.is h k b) (X:Nat->List Int) (O:∀j,j<as.length->ou s.heap (X j) (as.getD j 0))
  (T:Bool->Nat->SetTable) (N:Bool->Nat->Array (Int×Value)) (h0:∀M,T M 0=.fresh 0 0 M/\N M 0= #[]) (ac:∀M i,i<as.length->hG (T M i) (N M i) (knd.hash (X i)) (.ref (as.getD i 0))=some (T M (i+1),N M (i+1)))
  (Y:∀M i,i<=as.length->(T M i).fits (N M i).size=true/\(N M i).size<1000/\SetTable.sizeAbove (SetTable.grown ((N M i).size+1))<=sizeLine/\(N M i).size<999)
  (h:∀(M:Bool) (h':Heap) (tk:Nat),(∃o ep,h'.get? s.heap.objs.size=some o/\o.ExactSet/\o.data=.set (N M as.length) ep (T M as.length))->(∀b o,b<s.heap.objs.size->s.heap.get? b=some o->h'.get? b=some o)->
   Q (.ref s.heap.objs.size) {s with heap:=h',toks:=tk}):wpAny (model prog w) A (call (.type "set") [.ref l]) Q E s:=by
 obtain⟨c0,J,I⟩:=F.called_set.mro
 have made:=F.called_set.made
 have a3:=F.called_set.sub
 have nt:=F.called_set.notType
 have cc:=F.called_set.canCreate
 have ck:=F.typeCall_set_1 (.ref l)
 refine wpAny_call (codeAny_of_tree ?_)
 show wpAny _ _ (callAny (.type "set") ⟨[.ref l],[]⟩) _ _ _
 refine LM ⟨Code.quiet_builtin _ (by decide+kernel),codeAny_builtin F.entry_type_call ?_⟩
 rw[Around.under_plain (weight_type_call_type "set" [.ref l] []) rfl]
 repeat (any_goals (first|assumption|wp_step))
 refine codeAny_mono (code_set_new_1 (.ref l) (E:=E) (Q₁:=λv P=>∃M:Bool,v=.ref s.heap.objs.size/\P={s with heap:=s.heap.push (pY M)}) λM=>⟨M,rfl,rfl⟩) λr P hr=>?_
 match r,hr with
 | .error e,hr=>exact hr
 | .ok (.ret v),⟨M,ev,es⟩=>
  subst ev es
  have hS:(s.heap.push (pY M)).get? s.heap.objs.size=some (pY M):=L4 _ rfl
  have hT:Shared.TypeIs {s with heap:=s.heap.push (pY M)} (.ref s.heap.objs.size) "set" :=⟨_,hS,rfl⟩
  have li:=F.called_set.init.lookup
  have bi:=F.called_set.init.bind (.ref s.heap.objs.size)
  repeat (any_goals (first|assumption|wp_step))
  refine codeAny_mono (codeAny_call_builtin (R:=wants (λr S=>r=.none/\∃h' tk,S={s with heap:=h',toks:=tk}/\(∃o ep,h'.get? s.heap.objs.size=some o/\o.ExactSet/\o.data=.set (N M as.length) ep (T M as.length))/\
   ∀b o,b<s.heap.objs.size->s.heap.get? b=some o->h'.get? b=some o) E) F.called_set.init.plain F.entry_set_init (check_set_init_1 hT ?_)) λZ S W=>?_
  ·have lt:l<s.heap.objs.size:=by obtain⟨o,ho,_⟩:=hl;exact LW ho
   obtain⟨⟨oc,od,K,C⟩,B,g,nl,f⟩:=id hl
   simp only at g f
   subst g f
   have n:(s.heap.push (pY M)).get? l=some ⟨.type "list",od,.seq (as.map Value.ref).toArray nl,C⟩:=LU _ B
   have n1:=F.sub_list_set
   have n2:=F.sub_list_frozenset
   have n3:(Value.type "list" ==Value.type "dict")=false:=by decide
   have d:(s.heap.push (pY M)).IsList l (as.map Value.ref).toArray:=⟨_,n,rfl,nl,rfl⟩
   unfold Builtin.«set.__init__» noKeywords Builtin.Frozenset.updateFrom
   generalize ap:pyIter=PI
   wp_walk
   subst ap
   refine Nu d (LJ (wpAny_runValue ?_))
   have a:(s.heap.push (pY M)).objs.size=s.heap.objs.size+1:=Mz ..
   have u:A.in1.in1.in1.handled=none:=by simp[hh]
   have p:l≠(s.heap.push (pY M)).objs.size:=by rw[a];exact L3 (N5 lt)
   have nS:s.heap.objs.size∉[(s.heap.push (pY M)).objs.size,l]:=by
    rw[a]
    intro z
    rcases LS.mp z with z|z
    ·exact absurd z (L3 (NZ _))
    ·exact absurd (LY.mp z) (Nt lt)
   have G:∀j,j<as.length->as.getD j 0<s.heap.objs.size:=λj hj=>by obtain⟨o,_,_,h1,_⟩:=O j hj;exact LW h1
   refine uF ((Walks.list u _ l p (as.map Value.ref).toArray).toS) s.heap.objs.size nS knd U an (λi=>as.getD i 0) X (λi v hv=>?_) (λi hi=>?_) (T M) (N M) (λi hi=>ac M i (by simpa using hi)) (λi hi=>Y M i (by simpa using hi))
    ((as.map Value.ref).toArray.size - 0) 0 _ (by lia) (L0 _) ⟨⟨_,L4 _ rfl,rfl,rfl⟩,(d.push _)⟩ (λj hj=>?_) ?_ λs' hm am=>?_
   ·have m:(as.map Value.ref).toArray[i]?=some v:=hv
    rw[Ov,L7] at m
    obtain⟨x,hx,rfl⟩:=MY.mp m
    show _=Value.ref (as.getD i 0)
    rw[MI,hx];rfl
   ·have D:i<as.length:=by simpa using hi
    have:=G i D
    refine⟨L3 this,λz=>?_⟩
    have z':=LY.mp z
    rw[a] at z'
    exact absurd z' (L3 (N5 this))
   ·obtain⟨o,H,c,q1,q2⟩:=O j (by simpa using hj)
    exact⟨o,H,c,LU _ (LU _ q1),q2⟩
   ·refine⟨_,0,LU _ hS,⟨rfl,rfl,rfl⟩,?_⟩
    rw[(h0 M).1,(h0 M).2]
   ·obtain⟨h',g',d',y,q⟩:=s'
    obtain rfl:g'=s.gens:=hm.gens
    obtain rfl:d'=s.drawn:=hm.drawn
    obtain rfl:q=s.os:=hm.os
    refine LM ?_
    show wpAny _ _ (ret Value.none) _ _ _
    refine LM ⟨rfl,h',y,rfl,by simpa using am,λb o hb e=>hm.heap b o (λz=>?_) (LU _ (LU _ e))⟩
    rcases LS.mp z with z|z
    ·exact absurd z (L3 hb)
    ·have z':=LY.mp z
     rw[a] at z'
     exact absurd z' (L3 (N5 hb))
  ·match Z,W with
   | .error e,z=>exact z
   | .ok (.ret v),⟨e1,h',tk,e2,z1,z2⟩=>
    subst e1 e2
    repeat (any_goals (first|assumption|wp_step))
    exact h M h' tk z1 z2
   | .ok .next,z=>exact z.elim
   | .ok .brk,z=>exact z.elim
   | .ok .cont,z=>exact z.elim
 | .ok .next,hr=>exact hr.elim
 | .ok .brk,hr=>exact hr.elim
 | .ok .cont,hr=>exact hr.elim
structure SI (t:SetTable) (es:Array (Int×Value)) (n:Nat) (hs:List Int):Prop where
 dm:t.dummies= #[]
 ms:t.mask=7/\n<5\/t.mask=31/\n<=18
 pl:t.place.size=n
 sz:es.size=n
 hm:∀e∈es,e.1∈hs
theorem df {a:Type}(xs:Array a)(p:Nat)(x:a):(SetTable.insertAt xs p x).size=xs.size+1:=by
 have:=(SetTable.insertAt_perm xs p x).length_eq
 simpa using this
theorem uY {a:Type}{xs:Array a}{x y:a}(h:y∈SetTable.insertAt xs p x):y=x\/y∈xs:=by
 have:=(SetTable.insertAt_perm xs p x).mem_iff.mp (Nc.mpr h)
 rw[Array.toList_push] at this
 rcases L_.mp this with z|z
 ·exact .inr (Nc.mp z)
 ·exact .inl (LY.mp z)
theorem SI.add {t:SetTable}{es:Array (Int×Value)}(I:SI t es n hs)(J:n<18)(H:h∉hs):∃r f,hG t es h x=some (r,f)/\SI r f (n+1) (h::hs):=by
 have y:t.mask=7\/t.mask=31:=I.ms.imp (·.1) (·.1)
 obtain⟨j,E⟩:=TabA.probe_new (t:=t) (hashAt:=KW es) (h:=h) y I.dm (by rw[I.pl];rcases I.ms with q|q<;>lia) (λi hi e=>by
  rw[I.pl,<-I.sz] at hi
  unfold KW at e
  rw[Nj hi] at e
  exact H (e▸I.hm _ (Array.getElem_mem hi)))
 have hg:¬t.gaveWay=true:=by unfold SetTable.gaveWay;rcases y with q|q<;>simp[q]
 have o:(t.put j).1.dummies= #[]:=by
  unfold SetTable.put
  dsimp only
  rw[I.dm]
  split
  ·rename_i q;unfold SetTable.has at q;simp at q
  ·rfl
 have g:(t.put j).1.mask=t.mask:=rfl
 have p1:(t.put j).1.place.size=n+1:=by
  show(SetTable.insertAt t.place _ j).size=_
  rw[df,I.pl]
 have l:(t.put j).1.fill=n+1:=by unfold SetTable.fill;rw[p1,o];rfl
 have c:(t.put j).1.fits (SetTable.insertAt es (t.put j).2 (h,x)).size=true:=by
  unfold SetTable.fits
  rw[df,p1,l,g,I.sz]
  simp
  rcases I.ms with q|q<;>lia
 have b:∀e∈SetTable.insertAt es (t.put j).2 (h,x),e.1∈h::hs:=λe m=>by
  rcases uY m with rfl|z
  ·exact LX
  ·exact LZ _ (I.hm _ z)
 unfold hG
 rw[if_neg hg,E]
 dsimp only
 rw[if_pos c]
 by_cases hf:(t.put j).1.tooFull=true
 ·rw[if_pos hf]
  have d:t.mask=7/\n=4:=by
   unfold SetTable.tooFull at hf
   rw[l,g] at hf
   simp only[ge_iff_le,decide_eq_true_eq] at hf
   rcases I.ms with q|q
   ·exact⟨q.1,by rw[q.1] at hf;lia⟩
   ·rw[q.1] at hf;lia
  obtain⟨B,a,D,F,G,A,s,p⟩:=TabA.laid_some (t.put j).1.finger ((t.put j).1.movedTo 31) (t.put j).1.led (t.put j).1.plain ((SetTable.insertAt es (t.put j).2 (h,x)).map (·.1)) (by rw[Array.size_map,df,I.sz];lia)
  have C:(t.put j).1.relaid ((SetTable.insertAt es (t.put j).2 (h,x)).map (·.1)) (SetTable.grown (es.size+1))=some (B,a):=by
   unfold SetTable.relaid
   rw[I.sz,d.2]
   exact D
  rw[C]
  dsimp only
  rw[Array.size_map,df,I.sz] at A s p
  have u:(a.filterMap ((SetTable.insertAt es (t.put j).2 (h,x))[·]?)).size=(SetTable.insertAt es (t.put j).2 (h,x)).size:=by
   rw[<-Mt,Array.toList_filterMap,List.length_filterMap_eq_countP,df,I.sz]
   rw[List.countP_eq_length.mpr,Mt,s]
   intro k w
   have:=p k (Nc.mp w)
   rw[Nj (by rw[df,I.sz];exact this)]
   rfl
  rw[if_pos u]
  refine⟨_,_,rfl,G,.inr ⟨F,by lia⟩,A,by rw[u,df,I.sz],λe m=>?_⟩
  obtain⟨k,w,q⟩:=Array.mem_filterMap.mp m
  exact b _ (Array.mem_of_getElem? q)
 ·rw[if_neg hf]
  refine⟨_,_,rfl,o,?_,p1,by rw[df,I.sz],b⟩
  rw[g]
  rcases I.ms with q|q
  ·refine .inl ⟨q.1,?_⟩
   unfold SetTable.tooFull at hf
   rw[l,g,q.1] at hf
   simp only[ge_iff_le,decide_eq_true_eq] at hf
   lia
  ·exact .inr ⟨q.1,by lia⟩
theorem SI.fits {t:SetTable}{es:Array (Int×Value)}(I:SI t es n hs):t.fits es.size=true:=by
 unfold SetTable.fits SetTable.fill
 rw[I.pl,I.sz,I.dm]
 simp
 rcases I.ms with q|q<;>lia
theorem EM (r:Nat->Int×Value)(c:SetTable)(N:Nat)(h0:SI c #[] 0 [])(g:N<=18)(hd:((List.range N).map λi=>(r i).1).Nodup):∃(T:Nat->SetTable) (Es:Nat->Array (Int×Value)),T 0=c/\Es 0= #[]/\
  (∀i,i<N->hG (T i) (Es i) (r i).1 (r i).2=some (T (i+1),Es (i+1)))/\∀i,i<=N->SI (T i) (Es i) i ((List.range i).map λi=>(r i).1).reverse:=by
 let S:Nat->SetTable×Array (Int×Value):=λi=>Nat.rec (c,#[]) (λi q=>(hG q.1 q.2 (r i).1 (r i).2).getD q) i
 have b:∀i,i<=N->SI (S i).1 (S i).2 i ((List.range i).map λi=>(r i).1).reverse:=by
  intro i
  induction i with
  |zero=>intro _;exact h0
  |succ i ih=>
   intro hi
   have I:=ih (by lia)
   have f:(r i).1∉((List.range i).map λi=>(r i).1).reverse:=by
    rw[MR]
    have h1:((List.range (i+1)).map λi=>(r i).1).Nodup:=by
     refine hd.sublist (List.Sublist.map _ ?_)
     exact List.range_sublist.mpr hi
    rw[NS,LQ,MQ] at h1
    intro z
    exact h1.2.2 _ z _ (LY.mpr rfl) rfl
   obtain⟨d,a,e,I'⟩:=I.add (x:=(r i).2) (by lia) f
   have es:S (i+1)=(d,a):=by show(hG (S i).1 (S i).2 (r i).1 (r i).2).getD (S i)=_;rw[e];rfl
   rw[es,NS,LQ,List.reverse_append]
   exact I'
 refine⟨λi=>(S i).1,λi=>(S i).2,rfl,rfl,λi hi=>?_,b⟩
 have I:=b i (by lia)
 have f:(r i).1∉((List.range i).map λi=>(r i).1).reverse:=by
  rw[MR]
  have h1:((List.range (i+1)).map λi=>(r i).1).Nodup:=by
   refine hd.sublist (List.Sublist.map _ ?_)
   exact List.range_sublist.mpr hi
  rw[NS,LQ,MQ] at h1
  intro z
  exact h1.2.2 _ z _ (LY.mpr rfl) rfl
 obtain⟨d,a,e,I'⟩:=I.add (x:=(r i).2) (by lia) f
 have es:S (i+1)=(d,a):=by show(hG (S i).1 (S i).2 (r i).1 (r i).2).getD (S i)=_;rw[e];rfl
 show hG (S i).1 (S i).2 _ _=some ((S (i+1)).1,(S (i+1)).2)
 rw[e,es]
theorem yQ (O:X.calm=true){k:Nat}(E:bL k X.A):cT X (.type "set") (λxs H Q=>∃(l:Addr) (as:List Addr) (cs:List (List Int)),xs=[.ref l]/\aF X.K H l (as.map V.ref)/\aX H as cs/\cs.length<=18/\(cs.map ig).Nodup/\∀p,H p=none->Q (.ref p) (upd H p (KP p cs.length))):=by
 intro pins s σ H xs Z Q I r h
 obtain⟨l,as,cs,rfl,R,D,g,C,q⟩:=h
 obtain⟨u,rfl,P⟩:=dF r
 cases P
 obtain⟨m,N,M,Y⟩:=I.list R
 obtain rfl:=gB N
 have hu:=E.units
 have len:as.length=cs.length:=Paired.length D
 have d:∀j,j<as.length->ou s.heap (cs.getD j []) (as.getD j 0):=λj y=>by
  obtain⟨c,h1,h2⟩:=D.at (i:=j) (a:=as.getD j 0) (by rw[MI,Mi y];rfl)
  rw[MI,h1]
  exact A4 I.hok h2
 have B:((List.range as.length).map λj=>(ig (cs.getD j []),Value.ref (as.getD j 0)).1)=cs.map ig:=by
  refine N6 λj=>?_
  rw[L7,L7]
  by_cases y:j<as.length
  ·rw[OD y,Mi (show j<cs.length by lia)]
   show some (ig (cs.getD j []))=some (ig cs[j])
   rw[MI,Mi (show j<cs.length by lia)];rfl
  ·rw[NQ (by simpa using y),NQ (by lia)];rfl
 have st:∀x:Bool,∃(T:Nat->SetTable) (Es:Nat->Array (Int×Value)),T 0=.fresh 0 0 x/\Es 0= #[]/\(∀i,i<as.length->hG (T i) (Es i) (ig (cs.getD i [])) (.ref (as.getD i 0))=some (T (i+1),Es (i+1)))/\
   ∀i,i<=as.length->SI (T i) (Es i) i ((List.range i).map λj=>(ig (cs.getD j []),Value.ref (as.getD j 0)).1).reverse:=λx=>
  EM (λj=>(ig (cs.getD j []),Value.ref (as.getD j 0))) (.fresh 0 0 x) as.length ⟨rfl,.inl ⟨rfl,by decide⟩,rfl,rfl,λe U=>by simp at U⟩ (by lia) (by rw[B];exact C)
 have F:∀n,n<=18->SetTable.sizeAbove (SetTable.grown (n+1))<=sizeLine:=by
  have:∀n,n<19->SetTable.sizeAbove (SetTable.grown (n+1))<=2^24:=by decide+kernel
  exact λn hn=>this n (by lia)
 refine nG (I.ok.hd O) M.isList (tupleKind (intKind X.prog X.w)) (show X.A.units+1+1+1<cLine by lia) (λh k b t=>EU t) (λi=>cs.getD i []) d (λx=>Classical.choose (st x)) (λx=>Classical.choose (Classical.choose_spec (st x)))
  (λx=>⟨(Classical.choose_spec (Classical.choose_spec (st x))).1,(Classical.choose_spec (Classical.choose_spec (st x))).2.1⟩) (λx=>(Classical.choose_spec (Classical.choose_spec (st x))).2.2.1) (λx i hi=>?_) λx h' tk W J=>?_
 ·have z:=(Classical.choose_spec (Classical.choose_spec (st x))).2.2.2 i hi
  exact⟨z.fits,by rw[z.sz];lia,by rw[z.sz];exact F i (by lia),by rw[z.sz];lia⟩
 have z:=(Classical.choose_spec (Classical.choose_spec (st x))).2.2.2 _ (LL _)
 obtain⟨o,ep,h1,h2,S⟩:=W
 refine⟨.ref s.heap.objs.size,_,I.laid (a:=s.heap.objs.size) (o:=KP s.heap.objs.size cs.length) (t':=tk) (λb u e=>J b u (LW e) e) (LL _) ⟨⟨o,_,ep,_,h1,h2,S,z.fits,z.sz.trans len⟩,⟨o,h1⟩,?_⟩,rfl,q _ (I.hok.fresh (LL _))⟩
 rintro g1 g2 ⟨o',es,f,t,B,G⟩ k'
 exact⟨o',es,f,t,k' _ B,G⟩
structure JC (P:Program) (w:World) (K:LO) (mg:Str->Option Value) (base:Heap) (C:Addr) (x:Str) (k:Nat) (ps:List Str) (sp:Sp):Prop where
 ex:∃f fd,fz P w K mg base n8 k f fd ps sp/\Mk K C f/\mg x=some (.ref C)/\cC K fd ps []/\cC K fd ps [Value.none]/\cC K fd ps [Value.none,Value.none]
theorem mE{b:Array (Option Value)}(hd:fd.defaults=.ref T)(f:K.lookup T=some ⟨oc,od,.seq items n,b⟩)
  (m:Nat) (d:ps.length=m+ds.length) (h:∀a:List Value,a.length=m->∃k,bindArgs fd ⟨a,[]⟩=(seqItems? fd.defaults>>=k)/\k (some items)=pure (ps.zip (a++ds))):cC K fd ps ds:=λs a e c=>by
 obtain⟨k,h1,h2⟩:=h a (by rw[d,LP] at c;lia)
 exact PySem.W.binds_K e hd f rfl h1 h2
theorem lP {e:Expr}{f:Str}{a:Pos}{b:TE}(d:X.K=K)(g:PE X e b)(c:attributeBase e f X.env (eval e X.env)=eval e X.env):PE X (.Attribute e f a) (yP K b f):=by subst d;exact a9 g c
theorem FY {a:Addr}{xs:List V}{j:St}{g:TG}{l:TT}{te:TE}{n:Hp}{D:Addr}{Q:Hp->Prop}(f:Nat->St->Hp->Prop)(h0:f 0 j (upd n D (.lst [])))
  (u:∀i c H,i<=xs.length->f i c H->bW K H a xs)
  (o:∀i x c H,xs[i]?=some x->f i c H->g x c H λd H2=>l d H2 λb H3=>
   if b=true then te d H3 λv H4=>∃h,H4 D=some (.lst h)/\h.length<sizeLine/\f (i+1) d (upd H4 D (.lst (h++[v]))) else f (i+1) d H3)
  (hd:∀c H,f xs.length c H->Q H):tW j g l te (Ej K a) n D Q:=by
 refine⟨λi m c H=>m=xs.length - i/\i<=xs.length/\f i c H,⟨xs.length,by simp,L0 _,h0⟩,?_⟩
 rintro i m c H ⟨rfl,hi,p⟩
 have q:=u i c H hi p
 by_cases hlt:i<xs.length
 ·refine .inr ⟨⟨xs,xs[i],q,by simp[hlt]⟩,f (i+1),λs H' r=>⟨xs.length - (i+1),by lia,rfl,hlt,r⟩,λx H' y=>?_⟩
  obtain⟨e,y⟩:=y
  subst e
  exact o i x c _ (y xs q) p
 ·have e:i=xs.length:=by lia
  subst e
  exact .inl ⟨⟨xs,q,LL _⟩,hd c H p⟩
structure fO (P:Program) (w:World) (K:LO) (mg:Str->Option Value) (base:Heap) (C:Addr) (x:Str) (k:Nat) (ps:List Str) (sp:Sp) (n:Nat):Prop where
 ex:∃f fd,fz P w K mg base n8 k f fd ps sp/\Mk K C f/\mg x=some (.ref C)/\∀j,j<=n->∃ds,aW (List.replicate j (.int 0)) ds/\cC K fd ps ds
section
variable {C:Addr} {k n:Nat} {ps:List Str} {sp:Sp} {x:Str} {p pos:Pos} {e:Expr} {es:List Expr} {t:TA} (G:fO X.prog X.w X.K X.mg X.base C x k ps sp n) (hr:bL (k+1) X.A) (hg:Gl X x) (ha:PA X (e::es) t) (hdb:(x==("__debug__" :Str))=false:=by decide)
  (he:starEach (e::es) X.env=(false,eval e X.env)::starEach es X.env:=by rfl) (hpl:(backTo pos (starEach es X.env)).any (·.1)=false:=by rfl)
include G hr hg ha hdb he hpl
theorem uS (j:Nat)(d:j<=n):PE X (.Call (.Name x p) (e::es) [] pos) (nK C sp (List.replicate j (.int 0)) E0 t):=by
 obtain⟨f,fd,F,M,c,a⟩:=G.ex
 obtain⟨ds,r,b⟩:=a j d
 exact wO M F hr hg c b r kQ ha hdb he hpl
theorem lM:PE X (.Call (.Name x p) (e::es) [] pos) (nK C sp [] E0 t):=uS G hr hg ha hdb he hpl 0 (L0 _)
theorem Ez (h1:1<=n:=by decide):PE X (.Call (.Name x p) (e::es) [] pos) (nK C sp [.int 0] E0 t):=uS G hr hg ha hdb he hpl 1 h1
theorem D_ (h1:2<=n:=by decide):PE X (.Call (.Name x p) (e::es) [] pos) (nK C sp [.int 0,.int 0] E0 t):=uS G hr hg ha hdb he hpl 2 h1
end
theorem Ed(h0:cC K fd ps [])(h1:cC K fd ps [.int 0 t0]):∀j,j<=1->∃ds,aW (List.replicate j (.int 0)) ds/\cC K fd ps ds
 |0,_=>⟨_,.nil,h0⟩
 |1,_=>⟨_,.cons ⟨_,rfl⟩ .nil,h1⟩
theorem FB(h0:cC K fd ps [])(h1:cC K fd ps [.int 0 t1])(a:cC K fd ps [.int 0 t0,.int 0 t1]):∀j,j<=2->∃ds,aW (List.replicate j (.int 0)) ds/\cC K fd ps ds
 |0,_=>⟨_,.nil,h0⟩
 |1,_=>⟨_,.cons ⟨_,rfl⟩ .nil,h1⟩
 |2,_=>⟨_,.cons ⟨_,rfl⟩ (.cons ⟨_,rfl⟩ .nil),a⟩
def Jx:R2:=λx y H Q=>∃a b xs ys,x=.ref a/\y=.ref b/\H a=some (.tup xs)/\H b=some (.tup ys)/\xs.length+ys.length<=sizeLine/\∀p H',ah H H'->H' p=some (.tup (xs++ys))->Q (.ref p) H'
theorem wb:gy X (binaryOp .Add) Jx:=by
 intro pins s σ H x y v u Q I l m h
 obtain⟨a,b,xs,ys,rfl,rfl,ha,f,o,q⟩:=h
 by_cases e:xs=[]
 ·subst e
  cases l
  cases m
  obtain⟨d,r1,p1,_⟩:=I.tuple (bW.of ha)
  obtain⟨c,O,p2,_⟩:=I.tuple (bW.of f)
  cases r1
  obtain⟨⟨P,w,M,J⟩,g,K,A,n⟩:=id p1
  obtain⟨⟨N,r,b2,E⟩,j,C,D,B⟩:=id p2
  subst K n C B
  exact concat_meets ⟨_,g,rfl⟩ ⟨_,j,rfl⟩ noFill_tuple_add seq_tuple_add PySem.F.slot_tuple_add OJ (OK _ _)
   (tuple_addW0 a b _ _ A D w r J E rfl) ⟨g,j,⟨.ref b,H,I,rfl,q b H (ah.refl H) f⟩⟩
 ·refine Fi pins s σ H _ _ v u Q I l m ⟨a,b,xs,ys,rfl,rfl,bW.of ha,bW.of f,e,o,λz=>?_,λ_ p G=>q p _ ((ah.refl H).upd G) ae⟩
  refine q a H (ah.refl H) ?_
  rw[z,Mb]
  exact ha
namespace TabB
open SetTable
abbrev LB:=Nat->Option Int
section
variable {m:Nat} {f:LB} {h:Int}
noncomputable def h_ (m:Nat) (h:Int):Probe:={j:=bits h%(m+1),more:=runEnd m (bits h%(m+1)) - bits h%(m+1),i:=bits h%(m+1),perturb:=bits h,dummy:=none}
end
def vE (xs:Array Nat):Prop:=∀(i j x y:Nat),xs[i]?=some x->xs[j]?=some y->i<j->x<y
end TabB
def As (C c:Addr) (m:Str) (sp b:Sp) (d:TE):TE:=λσ H Q=>d σ H λx H1=>∃a D dx fs,x=.ref a/\H1 a=some (.ins D dx fs)/\fs.lookup m=none/\
 ((D=C/\sp [x] H1 Q E0)\/(D=c/\b [x] H1 Q E0))
section
variable {C C':Addr} {k k':Nat} {ps ps':List Str} {sp sp':Sp} {m:Str} {pos apos:Pos} {o:Expr} {ta:TE}
theorem nH {pl:Sem Bool}(N:PE X o ta)(c:j6 X.K C)(y:j6 X.K C')(G:cn X.prog X.w X.K X.mg X.base C m k ps sp)(J:cn X.prog X.w X.K X.mg X.base C' m k' ps' sp')(r:bL k X.A)(g:bL k' X.A)
  (z:eval (.Call (.Attribute o m apos) [] [] pos) X.env=(do
   let n<-eval o X.env
   standAt apos.atName
   let (f,first)<-holding [n] (getMethod n m pl)
   callWith pos f first (backTo pos (starEach [] X.env)) (backToKw pos (keywordEach [] X.env))):=by rfl):
  PE X (.Call (.Attribute o m apos) [] [] pos) (As C C' m sp sp' ta):=by
 obtain⟨f,fd,F,p,E⟩:=G.ex
 obtain⟨O,e,F',b,d⟩:=J.ex
 intro pins s σ H Q I h
 refine Ot (pl:=pl) (cy (N pins s σ H _ I h) λu P M=>?_) z
 obtain⟨x,H1,I1,B,a,D,dx,fs,ex,j,l,q⟩:=M
 subst ex
 obtain rfl:u=Value.ref a:=B
 rcases q with ⟨rfl,q⟩|⟨rfl,q⟩
 ·refine gZ I1 j c p l ?_
  exact PySem.W.callWith_K0 (first:=[.ref a]) I1.kIn p.kp (kI (us:=[.ref a]) (vs:=[.ref a]) F r E .nil kQ I1 (.cons rfl .nil) q)
 ·refine gZ I1 j y b l ?_
  exact PySem.W.callWith_K0 (first:=[.ref a]) I1.kIn b.kp (kI (us:=[.ref a]) (vs:=[.ref a]) F' g d .nil kQ I1 (.cons rfl .nil) q)
end
theorem vG {K:Type} [DecidableEq K]{xs:List (K×Value)}{k:K}{v:Value}:(stored xs k v).length<=xs.length+1:=by
 unfold stored
 split
 ·rw[LK];lia
 ·simp
noncomputable def vS {K:Type} [DecidableEq K] (a:Nat->K) (b:Nat->Value):Nat->List (K×Value)
 |0=>[]
 |i+1=>stored (vS a b i) (a i) (b i)
theorem o6 {K:Type} [DecidableEq K]{a:Nat->K}{b:Nat->Value}:∀(i:Nat),(vS a b i).length<=i
 |0=>LL _
 |i+1=>LR vG (NG (o6 i))
abbrev Ko (H:Hp) (as:List Addr) (kvs:List (cS×V)):Prop:=Paired (λa (kv:cS×V)=>H a=some (.tup [kV kv.1,kv.2])) as kvs
abbrev JX (kvs:List (cS×V)):List (cS×V):=GC kvs
theorem lB (T:X.calm=true):cT X (.type "dict") (λxs H Q=>∃(l:Addr) (as:List Addr) (kvs:List (cS×V)),xs=[.ref l]/\H l=some (.lst (as.map V.ref))/\Ko H as kvs/\∀p,H p=none->Q (.ref p) (upd H p (.dK (JX kvs)))):=by
 intro pins s σ H xs us Q I r h
 obtain⟨l,as,kvs,rfl,U,M,q⟩:=h
 obtain⟨u,rfl,ru⟩:=dF r
 cases ru
 obtain⟨J,A,c,S,w⟩:=I.hok l _ U
 obtain rfl:=gB S
 have len:as.length=kvs.length:=Paired.length M
 have ex:∀j,∃(b u:Value),j<as.length->nB s.heap (as.getD j 0) b u/\aZ (kV (kvs.getD j (.inl 0,.non)).1) b/\aZ (kvs.getD j (.inl 0,.non)).2 u:=λj=>by
  by_cases F:j<as.length
  ·have f:j<kvs.length:=by lia
   obtain⟨a,ha,h1⟩:=fJ M j f
   obtain⟨_,ii,rr,o,G,x,n,hd⟩:=I.hok a _ h1
   obtain⟨u1,Z,rfl,r1,r2⟩:=kW rr
   refine⟨u1,Z,λ_=>?_⟩
   have N:as.getD j 0=a:=by rw[MI,ha];rfl
   have D:kvs.getD j (.inl 0,.non)=kvs[j]:=by rw[MI,Mi f];rfl
   rw[N,D]
   exact⟨⟨o,n,G,x,hd⟩,r1,r2⟩
  ·exact⟨.none,.none,λz=>absurd z F⟩
 obtain⟨B,m⟩:∃B:Nat->Value,∀j,∃u:Value,j<as.length->nB s.heap (as.getD j 0) (B j) u/\aZ (kV (kvs.getD j (.inl 0,.non)).1) (B j)/\aZ (kvs.getD j (.inl 0,.non)).2 u:=⟨λj=>Classical.choose (ex j),λj=>Classical.choose_spec (ex j)⟩
 obtain⟨C,d⟩:∃C:Nat->Value,∀j,j<as.length->nB s.heap (as.getD j 0) (B j) (C j)/\aZ (kV (kvs.getD j (.inl 0,.non)).1) (B j)/\aZ (kvs.getD j (.inl 0,.non)).2 (C j):=⟨λj=>Classical.choose (m j),λj=>Classical.choose_spec (m j)⟩
 have kt:∀i,i<=as.length->KV (JX (kvs.take i)) (vS (λj=>(kvs.getD j (.inl 0,.non)).1) C i):=by
  intro i
  induction i with
  |zero=>intro _;exact .nil
  |succ i ih=>
   intro hi
   obtain⟨_,_,W⟩:=d i hi
   have y:i<kvs.length:=by lia
   have D:kvs[i]?=some (kvs.getD i (.inl 0,.non)):=by rw[MI,Mi y];rfl
   have R:kvs.take (i+1)=kvs.take i++[kvs.getD i (.inl 0,.non)]:=by rw[NH,D];rfl
   unfold JX;rw[R,jB]
   exact KV.put (ih (by lia)) _ W
 refine hU (I.ok.hd T) w B C (DX:=λi h=>h.DictOf (bo X.prog X.w) s.heap.objs.size (vS (λj=>(kvs.getD j (.inl 0,.non)).1) C i)) (KO:=λ_ _=>True) (λj F=>⟨(d j F).1,trivial⟩) (λ_ _ _ _ _ z=>z) (λi hi g g' hg ⟨o,es,ep,G,r⟩=>⟨o,es,ep,hg _ _ (LL _) G,r⟩) (λi hi s' Q E _ Y q=>wpAny_dictSet_pairs (rZ (d i hi).2.1) Y (λh' hd sb=>q h' _ (NI _ _) hd sb) (LR (o6 i) (LR (Nq hi) (by simpa using J)))) (λh' e=>⟨_,#[],0,e,⟨rfl,rfl,rfl⟩,rfl,(λe he=>nomatch he),.nil,NN⟩) λh' tk hd P=>?_
 ·have K:=kt as.length (LL _)
  rw[len,Mc] at K
  rw[len] at hd
  have O:H s.heap.objs.size=none:=I.hok.fresh (LL _)
  exact⟨.ref s.heap.objs.size,_,I.laid (a:=s.heap.objs.size) (o:=.dK (JX kvs)) (t':=tk) P (LL _) ⟨LR x_ (by rw[<-len];simpa using J),beq_eq_false_iff_ne.mpr (L8 (L3 I.big)),_,K,hd⟩,rfl,q _ O⟩
def Kt (v d:Addr):HO:=.ext λh=>h.IsValuesView v d
theorem Fl {a:Type}{kvs:List (a×V)}{vs:List (a×Value)}(h:KV kvs vs):aW (kvs.map (·.2)) (vs.map (·.2)):=by
 induction h with
 |nil=>exact .nil
 |cons r h ih=>exact .cons r.2 ih
theorem ze:FH X "dict.values" (λx vs H Q=>∃(a:Addr) (kvs:List (cS×V)),x=.ref a/\vs=[]/\H a=some (.dK kvs)/\∀v,H v=none->Q (.ref v) (upd H v (Kt v a))):=by
 intro pins s σ H x xs v m Q I c b h
 obtain⟨a,kvs,rfl,rfl,ha,q⟩:=h
 cases c
 cases b
 obtain⟨j,f,vs,l,o,es,ep,g,d,hd,r⟩:=I.hok a _ ha
 refine wA f g d ?_
 exact⟨.ref s.heap.objs.size,_,I.laid (a:=s.heap.objs.size) (o:=Kt s.heap.objs.size a) (t':=s.toks) (λ_ _ q=>LU _ q) (LL _) ⟨⟨_,L4 _ rfl,rfl,rfl⟩,⟨_,L4 _ rfl⟩,λh1 h2 ⟨o,e,x⟩ k=>⟨o,k o e,x⟩⟩,rfl,q _ (I.hok.fresh (LL _))⟩
theorem uN (m:X.calm=true):cT X (.type "list") (λxs H Q=>∃(v a:Addr) (kvs:List (cS×V)),xs=[.ref v]/\H v=some (Kt v a)/\H a=some (.dK kvs)/\kvs.length<=1000/\∀l,H l=none->Q (.ref l) (upd H l (.lst (kvs.map (·.2))))):=by
 intro pins s σ H xs E Q I r h
 obtain⟨v,a,kvs,rfl,p,ha,D,q⟩:=h
 obtain⟨F,rfl,A⟩:=dF r
 cases A
 have d:sizeLine=2^24:=rfl
 obtain⟨b,_⟩:=I.hok v _ p
 obtain⟨_,G,vs,n,o,es,ep,y,C,hd,j,z,x⟩:=I.hok a _ ha
 have len:kvs.length=vs.length:=Paired.length n
 refine PySem.W.kdl_call (PySem.W.kdl_values (knd:=bo X.prog X.w) (kvs:=vs) (ep:=ep)) (I.ok.hd m) ⟨b,o,es,y,C,hd,j,z,x⟩ (by lia) λh' tk g c j B f=>?_
 have e:g.toList=vs.map (·.2):=by
  refine N6 λi=>?_
  rw[L7]
  cases ei:g.toList[i]? with
  |some u=>
   obtain⟨k,j⟩:=f.2 i u (by rw[<-ND];exact ei)
   rw[j];rfl
  |none=>
   have h1:=List.getElem?_eq_none_iff.mp ei
   rw[Mt,f.1] at h1
   rw[List.getElem?_eq_none_iff.mpr h1];rfl
 exact⟨.ref s.heap.objs.size,_,I.laid (o:=.lst (kvs.map (·.2))) j (LL _) ⟨by rw[LK];lia,g.toList,c,by rw[e];exact Fl n,B⟩,rfl,q _ (I.hok.fresh (LL _))⟩
def GQ (K:LO) (tl:TA):TI:=λσ H R=>tl σ H λvs H1=>∃a,vs=[.ref a]/\(∃xs,aF K H1 a xs)/\R (Hr 0 K a) H1
theorem B6(C:Gl X "enumerate")(m:X.mg "enumerate" =none)(r:bootBuiltins "enumerate" =some (.type "enumerate"))(o:PA X [l] ta)
  (B:starEach [l] X.env=[(false,eval l X.env)]:=by rfl):
  PI X (.Tuple elts x1 pt) (.Call (.Name "enumerate" p) [l] [] pos) (GQ X.K ta):=by
 intro pins s σ H R I h
 refine Ng (gi I C m r ?_ (by decide) (by decide))
 have c:=o pos pins s σ H _ I h
 rw[B] at c|-
 refine je rfl rfl (evalArgs_kwB (rest:=[]) rfl (cy c λE f A=>?_))
 obtain⟨vs,H1,I1,r1,x⟩:=A
 obtain⟨a,rfl,⟨xs,n⟩,q⟩:=x
 obtain⟨u,rfl,z⟩:=dF r1
 cases z
 refine kws_nil ?_
 obtain⟨e,F,w,D⟩:=I1.list n
 refine call_enumerate_list w.isList λh' g j _ y=>?_
 refine wpAny_pyIter_enum (s:={f with heap:=h'}) g ?_
 refine⟨f.heap.objs.size+1,[f.heap.objs.size+1,f.heap.objs.size],_,_,H1,rfl,I1.kept (t':=f.toks) y,oZ 0 a _ _ (Nat.succ_ne_self _),⟨⟨_,g⟩,j⟩,λb hb=>?_,q⟩
 have d:f.heap.objs.size<=b:=by
  rcases LS.mp hb with rfl|hb
  ·exact Nat.le_succ _
  ·rw[LY.mp hb];exact LL _
 exact I1.fpOk d (I1.hok.fresh d)
theorem zw {a:Addr}{xs:List V}{g:TG}{f:TS}{D:fX}(b:Nat->St->Hp->Prop)(h0:b 0 σ H)(o:∀i σ H,i<=xs.length->b i σ H->aF K H a xs)
  (j:∀i y p σ H,xs[i]?=some y->H p=none->b i σ H->g (.ref p) σ (upd H p (.tup [.int ((i:Nat):Int),y])) λd H2=>f {D with nx:=b (i+1),ct:=b (i+1),bk:=D.nx} d H2) (hd:∀σ H,b xs.length σ H->D.nx σ H):
  ∃W:Nat->Nat->St->Hp->Prop,(∃m,W 0 m σ H)/\∀i m σ H,W i m σ H->
   ((Hr 0 K a).stop i H/\D.nx σ H)\/((Hr 0 K a).go i H/\∃N:St->Hp->Prop,(∀c H',N c H'->∃h,h<m/\W (i+1) h c H')/\∀x H',(Hr 0 K a).yld i H x H'->g x σ H' λd H2=>f {D with nx:=N,ct:=N,bk:=D.nx} d H2):=by
 refine⟨λi m σ H=>m=xs.length - i/\i<=xs.length/\b i σ H,⟨xs.length,by simp,L0 _,h0⟩,?_⟩
 rintro i m σ H ⟨rfl,hi,p⟩
 have q:=o i σ H hi p
 by_cases hlt:i<xs.length
 ·refine .inr ⟨⟨xs,xs[i],q,by simp[hlt]⟩,b (i+1),λc H' l=>⟨xs.length - (i+1),by omega,rfl,hlt,l⟩,λx H' y=>?_⟩
  obtain⟨P,z,r,rfl,rfl,n⟩:=y
  exact j i z P σ _ (n xs q) r p
 ·have e:i=xs.length:=by omega
  subst e
  exact .inl ⟨⟨xs,q,LL _⟩,hd σ H p⟩
def Jh (K:LO) (c:Bool):R2:=λx y H Q=>∃a b xs,x=.ref a/\y=.ref b/\aF K H a xs/\aF K H b []/\Q (.bl (if c then !xs.isEmpty else xs.isEmpty)) H
theorem p_(c:bL k X.A):gy X (compareOp .Eq) (Jh X.K false):=by
 intro pins s σ H x y v u Q I l m h
 obtain⟨a,b,xs,rfl,rfl,f,d,q⟩:=h
 cases(show v=Value.ref a from l)
 cases(show u=Value.ref b from m)
 have o:=c.units
 obtain⟨p,r1,p1,_⟩:=I.list f
 obtain⟨n,g,p2,_⟩:=I.list d
 cases g
 cases r1 with
 |nil=>exact SeqAt.eq_listAt (e:=λ_=>true) p1.isList p2.isList rfl (by lia) (λj h1 h2=>absurd h1 (by simp)) ⟨.bl true,H,I,by rw[BF];rfl,q⟩
 |cons r t=>exact SeqAt.eq_list_lengthsAt p1.isList p2.isList (by simp) (by lia) ⟨.bl false,H,I,rfl,q⟩
theorem kq:∀{xs:List V} {a:List Value} {u:Value},aW xs a->u∈a->∃x∈xs,aZ x u
 |_,_,_,.nil,h=>by cases h
 |_::_,_::_,u,.cons r t,h=>by
  rcases LS.mp h with rfl|h
  ·exact⟨_,LX,r⟩
  ·obtain⟨x,h1,h2⟩:=kq t h
   exact⟨x,LZ _ h1,h2⟩
noncomputable def NT (K:LO) (H:Hp):V->Prop
 | .non=>True
 | .ref a=>∃ys,bW K H a ys
 |_=>False
def FF:Value->Bool| .none=>true|_=>false
theorem AI:∀{xs:List V} {b:List Value},aW xs b->(∀x∈xs,NT K H x)->b.any FF=xs.any (λx=>decide (x=.non))
 |_,_,.nil,_=>rfl
 |x::xs,u::b,.cons r t,h=>by
  rw[MX,MX,AI t λy c=>h y (LZ _ c)]
  have z:=h x LX
  cases x with
  |non=>cases r;rfl
  |ref a=>cases r;rfl
  |_=>exact z.elim
theorem IJ(j:bL k X.A):gy X (compareOp .In) (λx y H Q=>∃p xs,x=.non/\y=.ref p/\aF X.K H p xs/\(∀z∈xs,NT X.K H z)/\Q (.bl (xs.any λx=>decide (x=.non))) H):=by
 intro pins s σ H x y v u Q I m n h
 obtain⟨p,xs,rfl,rfl,f,d,q⟩:=h
 cases m;cases n
 have C:=j.units
 obtain⟨b,r,g,e⟩:=I.list f
 refine SeqAt.in_listAt FF g.isList (λw o=>?_) ⟨.bl _,H,I,rfl,?_⟩
 ·obtain⟨z,e,c⟩:=kq r (by simpa using o)
  have:=d z e
  cases z with
  |non=>cases c;exact SeqAt.EqAt.same _
  |ref a=>
   cases c
   obtain⟨ys,l⟩:=this
   obtain⟨B,_,p2,_⟩:=I.tuple l
   exact SeqAt.EqAt.tuple_none p2 (show X.A.units+1<cLine by lia)
  |_=>exact this.elim
 ·rw[show b.toArray.any FF=b.any FF by simp,AI r d]
  exact q
def DR (y:Str):Value->Bool
 | .str x _=>x==y
 |_=>false
theorem qe {xs:List Str}{its:List Value}(r:aW (xs.map V.str) its):∃ts:List Tok,ts.length=xs.length/\its=(xs.zip ts).map λp=>Value.str p.1 p.2:=by
 induction xs generalizing its with
 |nil=>cases r;exact⟨[],rfl,rfl⟩
 |cons x xs ih=>
  cases r with
  |cons h r=>
   obtain⟨t,rfl⟩:=h
   obtain⟨ts,h1,rfl⟩:=ih r
   exact⟨t::ts,by simp[h1],rfl⟩
theorem vd {xs:List Str}{its:List Value}{y:Str}{t:Tok}(r:aW (xs.map V.str) its):∀z,z∈its.toArray->SeqAt.EqAt A s z (.str y t) (DR y z):=λz a=>by
 obtain⟨ts,_,rfl⟩:=qe r
 have a:z∈(xs.zip ts).map λp=>Value.str p.1 p.2:=by simpa using a
 obtain⟨q,_,rfl⟩:=LN.mp a
 exact SeqAt.EqAt.str_str _ _ _ _
theorem zc:FH X "list.count" (λx vs H Q=>∃(p:Addr) (xs:List Str) (y:Str),x=.ref p/\vs=[.str y]/\H p=some (.lst (xs.map V.str))/\Q (.int (xs.count y:Nat)) H):=by
 intro pins s σ H x vs v f Q I d c h
 obtain⟨p,xs,y,rfl,rfl,b,q⟩:=h
 cases d
 obtain⟨u,rfl,t,rfl⟩:=dF c
 obtain⟨z,a,n,r,g,e⟩:=I.lstM b
 refine call_meets PySem.F.slot_list_count ⟨_,e,rfl⟩ PySem.F.entry_list_count (PySem.F.args_list_count_2 _ _) (SeqAt.list_countAt p a.toArray n none #[] (.str y t) (DR y))
  ⟨e,vd r,⟨.int (xs.count y:Nat),H,I.tok _,⟨s.toks,?_⟩,q⟩⟩
 obtain⟨ts,h1,rfl⟩:=qe r
 have:∀(xs:List Str) (ts:List Tok),ts.length=xs.length->(((xs.zip ts).map λp=>Value.str p.1 p.2).countP (DR y))=xs.count y:=by
  intro xs
  induction xs with
  |nil=>intro ts _;simp
  |cons x xs ih=>
   intro ts h
   cases ts with
   |nil=>simp at h
   |cons t' ts=>
    rw[List.zip_cons_cons,L1,List.countP_cons,List.count_cons,ih ts (by simpa using h)]
    rfl
 rw[this xs ts h1]
theorem yp:FH X "list.index" (λx vs H Q=>∃(p:Addr) (a b:List Str) (y:Str),x=.ref p/\vs=[.str y]/\H p=some (.lst ((a++y::b).map V.str))/\y∉a/\a.length<1000/\Q (.int (a.length:Nat)) H):=by
 intro pins s σ H x vs v C Q I B w h
 obtain⟨p,a,b,y,rfl,rfl,l,o,D,q⟩:=h
 cases B
 obtain⟨u,rfl,t,rfl⟩:=dF w
 obtain⟨z,d,n,r,f,e⟩:=I.lstM l
 have j:=vd (A:=X.A.in1) (s:=s) (y:=y) (t:=t) r
 obtain⟨ts,h1,rfl⟩:=qe r
 have c:∀m (g:m<(((a++y::b).zip ts).map λp=>Value.str p.1 p.2).toArray.size),DR y (((a++y::b).zip ts).map λp=>Value.str p.1 p.2).toArray[m]=((a++y::b)[m]'(by simp at g;rw[LP,L5];lia)==y):=λm g=>by simp[DR]
 refine call_meets PySem.F.slot_list_index ⟨_,e,rfl⟩ PySem.F.entry_list_index (PySem.F.args_list_index_2 _ _) (SeqAt.list_indexAt p _ n none #[] (.str y t) (DR y) a.length (by simp[h1]) (by lia) (by rw[c];simp) (λm g h2=>by
  rw[c,beq_eq_false_iff_ne]
  rw[List.getElem_append_left h2]
  exact λz=>o (z▸List.getElem_mem h2)))
  ⟨e,j,⟨.int (a.length:Nat),H,I.tok _,⟨s.toks,rfl⟩,q⟩⟩
def K2 (K:LO) (tl:TE):TI:=λσ H R=>pk K tl σ H R\/Jr K tl σ H R
theorem u6(a:PE X l tl):PI X tg l (K2 X.K tl):=λpins s σ H R I h=>h.elim (aD a pins s σ H R I) (A9 a pins s σ H R I)
def Jt (K:LO):R2:=λx y H Q=>ow K x y H Q\/nW K x y H Q
theorem Bz:GV X (Jt X.K):=λa b p s σ H x y v u Q I d e h c=>h.elim (λh=>aV a b p s σ H x y v u Q I d e h c) λh=>aI a b p s σ H x y v u Q I d e h c
theorem dZ {c:Type}:∀{b:List c},b.length=n+1->∃a r,b=a::r/\r.length=n
 |[],h=>nomatch h
 |a::r,h=>⟨a,r,rfl,Nat.succ.inj h⟩
theorem o8 {a:Type}{us:List a}(h:us.length=0):us=[]:=Ox h
theorem Ls {c:Type}{us:List c}(h:us.length=1):∃a,us=[a]:=by
 obtain⟨a,r0,rfl,b⟩:=dZ h
 cases o8 b
 exact⟨a,rfl⟩
theorem Lq {d:Type}{us:List d}(h:us.length=2):∃b a,us=[b,a]:=by
 obtain⟨b,r0,rfl,c⟩:=dZ h
 obtain⟨a,r1,rfl,h1⟩:=dZ c
 cases o8 h1
 exact⟨b,a,rfl⟩
theorem Lw {e:Type}{us:List e}(h:us.length=3):∃c a b,us=[c,a,b]:=by
 obtain⟨c,r0,rfl,d⟩:=dZ h
 obtain⟨a,r1,rfl,h1⟩:=dZ d
 obtain⟨b,f,rfl,h2⟩:=dZ h1
 cases o8 h2
 exact⟨c,a,b,rfl⟩
theorem KI {f:Type}{us:List f}(h:us.length=4):∃d a b c,us=[d,a,b,c]:=by
 obtain⟨d,r0,rfl,e⟩:=dZ h
 obtain⟨a,r1,rfl,h1⟩:=dZ e
 obtain⟨b,j,rfl,h2⟩:=dZ h1
 obtain⟨c,l,rfl,g⟩:=dZ h2
 cases o8 g
 exact⟨d,a,b,c,rfl⟩
theorem Lf {f:Type}{us:List f}(h:us.length=5):∃b a d e c,us=[b,a,d,e,c]:=by
 obtain⟨b,r0,rfl,j⟩:=dZ h
 obtain⟨a,r1,rfl,h1⟩:=dZ j
 obtain⟨d,o,rfl,h2⟩:=dZ h1
 obtain⟨e,n,rfl,l⟩:=dZ h2
 obtain⟨c,m,rfl,g⟩:=dZ l
 cases o8 g
 exact⟨b,a,d,e,c,rfl⟩
theorem LD {g:Type}{us:List g}(h:us.length=6):∃c a e f d b,us=[c,a,e,f,d,b]:=by
 obtain⟨c,r0,rfl,m⟩:=dZ h
 obtain⟨a,r1,rfl,h1⟩:=dZ m
 obtain⟨e,q,rfl,h2⟩:=dZ h1
 obtain⟨f,p,rfl,n⟩:=dZ h2
 obtain⟨d,o,rfl,l⟩:=dZ n
 obtain⟨b,r,rfl,j⟩:=dZ l
 cases o8 j
 exact⟨c,a,e,f,d,b,rfl⟩
section
variable {P:Program} {h:Heap} {x q:Str} {f C:Addr} {st:Stmt} {k:Nat} {ps N:List Str} {sp:Sp} {fd:FuncData}
noncomputable def Al (p:List Value->Prop):Nat->Prop
 |0=>p []
 |n+1=>∀a,Al (λl=>p (a::l)) n
theorem al {p:List Value->Prop}(h:us.length=n)(g:Al p n):p us:=by
 subst h
 induction us generalizing p with
 |nil=>exact g
 |cons a l ih=>exact ih (p:=λl=>p (a::l)) (g a)
def Bd (x q:Str) (st:Stmt) (ps:List Str):Prop:=∀(kV b d:Value) (e:Option Addr) (a f:Value),Al (λc=>bindArgs (Mh x q (cq st) (bP st) (aM st) .none kV b d e a f) ⟨c,[]⟩=pure (ps.zip c)) ps.length
def qW (P:Program) (w:World) (K:LO) (a:Str->Option Value) (base:Heap) (k:Nat) (x q:Str) (st:Stmt) (ps:List Str) (sp:Sp):Prop:=Bd x q st ps/\∀{f fd},Gu K x q st f fd->fz P w K a base n8 k f fd ps sp
abbrev eO (P:Program) (w:World) (K:LO) (mg:Str->Option Value) (base:Heap) (k:Nat) (x:Str) (st:Stmt) (ps:List Str) (sp:Sp):Prop:=qW P w K mg base k x x st ps sp
theorem rd (N:List Str)(c:N.Nodup->∀{f:Addr} {b:Value} {A:Around} {a:List Env} {s:Shared} (H:Hp) (vs:List V) (Q:VK) (E:XK),bL k (A.deeper (envOfC q (aM st) s.heap.objs.size f b))->sp vs H Q E->
   ∃t,nV (qZ n8 P w K mg base N q (aM st) f b A a s H E).nox (bP st) t/\t {nx:=λ_ H'=>Q .non H',rt:=Q} (h_ N vs) H)
  (S:fE N ps (aM st):=by constructor<;>decide+kernel) (len:∀vs H Q E,sp vs H Q E->vs.length=ps.length:=by intro _ _ _ _ h;cases h;subst_vars;rfl)
  (d:Bd x q st ps:=by(repeat intro _);exact rfl):qW P w K mg base (k+1) x q st ps sp:=⟨d,λF=>F.ok S len λ_ _ _ _=>c S.nd⟩
def vM (K:LO) (f:Addr) (x q:Str) (st:Stmt):Prop:=∃(e:Value) (g:Option Addr) (kV c b:Value) (h:Option Addr) (a j:Value) (d:Array (Option Value)),K.lookup f=some ⟨e,g,.func (Mh x q (cq st) (bP st) (aM st) .none kV c b h a j),d⟩/\MO K a q=true/\Mv K (.ref f)=true
theorem fnat{kV:Value}{a:Array (Option Value)}(l:K.lookup f=some ⟨oc,od,.func (Mh x q (cq st) (bP st) (aM st) .none kV dc pm an cd ct),a⟩)(c:MO K cd q=true)(k:Mv K (.ref f)=true):vM K f x q st:=⟨_,_,_,_,_,_,_,_,_,l,c,k⟩
def dI (K:LO) (x:Str) (st:Stmt):Prop:=∃f,PySem.W.nsIn K mainGlobals x=some (some (.ref f))/\vM K f x x st
def si (K:LO) (C:Addr) (x q:Str) (st:Stmt):Prop:=∃f,Mq K (.ref C) x=some (some (.ref f))/\Nw K (.ref f)=true/\vM K f x q st
theorem fng (a:PySem.W.nsIn K mainGlobals x=some (some (.ref f)))(l:vM K f x x st):dI K x st:=⟨f,a,l⟩
theorem meg (a:Mq K (.ref C) x=some (some (.ref f)))(i:Nw K (.ref f)=true)(l:vM K f x q st):si K C x q st:=⟨f,a,i,l⟩
structure ClG (K:LO) (C:Addr) (x:Str):Prop where
 n:PySem.W.nsIn K mainGlobals x=some (some (.ref C))
 pg:Oe K C Str.empty=true
 hd:Oo K C=true
 po:PySem.W.plainOver K C=true
 sa:Mq K (.ref C) "__setattr__" =some (some (.builtin "object.__setattr__"))
 mi:PySem.W.makesIn K C=true
 kc:Mv K (.ref C)=true
theorem ClG.cl (g:ClG K C x):j6 K C:=⟨g.pg,g.hd,g.po,g.sa⟩
theorem vM.go (l:vM K f x q st)(r:qW P w K mg base k x q st ps sp):∃fd,fz P w K mg base n8 k f fd ps sp/\Mv K (.ref f)=true/\cC K fd ps []:=by
 obtain⟨_,_,_,_,_,_,_,_,_,l,c,j⟩:=l
 have F:=vA (st:=st) l c j
 exact⟨_,r.2 F,j,F.binds λa b c d e g m h=>al h (r.1 a b c d e g)⟩
theorem dI.go (X:K.In h)(G:h.Ns mainGlobals mg)(l:dI K x st)(r:qW P w K mg base k x x st ps sp):aA P w K mg base x k ps sp:=by
 obtain⟨f,a,l⟩:=l
 obtain⟨fd,o,c,b⟩:=l.go r
 exact⟨f,fd,o,Ob X G a,c,b⟩
theorem si.go (l:si K C x q st)(r:qW P w K mg base k x q st ps sp):cn P w K mg base C x k ps sp:=by
 obtain⟨f,a,i,l⟩:=l
 obtain⟨fd,o,c,b⟩:=l.go r
 exact⟨f,fd,o,⟨a,i,c⟩,b⟩
theorem si.init (X:K.In h)(G:h.Ns mainGlobals mg){n:Str}(c:ClG K C n)(l:si K C "__init__" q st)(r:qW P w K mg base k "__init__" q st ps sp):g6 P w K mg base C n k ps sp:=by
 obtain⟨f,a,i,l⟩:=l
 obtain⟨fd,o,d,b⟩:=l.go r
 exact⟨f,fd,o,⟨c.mi,a,i,c.kc⟩,Ob X G c.n,b⟩
theorem dI.law (X:K.In h)(G:h.Ns mainGlobals mg)(l:dI K x st)(g:mg x=some (.ref f)):∃fd,Gu K x x st f fd/\∃kV e b j d ct,fd=Mh x x (cq st) (bP st) (aM st) .none kV e b j d ct:=by
 obtain⟨f,a,_,_,_,_,_,_,_,_,_,l,c,k⟩:=l
 cases g.symm.trans (Ob X G a)
 exact⟨_,vA l c k,_,_,_,_,_,_,rfl⟩
theorem AV {sp:Nat->Sp}(X:K.In h)(G:h.Ns mainGlobals mg)(l:dI K x st)(b:Bd x x st ps)(h0:∀vs H Q E,¬sp 0 vs H Q E)(r:∀{n},aA P w K mg base x n ps (sp n)->qW P w K mg base (n+1) x x st ps (sp (n+1))):∀n,aA P w K mg base x n ps (sp n)
 |0=>dI.go X G l ⟨b,λ_=>⟨λvs H Q E h=>(h0 _ _ _ _ h).elim,λA o s H a c vs Q E _ _ _ _ h=>(h0 _ _ _ _ h).elim⟩⟩
 |n+1=>dI.go X G l (r (AV X G l b h0 r n))
end
section
variable {x:Str} {pos pos' p:Pos} {e a b tg iter elt:Expr} {es ifs:List Expr} {te ta tb:TE} {t:TA} {r:R2} {k j:Nat} {ps:List Str} {sp:Sp} {id:String} {rl:List V->Hp->VK->Prop} {wi:TI} {g:TG} {ts:TS} {tt:TT} {body:List Stmt} {scope:Scope}
def ns:Expr->Bool
 | .Starred .. =>false
 |_=>true
theorem sV(h:ns e=true):starEach (e::es) env=(false,eval e env)::starEach es env:=by
 cases e<;>first|rfl|cases h
theorem Hn(h:es.all ns=true):(backTo pos (starEach es env)).any (·.1)=false:=by
 induction es with
 |nil=>rfl
 |cons e l ih=>
  rw[List.all_cons,MD] at h
  rw[sV h.1]
  exact ih h.2
theorem b2(h:(m&&n)=true):m=true/\n=true:=by simpa using h
noncomputable def cb (X:Cx) (x:Str) (es:List Expr):Bool:=decide (X.env.kindOf x=some .globalImplicit)&&(!(x==("__debug__" :Str))&&es.all ns)
theorem DM (h:cb X x es=true):Gl X x/\(x==("__debug__" :Str))=false/\es.all ns=true:=by simpa[cb,Gl] using h
noncomputable def vb (X:Cx) (i:Nat) (x:Str):Bool:=decide (X.N[i]?=some x)&&(!(x==("__debug__" :Str))&&(!(x==("__classdict__" :Str))&&(decide (X.env.scope.names.lookup x=some .local)||(decide (X.env.scope.names.lookup x=some .cell)||decide (X.env.scope.names.lookup x=some .free)))))
theorem aj (i:Nat)(h:vb X i x=true:=by exact Eq.refl true):PE X (.Name x pos) (cR i):=by
 simp only[vb,MD,Bool.or_eq_true,decide_eq_true_eq,Bool.not_eq_true'] at h
 exact G9 h.1 h.2.2.2 h.2.1 h.2.2.1
noncomputable def sb (X:Cx) (i:Nat) (x:Str):Bool:=decide (X.N[i]?=some x)&&((decide (X.env.scope.names.lookup x=some .local)||decide (X.env.scope.names.lookup x=some .cell))&&(X.fn x||decide (X.env.scope.names.lookup x=some .local)))
theorem AB (h:sb X i x=true):X.N[i]?=some x/\IP X.env.scope x/\(X.fn x=true\/X.env.scope.names.lookup x=some .local):=by
 simp only[sb,MD,Bool.or_eq_true,decide_eq_true_eq] at h
 exact h
theorem aT (i:Nat)(a:X.N.Nodup)(h:sb X i x=true:=by exact Eq.refl true):PG X (.Name x pos) (cJ i):=let ⟨hi,hx,hf⟩:=AB h;FD a hi hx hf
theorem cv (i:Nat)(h:(decide X.N.Nodup&&sb X i x)=true:=by exact Eq.refl true):PG X (.Name x pos) (cJ i):=let ⟨n,h⟩:=b2 h;aT i (of_decide_eq_true n) h
theorem bc (i:Nat)(a:X.N.Nodup)(c:PE X e te)(h:sb X i x=true:=by exact Eq.refl true)(b:swapsWith e (some (.Name x pos')) pos.line X.env=pure false:=by rfl):PS X (.Assign [.Name x pos'] e pos) (kO te (cJ i)):=let ⟨hi,hx,hf⟩:=AB h;Hv a hi hx c b hf
theorem aR (f:GV X r)(d:PE X a ta)(c:PE X b tb)(e:xw b:=by exact λ_ _=>rfl):PE X (.Subscript a b pos) (fv r ta tb):=Ji f d c e
theorem aH (C:aA X.prog X.w X.K X.mg X.base x k ps sp)(a:bL j X.A)(b:PA X (e::es) t)(c:k<=j:=by first|decide|exact LL _)(h:cb X x (e::es)=true:=by exact Eq.refl true):PE X (.Call (.Name x p) (e::es) [] pos) (dY sp [] E0 t):=let ⟨g,d,s⟩:=DM h;let ⟨u,v⟩:=b2 s;HU C (a.mono c) g b d (sV u) (Hn v)
theorem br (f:cT X (.builtin id) rl)(b:X.mg x=none)(c:PA X (e::es) t)(a:bootBuiltins x=some (.builtin id):=by decide+kernel)(h:(!(x==("__name__" :Str))&&cb X x (e::es))=true:=by exact Eq.refl true):PE X (.Call (.Name x p) (e::es) [] pos) (nM rl t):=let ⟨n,h⟩:=b2 h;let ⟨g,d,s⟩:=DM h;let ⟨u,v⟩:=b2 s;Dv f g b a c (by simpa using n) d (sV u) (Hn v)
theorem cK(f:cT X (.type T) rl)(b:X.mg x=none)(c:PA X (e::es) t)(a:bootBuiltins x=some (.type T):=by decide+kernel)(h:(!(x==("__name__" :Str))&&cb X x (e::es))=true:=by exact Eq.refl true):PE X (.Call (.Name x p) (e::es) [] pos) (nM rl t):=let ⟨n,h⟩:=b2 h;let ⟨g,d,s⟩:=DM h;let ⟨u,v⟩:=b2 s;yN f g b a c (by simpa using n) d (sV u) (Hn v)
theorem bB(e:gy X (compareOp op) r)(f:PE X a ta)(d:PE X b tb)(c:behindInMarks op b=false:=by exact BX _):PT X (.Compare a [op] [b] pos) (jD (fv r ta tb)):=gI e f d c
theorem q_(e:gy X (compareOp op) r)(f:PE X a ta)(d:PE X b tb)(c:behindInMarks op b=false:=by exact BX _):PE X (.Compare a [op] [b] pos) (fv r ta tb):=lV e f d c
theorem qT (b:X.mg "range" =none)(e:PA X [a] t)(d:Gl X "range" :=by rfl)(c:starEach [a] X.env=[(false,eval a X.env)]:=by rfl):PI X tg (.Call (.Name "range" p) [a] [] pos) (sT t):=yJ d b e c
theorem bM{st:Stmt}(a:PT X c tt)(h:PS X st ts):PS X (.If c [st] [] pos) (mW tt ts mZ):=jc a (aE h) fH
theorem aN {s u:Stmt}{a:TS}(h:PS X s ts)(h':PS X u a):nV X [s,u] (eU ts a):=ai h (aE h')
theorem az (b:PE X a ta)(h:ns a=true:=by exact Eq.refl true):PA X [a] (a8 ta dw):=aw b dj (sV h)
theorem aC (d:PE X a ta)(c:PE X b tb)(h:(ns a&&ns b)=true:=by exact Eq.refl true):PA X [a,b] (a8 ta (a8 tb dw)):=let ⟨h,i⟩:=b2 h;aw d (aw c dj (sV i)) (sV h)
theorem dH (a:PI X tg iter wi)(f:PG X tg g)(c:nV X body ts)(b:PassesOwn (model X.prog X.w) X.A X.env X.xe:=by exact PassesOwn.never)(d:X.calm=true:=by rfl)(e:∀x,foldedSetIterable iter X.env x=pure x:=by intro _;rfl):PS X (.For tg iter body [] pos) (gY wi g ts):=Hj b d a f c e
noncomputable def kb (X:Cx) (scope:Scope) (ys:List Str) (a:List Nat):Bool:=X.calm&&(decide (scope.kind=.function)&&((scope.names.all λy=>y.2 !=.cell)&&((scope.names.all λy=>y.2 !=.local||scope.names.lookup y.1==some .local)&&((scope.names.all λy=>y.2 !=.free||X.env.kindOf y.1==some .cell)&&((ys.all λy=>scope.names.lookup y==some .free)&&decide (a.map (λj=>X.N[j]?)=ys.map some))))))
theorem Gx (ls:List Str){ys:List Str}{ix:List Nat}(h:kb X scope ys ix=true):X.calm=true/\fe X scope ls ys ix:=
 let ⟨a,h⟩:=b2 h;let ⟨b,h⟩:=b2 h;let ⟨c,h⟩:=b2 h;let ⟨d,h⟩:=b2 h;let ⟨e,h⟩:=b2 h;let ⟨f,h⟩:=b2 h
 ⟨a,of_decide_eq_true b,c,d,e,f,of_decide_eq_true h⟩
theorem eI (ls ys:List Str)(a:List Nat)(b:PI X tg iter wi)(h:∀{cl C s H fp},PG (cO X (ls++ys) scope cl C s H fp) tg g)(e:∀{cl C s H fp},PF (cO X (ls++ys) scope cl C s H fp) ifs tt)(f:∀{cl C s H fp},PE (cO X (ls++ys) scope cl C s H fp) elt te)(k:kb X scope ys a=true:=by exact Eq.refl true)(d:∀x,foldedSetIterable iter X.env x=pure x:=by intro _;rfl):PE X (.ListComp elt [⟨tg,iter,ifs,0⟩] scope pos) (K9 wi ls.length a g tt te):=let ⟨c,o⟩:=Gx ls k;Jf c o b (λ_ _ _ _ _=>h) (λ_ _ _ _ _=>e) (λ_ _ _ _ _=>f) d
theorem m9 (i:Nat)(ls ys:List Str)(e:List Nat)(n:X.N.Nodup)(f:PI X tg iter wi)(r:∀{cl C s H fp},PG (cO X (ls++ys) scope cl C s H fp) tg g)(l:∀{cl C s H fp},PF (cO X (ls++ys) scope cl C s H fp) ifs tt)(q:∀{cl C s H fp},PE (cO X (ls++ys) scope cl C s H fp) elt te)(k:kb X scope ys e=true:=by exact Eq.refl true)(h:sb X i x=true:=by exact Eq.refl true)(j:∀x,foldedSetIterable iter X.env x=pure x:=by intro _;rfl)(m:swapsWith (.ListComp elt [⟨tg,iter,ifs,0⟩] scope pos) (some (.Name x p)) pos'.line X.env=pure true:=by rfl):PS X (.Assign [.Name x p] (.ListComp elt [⟨tg,iter,ifs,0⟩] scope pos) pos') (uc wi ls.length e g tt te i):=let ⟨a,b,c⟩:=AB h;let ⟨d,o⟩:=Gx ls k;Aj d n a b o f (λ_ _ _ _ _=>r) (λ_ _ _ _ _=>l) (λ_ _ _ _ _=>q) j m c
end
end L2
namespace TS
open PySem PyProof.Rows
structure SOrd (r:Keyed->Keyed->Bool):Prop where
 asym:∀{x y},r x y=true->r y x=false
 ntr:∀{x y z},r y x=false->r z y=false->r z x=false
noncomputable def Ask (M:Model) (A:Around) (E:Value->Shared->Prop) (s:Shared) (a:SortKind) (S:Keyed->Prop) (r:Keyed->Keyed->Bool):Prop:=
 ∀{st:SortSt} {x y:Keyed} {Q:Option Bool->SortSt->Prop},kindOf st=a->S x->S y->Q (some (r x y)) st->wpS M A E s (lt' x y) Q st
section
variable {M:Model} {κ:SortKind} {S:Keyed->Prop} {r:Keyed->Keyed->Bool}
theorem rK{st:SortSt}{Q:Keyed->SortSt->Prop}(h:arr[i]?=some x)(q:Q x st):wpS M A E s (elem' arr i) Q st:=by
 rw[elem'_eq,h]
 exact MS q
abbrev KN (r:Keyed->Keyed->Bool) (l:List Keyed):Prop:=l.Pairwise λx y=>r y x=false
noncomputable def nF (r:Keyed->Keyed->Bool) (A B l:List Keyed):Prop:=KN r l/\l.Perm (A++B)
structure Hb (S:Keyed->Prop) (r:Keyed->Keyed->Bool) (a b:Array Keyed):Prop where
 Sa:∀x∈a.toList,S x
 Sb:∀x∈b.toList,S x
 sa:KN r a.toList
 sb:KN r b.toList
abbrev H7:=Option (Array Keyed)×Nat×Nat×Array Keyed×Nat×Nat×Nat
end
noncomputable def Sl (r:Keyed->Keyed->Bool) (a:Array Keyed) (d n:Nat):Prop:=∀m b x c,d<=m->m<=b->b<d+n->a[m]?=some x->a[b]?=some c->r c x=false
structure Kp (lo hi:Nat) (a a':Array Keyed):Prop where
 pm:a'.Perm a
 out:∀k,k<lo\/hi<=k->a'[k]?=a[k]?
theorem Kp.size {d c:Nat}{a b:Array Keyed}(h:Kp d c a b):b.size=a.size:=h.pm.size_eq
theorem Kp.wide {f e c d:Nat}{a b:Array Keyed}(h:Kp f e a b)(h1:c<=f)(j:e<=d):Kp c d a b:=⟨h.pm,λk g=>h.out k (by lia)⟩
structure SA (lo hi:Nat) (st st':SortSt):Prop where
 kind:kindOf st'=kindOf st
 pend:pendingOf st'=pendingOf st
 fail:failedOf st'=failedOf st
 arr:Kp lo hi (arrOf st) (arrOf st')
section
variable {M:Model} {κ:SortKind} {S:Keyed->Prop} {r:Keyed->Keyed->Bool}
theorem rr (O:SOrd r)(x:Keyed):r x x=false:=by
 cases q:r x x with
 |false=>rfl
 |true=>rw[O.asym q] at q;cases q
noncomputable def In (S:Keyed->Prop) (a:Array Keyed):Prop:=∀(k:Nat) (x:Keyed),a[k]?=some x->S x
theorem wc (K:Ask M A E s κ S r){st:SortSt}{i j:Nat}{x y:Keyed}{Q:Option Bool->SortSt->Prop}(c:kindOf st=κ)(b:In S (arrOf st))(hx:(arrOf st)[i]?=some x)(a:(arrOf st)[j]?=some y)(q:Q (some (r x y)) st):wpS M A E s (ltAt' i j) Q st:=by
 rw[ltAt'_eq]
 refine Ml (wpS_get (Ml (rK hx (Ml (rK a ?_)))))
 exact K c (b i x hx) (b j y a) q
theorem mx {a:Array Keyed}{i:Nat}(h:i<a.size):∃x,a[i]?=some x:=⟨a[i],getElem?_pos a i h⟩
theorem Eu{st:SortSt}{Q:Unit->SortSt->Prop}(b:j<=(arrOf st).size)(q:∀a,SA i j st a->(∀k,(arrOf a)[k]?=if i<=k/\k<j then (arrOf st)[i+j - 1 - k]? else (arrOf st)[k]?)->Q () a):wpS M A E s (reverseSlice' i j) Q st:=by
 rw[reverseSlice'_eq]
 refine wpS_modify (q _ ⟨rfl,rfl,rfl,mirror_perm _ _ _ _,λk c=>?_⟩ λk=>getElem?_mirror_all b k)
 show(mirror (arrOf st) i j ((j - i)/2))[k]?=_
 rw[getElem?_mirror_all b,if_neg (by lia)]
end
section
variable {M:Model} {κ:SortKind} {S:Keyed->Prop} {r:Keyed->Keyed->Bool}
theorem J2:∀(f n k:Nat),k<=1->minRun' f n k<=n+k:=by
 intro f
 induction f with
 |zero=>intro n k _;first|exact LL _|(show _<=_;lia)
 |succ f ih=>
  intro n k a
  rw[minRun'_succ]
  split
  ·exact LL _
  ·have:=ih (n/2) (max k (n%2)) (by lia)
   lia
theorem B3 (K:Ask M A E s κ S r){st:SortSt}{Q:Option Nat->SortSt->Prop}(f:kindOf st=κ)(g:In S (arrOf st))(h:2<=(arrOf st).size)(up:∀(i:Nat) (x y:Keyed),(arrOf st)[i]?=some x->(arrOf st)[i+1]?=some y->r y x=false)(q:Q (some (arrOf st).size) st):wpS M A E s (countRun' 0 (arrOf st).size) Q st:=by
 rw[countRun'_eq]
 refine Ml (wpS_mono (Oc (I:=λn c b=>b=st/\c=((none:Option (Option Nat)),n)) (Q:=λc b=>b=st/\c=(none,(arrOf st).size)) ?_ ?_ ⟨rfl,rfl⟩) ?_)
 ·rintro n c b h1 j ⟨rfl,rfl⟩
  dsimp only
  obtain⟨x,e⟩:=mx (a:=arrOf b) (i:=0+n) (by lia)
  obtain⟨y,d⟩:=mx (a:=arrOf b) (i:=0+n - 1) (by lia)
  refine Ml (wc K f g e d ?_)
  dsimp only
  rw[up (0+n - 1) y x d (by rw[show 0+n - 1+1=0+n by lia];exact e),if_neg (by simp)]
  exact MS ⟨rfl,rfl⟩
 ·rintro c b ⟨rfl,rfl⟩
  exact⟨rfl,by rw[show max 1 (arrOf b).size=(arrOf b).size by lia]⟩
 ·rintro c b ⟨rfl,rfl⟩
  dsimp only
  rw[if_pos (by simp)]
  exact MS q
theorem B8 (K:Ask M A E s κ S r){st:SortSt}{Q:Option Nat->SortSt->Prop}(w:kindOf st=κ)(C:In S (arrOf st))(D:2<=(arrOf st).size)(u:∀(i:Nat) (x y:Keyed),(arrOf st)[i]?=some x->(arrOf st)[i+1]?=some y->r y x=true)
  (q:∀g,SA 0 (arrOf st).size st g->(∀k,(arrOf g)[k]?=if k<(arrOf st).size then (arrOf st)[(arrOf st).size - 1 - k]? else none)->Q (some (arrOf st).size) g):wpS M A E s (countRun' 0 (arrOf st).size) Q st:=by
 rw[countRun'_eq]
 have f:∀{n},1<=n->n<(arrOf st).size->∀{Q':Option Bool->SortSt->Prop},Q' (some true) st->wpS M A E s (ltAt' (0+n) (0+n - 1)) Q' st:=fun{n} h1 l {Q'} B=>by
  obtain⟨x,p⟩:=mx (a:=arrOf st) (i:=0+n) (by lia)
  obtain⟨y,o⟩:=mx (a:=arrOf st) (i:=0+n - 1) (by lia)
  refine wc K w C p o ?_
  rw[u (0+n - 1) y x o (by rw[show 0+n - 1+1=0+n by lia];exact p)]
  exact B
 refine Ml (wpS_mono (Oc (I:=λn c g=>g=st/\n=1/\c=((none:Option (Option Nat)),1)) (Q:=λc g=>g=st/\c=(none,1)) ?_ ?_ ⟨rfl,rfl,rfl⟩) ?_)
 ·rintro n c g h1 l ⟨rfl,rfl,rfl⟩
  dsimp only
  refine Ml (f h1 l ?_)
  dsimp only
  rw[if_pos rfl]
  exact MS ⟨rfl,rfl⟩
 ·rintro c g ⟨rfl,e,rfl⟩
  lia
 ·rintro c g ⟨rfl,rfl⟩
  dsimp only
  rw[if_neg (by simp;lia),if_neg (by lia)]
  refine Ml (wpS_lift (NF ⟨rfl,?_⟩))
  refine Ml (wpS_mono (Oc (I:=λn c b=>b=g/\c=((none:Option (Option Nat)),n,0)) (Q:=λc b=>b=g/\c=(none,(arrOf g).size,0)) ?_ ?_ ⟨rfl,rfl⟩) ?_)
  ·rintro n c b h1 l ⟨rfl,rfl⟩
   dsimp only
   refine Ml (f (by lia) l ?_)
   dsimp only
   rw[if_pos rfl,if_neg (by lia)]
   exact MS ⟨rfl,rfl⟩
  ·rintro c b ⟨rfl,rfl⟩
   exact⟨rfl,by rw[show max (1+1) (arrOf b).size=(arrOf b).size by lia]⟩
  ·rintro c b ⟨rfl,rfl⟩
   dsimp only
   rw[if_neg (by lia)]
   refine Ml (Eu (by lia) λj m z=>?_)
   refine Ml (wpS_mono (Oc (I:=λn c d=>d=j/\c=((none:Option (Option Nat)),(arrOf b).size)) (Q:=λc d=>d=j/\c=(none,(arrOf b).size)) ?_ (λc d h=>h) ⟨rfl,rfl⟩) ?_)
   ·rintro n c d h1 l _
    lia
   ·rintro c d ⟨rfl,rfl⟩
    dsimp only
    refine MS (q _ ⟨m.kind,m.pend,m.fail,m.arr.wide (LL _) (by lia)⟩ λk=>?_)
    rw[z]
    by_cases c:k<(arrOf b).size
    ·rw[if_pos (by lia),if_pos c,show 0+(0+(arrOf b).size) - 1 - k=(arrOf b).size - 1 - k by lia]
    ·rw[if_neg (by lia),if_neg c]
     exact Oj (by lia)
theorem zz{st:SortSt}{Q:Unit->SortSt->Prop}{P:SortSt->Prop}(h1:1<=(arrOf st).size)(j:pendingOf st= #[])(g:∀{Q':Option Nat->SortSt->Prop},(∀b,pendingOf b= #[]->P b->Q' (some (arrOf st).size) b)->wpS M A E s (countRun' 0 (arrOf st).size) Q' st)
  (q:∀b p,P b->Q () (setPending b p)):wpS M A E s sortRuns' Q st:=by
 rw[sortRuns'_eq]
 refine Ml (wpS_get ?_)
 dsimp only
 refine Ml (wpS_mono (Oc (I:=λx c b=>(x=0/\c=((none:Option Unit),0)/\b=st)\/(c=(none,(arrOf st).size)/\∃a,P a/\b=setPending a #[(0,(arrOf st).size,0)])) (Q:=λc b=>c=(none,(arrOf st).size)/\∃a,P a/\b=setPending a #[(0,(arrOf st).size,0)]) ?_ ?_ (.inl ⟨rfl,rfl,rfl⟩)) ?_)
 ·rintro x c b _ l (⟨rfl,rfl,rfl⟩|⟨rfl,h⟩)
  ·dsimp only
   rw[if_neg (by lia)]
   refine Ml (g λa f d=>?_)
   dsimp only
   rw[if_neg (by have:=J2 (arrOf b).size (arrOf b).size 0 (by decide);lia)]
   refine Ml (wpS_get ?_)
   rw[f]
   dsimp only[Array.back?,Ma]
   refine Ml (wpS_modify (MS (.inr ⟨by rw[Oa],a,d,?_⟩)))
   rw[f];rfl
  ·dsimp only
   rw[if_pos (LL _)]
   exact MS ⟨rfl,h⟩
 ·rintro c b (⟨e,rfl,rfl⟩|h)
  ·lia
  ·exact h
 ·rintro c b ⟨rfl,a,d,rfl⟩
  dsimp only
  refine Ml (wpS_mono (Oc (I:=λ_ c b=>c=((none:Option Unit),())/\b=setPending a #[(0,(arrOf st).size,0)]) (Q:=λc b=>c=(none,())/\b=setPending a #[(0,(arrOf st).size,0)]) ?_ (λ_ _ h=>h) ⟨rfl,rfl⟩) ?_)
  ·rintro x c b _ _ ⟨rfl,rfl⟩
   refine Ml (wpS_get ?_)
   rw[if_pos (by show 1<=1;decide)]
   exact MS ⟨rfl,rfl⟩
  ·rintro c b ⟨rfl,rfl⟩
   dsimp only
   exact MS (q a _ d)
noncomputable def Up (r:Keyed->Keyed->Bool) (a:Array Keyed) (b:Bool):Prop:=∀(i:Nat) (x y:Keyed),a[i]?=some x->a[i+1]?=some y->r y x=b
theorem Gk (O:SOrd r){a:Array Keyed}(up:Up r a false):Sl r a 0 a.size:=by
 intro m c x g _ h1 h2 f b
 obtain⟨d,rfl⟩:∃d,c=m+d:=⟨c - m,by lia⟩
 induction d generalizing g with
 |zero=>rw[show m+0=m from rfl,f] at b;cases b;exact rr O _
 |succ d ih=>
  obtain⟨y,e⟩:=mx (a:=a) (i:=m+d) (by lia)
  exact O.ntr (ih y (by lia) (by lia) e) (up _ _ _ e b)
theorem sort_mono (K:Ask M A E s κ S r)(O:SOrd r){st:SortSt}{Q:Unit->SortSt->Prop}(o:kindOf st=κ)(g:In S (arrOf st))(f:failedOf st=none)(d:pendingOf st= #[])(m:2<=(arrOf st).size)(mono:∃b,Up r (arrOf st) b)
  (q:∀a,failedOf a=none->(arrOf a).Perm (arrOf st)->Sl r (arrOf a) 0 (arrOf st).size->Q () a):wpS M A E s sortRuns' Q st:=by
 obtain⟨b,up⟩:=mono
 refine zz (P:=λa=>failedOf a=none/\(arrOf a).Perm (arrOf st)/\Sl r (arrOf a) 0 (arrOf st).size) (by lia) d (fun{Q'} j=>?_) λa p h=>q _ h.1 h.2.1 h.2.2
 cases b with
 |false=>exact B3 K o g m up (j st d ⟨f,Array.Perm.refl _,Gk O up⟩)
 |true=>
  refine B8 K o g m up λa c u=>j a (c.pend.trans d) ⟨c.fail.trans f,c.arr.pm,?_⟩
  have sz:=c.arr.size
  rw[<-sz]
  refine Gk O λi x y n e=>?_
  have l:=(OC.mp e).1
  rw[u,if_pos (by lia)] at n e
  exact O.asym (up ((arrOf st).size - 1 - (i+1)) y x e (by rw[show(arrOf st).size - 1 - (i+1)+1=(arrOf st).size - 1 - i by lia];exact n))
end
end TS
namespace L2
open PySem PySem.Spec PyProof.Rows
variable {X:Cx} {pins:List (Addr×Obj)} {σ:St} {H:Hp} {s:Shared} {prog:Program} {w:World} {A:Around} {E:Value->Shared->Prop} {K:LO} {mg:Str->Option Value} {base:Heap}
def nN (cs:List (List Int)):Prop:=∃b,∀i c d,cs[i]?=some c->cs[i+1]?=some d->HT.lexLt d c=b
noncomputable def qY (f:Value->List Int) (x y:Keyed):Bool:=HT.lexLt (f x.1) (f y.1)
theorem z_ (f:Value->List Int):TS.SOrd (qY f) where
 asym:=fun{x y} h=>by
  cases e:qY f y x with
  |false=>rfl
  |true=>
   have:=kl _ _ _ h e
   rw[gL] at this;cases this
 ntr:=fun{x y z} h1 h2=>by
  cases e:qY f z x with
  |false=>rfl
  |true=>
   rcases E6 _ (f y.1) _ e with g|g
   ·exact absurd g (by rw[show HT.lexLt (f z.1) (f y.1)=false from h2];simp)
   ·exact absurd g (by rw[show HT.lexLt (f y.1) (f x.1)=false from h1];simp)
def xF (h:Heap) (f:Value->List Int) (b:Addr):Prop:=∃o xs k,h.get? b=some o/\o.cls=.type "tuple" /\o.data=.seq xs k/\aW ((f (.ref b)).map V.int) xs.toList/\f (.ref b)≠[]
theorem rA{f:Value->List Int}:∀(as:List Addr),(∀b∈as,xF h f b)->∃fs:List Value,PySem.W.KatTups h (as.map Value.ref) fs/\fs.length=as.length/\∀v∈fs,∃i t,v=Value.int i t
 |[],_=>⟨[],PySem.W.KatTups.nil,rfl,λ_ h=>nomatch h⟩
 |b::as,ht=>by
  obtain⟨fs,h1,h2,p⟩:=rA as λc m=>ht c (LZ _ m)
  obtain⟨o,xs,k,g,n,j,a,s⟩:=ht b LX
  cases hf:f (.ref b) with
  |nil=>exact absurd hf s
  |cons i r=>
   rw[hf,L1] at a
   generalize d:xs.toList=l at a
   cases a with
   |cons q rv=>
    obtain⟨e,rfl⟩:=q
    refine⟨.int i e::fs,PySem.W.KatTups.cons g n j ?_ h1,by simp[h2],λv hv=>?_⟩
    ·rw[<-ND,d];rfl
    ·rcases LS.mp hv with rfl|hv
     ·exact⟨i,e,rfl⟩
     ·exact p v hv
theorem D6 {f:Value->List Int}{b:Bool}{as:List Addr}(l:∀c∈as,xF s.heap f c):TS.Ask (model prog w) A E s (tuples' b) (λx=>x.1=x.2/\∃c∈as,x.1=.ref c) (qY f):=by
 rintro st ⟨x,B⟩ ⟨y,D⟩ Q z ⟨_,c,u,ex⟩ ⟨_,d,hd,p⟩ q
 cases ex
 cases p
 obtain⟨G,h,C,m,_,n,a,_⟩:=l c u
 obtain⟨F,g,H,o,_,r,e,_⟩:=l d hd
 rw[lt'_eq]
 refine Ml (wpS_get ?_)
 rw[z]
 refine Ml (wpS_lift (MZ (PySem.W.kat_lt m n o r ?_)))
 have l1:=a.length
 have j:=e.length
 rw[LK] at l1 j
 exact kT _ _ _ _ 0 a e (by rw[l1,j];simp) ⟨rfl,MS q⟩
def J6 (x:Keyed):Addr:=match x.1 with
 | .ref b=>b
 |_=>0
def HL (b:Addr):Keyed:=(.ref b,.ref b)
theorem Af(h:l.Perm (as.map HL)):∃bs:List Addr,bs.Perm as/\l=bs.map HL:=by
 refine⟨l.map J6,?_,?_⟩
 ·have:=h.map J6
  rw[LV] at this
  have e:as.map (J6∘HL)=as:=by
   have:(J6∘HL)=id:=rfl
   rw[this,NU]
  rwa [e] at this
 ·rw[LV]
  have:∀x∈l,(HL∘J6) x=x:=λx a=>by
   obtain⟨b,_,rfl⟩:=LN.mp (h.mem_iff.mp a)
   rfl
  rw[My this]
  simp
theorem Fg {P:PySem.Fin->Shared->Prop}{f:Value->List Int}(Z:s.heap.get? a=some (seqObj "list" (as.map Value.ref).toArray n))(hz:as.length<=100000)
  (tp:∀b∈as,b≠a/\xF s.heap f b) (mo:nN (as.map λb=>f (.ref b)))
  (h:∀(bs:List Addr) (e:Nat) (h':Heap),bs.Perm as->bs.Pairwise (λb c=>HT.lexLt (f (.ref c)) (f (.ref b))=false)->(∀b o,b≠a->s.heap.get? b=some o->h'.get? b=some o)->h'.get? a=some (seqObj "list" (bs.map Value.ref).toArray e)->P (.done (.ret .none)) {s with heap:=h'}):
  wpAny (model prog w) A (Builtin.«list.sort» ⟨[.ref a],[]⟩) P E s:=by
 have ha:a<s.heap.objs.size:=LW Z
 have s1:=Heap.SameBut.update s.heap a (Obj.mapSeq λ_=>(#[]:Array Value))
 obtain⟨R,D⟩:∃R,(s.heap.update a (Obj.mapSeq λ_=>(#[]:Array Value))).get? a=some (seqObj "list" #[] R):=⟨_,get?_update_seq Z λ_=> #[]⟩
 have X:(as.map Value.ref).length=as.length:=LK ..
 rw[list_sort_plain]
 refine LJ (listItems_at Z rfl ?_)
 refine LJ (listUpdate_at Z rfl ?_ (by rw[Ma,X,sizeLine_eq];lia) (L0 _))
 refine LJ (seqEpoch_at D rfl ?_)
 refine LJ (wpAny_newTuple ?_ (by show(as.map Value.ref).length<=_;rw[X,sizeLine_eq];lia))
 refine LJ (wpAny_newList ?_ (L0 _))
 refine Ms ?_
 show wpAny (model prog w) A _ P E {s with heap:=((s.heap.update a (Obj.mapSeq λ_=>(#[]:Array Value))).push (seqObj "tuple" (as.map Value.ref).toArray 0)).push (seqObj "list" #[] 0)}
 have m:∀b o,b≠a->s.heap.get? b=some o->(((s.heap.update a (Obj.mapSeq λ_=>(#[]:Array Value))).push (seqObj "tuple" (as.map Value.ref).toArray 0)).push (seqObj "list" #[] 0)).get? b=some o:=λb o M e=>LU _ (LU _ ((s1.2 b M).trans e))
 have l:(((s.heap.update a (Obj.mapSeq λ_=>(#[]:Array Value))).push (seqObj "tuple" (as.map Value.ref).toArray 0)).push (seqObj "list" #[] 0)).get? a=some (seqObj "list" #[] R):=LU _ (LU _ D)
 revert m l
 generalize ((s.heap.update a (Obj.mapSeq λ_=>(#[]:Array Value))).push (seqObj "tuple" (as.map Value.ref).toArray 0)).push (seqObj "list" #[] 0)=N
 intro m l
 dsimp only
 have U:((as.map Value.ref).toArray.zip (as.map Value.ref).toArray).toList=as.map HL:=by
  rw[Array.toList_zip]
  show(as.map Value.ref).zip (as.map Value.ref)=_
  rw[List.zip_map',]
  rfl
 by_cases hn1:as.length<2
 ·have q:(as.map Value.ref).toArray.size<2:=by rw[Ma,X];exact hn1
  rw[if_pos q,if_pos q]
  refine LJ (LM ?_)
  rw[StateT.run_pure]
  refine LJ (LM ?_)
  dsimp only
  have p:((as.map Value.ref).toArray.zip (as.map Value.ref).toArray).map (·.2)=(as.map Value.ref).toArray:=by
   apply Array.toList_inj.mp
   rw[Array.toList_map,U,LV]
   rfl
  rw[p]
  have s2:=Heap.SameBut.update N a (Obj.mapSeq λ_=>(as.map Value.ref).toArray)
  obtain⟨O,u⟩:∃O,(N.update a (Obj.mapSeq λ_=>(as.map Value.ref).toArray)).get? a=some (seqObj "list" (as.map Value.ref).toArray O):=⟨_,get?_update_seq l λ_=>(as.map Value.ref).toArray⟩
  refine LJ (seqEpoch_at l rfl ?_)
  refine LJ (listUpdate_at l rfl ?_ (L0 _) (by rw[Ma,X,sizeLine_eq];lia))
  simp only[bne_self_eq_false,Bool.false_eq_true,if_false]
  refine LM (h as O _ (List.Perm.refl _) ?_ (λb o M e=>(s2.2 b M).trans (m b o M e)) u)
  exact OE.mpr λi j hi hj S=>by lia
 have h2:2<=as.length:=by lia
 have z:¬(as.map Value.ref).toArray.size<2:=by rw[Ma,X];lia
 rw[if_neg z,if_neg z]
 have C:∀b∈as,xF N f b:=λb M=>by
  obtain⟨nb,o,xs,k,R,r⟩:=tp b M
  exact⟨o,xs,k,m b o nb R,r⟩
 obtain⟨fs,kt,I,H⟩:=rA as C
 refine LJ (PySem.W.kat_kind (s:={s with heap:=N}) (T:=.type "int") kt (by lia) (λv hv=>?_) rfl ?_)
 ·obtain⟨i,t,rfl⟩:=H v hv
  exact .now
 have K:TS.Ask (model prog w) A E {s with heap:=N} (tuples' (Value.type "int" !=Value.type "tuple")) (λx=>x.1=x.2/\∃c∈as,x.1=.ref c) (qY f):=D6 (s:={s with heap:=N}) C
 have zs:((as.map Value.ref).toArray.zip (as.map Value.ref).toArray).size=as.length:=by rw[<-Mt,U,LK]
 have G:TS.In (λx=>x.1=x.2/\∃c∈as,x.1=.ref c) ((as.map Value.ref).toArray.zip (as.map Value.ref).toArray):=λk x Y=>by
  rw[<-ND,U] at Y
  obtain⟨b,M,rfl⟩:=LN.mp (L9 Y)
  exact⟨rfl,b,M,rfl⟩
 have up:∃b,TS.Up (qY f) ((as.map Value.ref).toArray.zip (as.map Value.ref).toArray) b:=by
  obtain⟨b,up⟩:=mo
  refine⟨b,λi x y Y hy=>?_⟩
  rw[<-ND,U,L7] at Y hy
  obtain⟨c,hc,rfl⟩:=MY.mp Y
  obtain⟨d,hd,rfl⟩:=MY.mp hy
  exact up i _ _ (by rw[L7,hc];rfl) (by rw[L7,hd];rfl)
 have F:=TS.sort_mono K (z_ f) (st:=SortSt.mk' (tuples' (Value.type "int" !=Value.type "tuple")) ((as.map Value.ref).toArray.zip (as.map Value.ref).toArray) #[] 7 none) (Q:=λ_ J=>failedOf J=none/\(arrOf J).Perm ((as.map Value.ref).toArray.zip (as.map Value.ref).toArray)/\TS.Sl (qY f) (arrOf J) 0 as.length) rfl G rfl rfl (by show 2<=((as.map Value.ref).toArray.zip (as.map Value.ref).toArray).size;rw[zs];lia) up (λJ b1 b2 b3=>⟨b1,b2,by have b3:TS.Sl (qY f) (arrOf J) 0 ((as.map Value.ref).toArray.zip (as.map Value.ref).toArray).size:=b3;rwa [zs] at b3⟩)
 refine LJ (Mp F ?_ λ_ _ e=>e)
 rintro⟨⟨⟩,J⟩ s' ⟨rfl,hf,pm,sl⟩
 dsimp only
 have B:=Array.perm_iff_toList_perm.mp pm
 rw[U] at B
 obtain⟨bs,pb,eb⟩:=Af B
 have p:(arrOf J).map (·.2)=(bs.map Value.ref).toArray:=by
  apply Array.toList_inj.mp
  rw[Array.toList_map,eb,LV]
  rfl
 have lb:bs.length=as.length:=pb.length_eq
 rw[p]
 have s2:=Heap.SameBut.update N a (Obj.mapSeq λ_=>(bs.map Value.ref).toArray)
 obtain⟨O,u⟩:∃O,(N.update a (Obj.mapSeq λ_=>(bs.map Value.ref).toArray)).get? a=some (seqObj "list" (bs.map Value.ref).toArray O):=⟨_,get?_update_seq l λ_=>(bs.map Value.ref).toArray⟩
 refine LJ (seqEpoch_at l rfl ?_)
 refine LJ (listUpdate_at l rfl ?_ (L0 _) (by rw[Ma,LK,lb,sizeLine_eq];lia))
 rw[hf]
 simp only[bne_self_eq_false,Bool.false_eq_true,if_false]
 refine LM (h bs O _ pb ?_ (λb o M e=>(s2.2 b M).trans (m b o M e)) u)
 refine OE.mpr λi j hi hj S=>?_
 have g:∀(k:Nat) (hk:k<bs.length),(arrOf J)[k]?=some (HL bs[k]):=λk hk=>by
  rw[<-ND,eb,L7,Mi hk];rfl
 exact sl i j _ _ (L0 _) (Nq S) (by lia) (g i hi) (g j hj)
noncomputable def FL (as:List Addr) (cs:List (List Int)) (v:Value):List Int:=match v with
 | .ref a=>((as.zip cs).lookup a).getD []
 |_=>[]
theorem C5{cs:List (List Int)}(f:aX H as cs):∀b∈as,H b=some (.tup ((FL as cs (.ref b)).map V.int))/\FL as cs (.ref b)∈cs:=λb d=>by
 unfold FL
 have key:∀{as:List Addr} {cs:List (List Int)},aX H as cs->b∈as->∃c,(as.zip cs).lookup b=some c/\H b=some (.tup (c.map V.int))/\c∈cs:=by
  intro as cs f
  induction f with
  |nil=>intro h;cases h
  | @cons a c as cs h t ih=>
   intro d
   rw[List.zip_cons_cons,Mw]
   by_cases e:b=a
   ·subst e
    exact⟨c,by simp,h,LX⟩
   ·have:(b==a)=false:=by simpa using e
    rw[this]
    rcases LS.mp d with z|z
    ·exact absurd z e
    ·obtain⟨j,h1,h2,g⟩:=ih z
     exact⟨j,h1,h2,LZ _ g⟩
 obtain⟨c,h1,h2,g⟩:=key f d
 dsimp only
 rw[h1]
 exact⟨h2,g⟩
theorem xk{cs:List (List Int)}(l:aX H as cs):as.map (λb=>FL as cs (.ref b))=cs:=by
 have d:=C5 l
 generalize FL as cs=g at d
 induction l with
 |nil=>rfl
 | @cons a c as cs h t ih=>
  have e:=(d a LX).1
  rw[h] at e
  have:c=g (.ref a):=fq (by injection e with e;injection e)
  rw[L1,<-this]
  congr 1
  refine ih λb j=>⟨(d b (LZ _ j)).1,?_⟩
  have f:=(d b (LZ _ j)).1
  obtain⟨i,hi⟩:=List.mem_iff_getElem?.mp j
  obtain⟨o,n,m⟩:=aX.at t hi
  rw[m] at f
  have:o=g (.ref b):=fq (by injection f with f;injection f)
  rw[<-this]
  exact L9 n
theorem Dk {g:Value->List Int}:∀{bs:List Addr},(∀b∈bs,H b=some (.tup ((g (.ref b)).map V.int)))->aX H bs (bs.map λb=>g (.ref b))
 |[],_=> .nil
 |b::bs,h=> .cons (h b LX) (Dk λc a=>h c (LZ _ a))
theorem eQ (a2:X.calm=true):cT X (.builtin "sorted") (λxs H Q=>∃(p:Addr) (kvs:List (List cS×V)) (cs:List (List Int)),xs=[.ref p]/\H p=some (.dT kvs)/\kvs.map (·.1)=cs.map (λc=>c.map Sum.inl)/\(∀c∈cs,c≠[])/\cs.length<=1000/\nN cs/\
  ∀l bs ds,H l=none->aX H bs ds->ds.Perm cs->ds.Pairwise (λc d=>HT.lexLt d c=false)->Q (.ref l) (upd H l (.lst (bs.map V.ref)))):=by
 intro pins s σ H xs us Q I r h
 obtain⟨p,kvs,cs,rfl,e,hk,W,J,mo,q⟩:=h
 obtain⟨u,rfl,rx⟩:=dF r
 cases rx
 obtain⟨o,I1,Y⟩:=I.freeze e trivial
 obtain⟨hS,E,hc,es,ep,U,hz,B⟩:=iB I1.hok ae trivial
 have G:kvs.length=cs.length:=by have:=congrArg List.length hk;simpa using this
 have A:es.size=cs.length:=by rw[<-G];exact hz
 obtain⟨m,hm,_⟩:=id I.loc
 refine PySem.W.kdu_sorted (CV hS) (I.ok.hd a2) (Att.fr_all hm) mG ⟨o,E,hc,U⟩ (by rw[A,sizeLine_eq];lia) λD h' tk vs F' N' hD ab hP=>?_
 obtain⟨as,rfl,ht⟩:∃as:List Addr,vs=as.map Value.ref/\aX H as cs:=by
  refine w8 (by rw[ab,A]) λi v c hv ap=>?_
  obtain⟨hi,rfl⟩:=hP i v hv
  obtain⟨x,y,K,r1,r2⟩:=B i hi
  obtain⟨kk,a,h1,h2,h3⟩:=K
  have h4:(kvs.map (·.1))[i]?=some kk:=by rw[L7,h1];rfl
  rw[hk,L7,ap] at h4
  have h5:=Option.some.inj h4
  subst h2
  refine⟨a,r1,?_⟩
  have R:a≠p:=λz=>by rw[z,ae] at h3;cases h3
  rw[ak R,<-h5,gK] at h3
  exact h3
 have S:as.length=cs.length:=Paired.length ht
 have k0:∀b u,b≠X.env.locals->s.heap.get? b=some u->h'.get? b=some u:=λb u Z e=>(N' (b,u) (LZ _ (gb Z (Att.noObjs_get _ _) e))).1
 have nD:=N' (D,_) LX
 have j:s.heap.get? D=none:=by
  cases e:s.heap.get? D with
  |none=>rfl
  |some u=>exact absurd (hD (D,u) (gb nD.2.1 (Att.noObjs_get _ _) e)) (ML _)
 have fa:=C5 ht
 refine Mu PyProof.Rows.slot_list_sort ⟨_,nD.1,rfl⟩ PyProof.Rows.entry_list_sort (Fg (s:={s with heap:=h',toks:=tk}) (as:=as) (f:=FL as cs) nD.1 (by lia) (λb Z=>?_) (by rw[xk ht];exact mo) λbs e1 h2 pb pw kp an=>?_) (PyProof.Rows.args_list_sort _)
 ·have g:=(fa b Z).1
  have C:b≠X.env.locals:=λz=>by rw[z,I.free] at g;cases g
  obtain⟨_,N,rv,ob,w,T,n,P⟩:=(show bV X.prog X.w H s.heap b (.tup ((FL as cs (.ref b)).map V.int)) from I.hok b _ g)
  have O:b≠D:=λz=>by rw[z,j] at w;cases w
  refine⟨O,ob,N.toArray,n,k0 b ob C w,T,P,by simpa using rv,W _ (fa b Z).2⟩
 ·refine⟨_,rfl,?_⟩
  have I':aJ X pins σ (upd H D (.lst (bs.map V.ref))) {s with heap:=h2,toks:=tk}:=by
   refine I.laidN (λb u Z e=>?_) (λm' a0=>?_) j ?_
   ·exact kp b u (λz=>by rw[z,j] at e;cases e) (k0 b u Z e)
   ·have:m'=m:=uo a0 hm
    rw[this]
    obtain⟨oL,M,F,e',r'⟩:=F'.ns
    exact⟨oL,M,F,kp _ _ nD.2.1.symm e',r'⟩
   ·refine⟨?_,_,_,jG _,an⟩
    rw[LK,pb.length_eq,S]
    exact LR J (by decide)
  have tb:∀b∈bs,H b=some (.tup ((FL as cs (.ref b)).map V.int)):=λb Z=>(fa b (pb.mem_iff.mp Z)).1
  refine⟨.ref D,_,I',rfl,q D bs _ (I.hok.none_of j) (Dk tb) ?_ ?_⟩
  ·have:=pb.map λb=>FL as cs (.ref b)
   rwa [xk ht] at this
  ·exact Mr.mpr pw
def Ap (K:LO):R2:=λx y H Q=>∃(w:Str) (p:Addr) (a:List Str),x=.str w/\y=.ref p/\aF K H p (a.map V.str)/\Q (.bl (!decide (w∈a))) H
theorem vZ:∀{xs:List Str} {a:List Value},aW (xs.map V.str) a->a.any (DR y)=decide (y∈xs)
 |[],_,.nil=>rfl
 |x::xs,_,.cons ⟨t,e⟩ r=>by
  subst e
  rw[MX,vZ r]
  show(decide (x=y)||_)=_
  by_cases h:x=y
  ·subst h;simp
  ·have:¬y=x:=λz=>h z.symm
   simp[h,this]
theorem Fo:gy X (compareOp .NotIn) (Ap X.K):=by
 intro pins s σ H x y v u Q I e f h
 obtain⟨w,p,j,rfl,rfl,c,q⟩:=h
 obtain⟨t,rfl⟩:=e
 cases f
 obtain⟨a,b,d,g⟩:=I.list c
 refine SeqAt.notIn_listAt (DR w) d.isList (vd b) ⟨.bl _,H,I,rfl,?_⟩
 rw[show a.toArray.any (DR w)=a.any (DR w) by simp,vZ b]
 exact q
theorem AJ (e:X.K=K):gy X (compareOp .NotIn) (Ap K):=by subst e;exact Fo
theorem ED {b a:TE}{w:Str}{p:Addr}{ws:List Str}(d:Ev b σ H (.str w))(c:Ev a σ H (.ref p))(h:aF K H p (ws.map V.str)):Ev (fv (Ap K) b a) σ H (.bl (!decide (w∈ws))):=λ_ q=>d _ (c _ ⟨w,p,ws,rfl,rfl,h,q⟩)
section
variable {e ke:Expr} {te tke:TE} {lo:Option Expr} {tl:TO} {pos p2:Pos}
def JL (K:LO) (te:TE) (tl tk:TO):TE:=λσ H Q=>te σ H λx H1=>tl σ H1 λ_ H2=>tk σ H2 λk H3=>k≠some 0/\∃a xs,x=.ref a/\aF K H3 a xs/\∀p ys,H3 p=none->(∀y∈ys,y∈xs)->ys.length<=xs.length->Q (.ref p) (upd H3 p (.lst ys))
theorem tm(r:aW xs us):∀(a:List Value),(∀w∈a,w∈us)->∃ys,aW ys a/\∀y∈ys,y∈xs
 |[],_=>⟨[],.nil,λ_ h=>nomatch h⟩
 |w::a,h=>by
  obtain⟨ys,h1,h2⟩:=tm r a λv c=>h v (LZ _ c)
  obtain⟨x,d,b⟩:=kq r (h w LX)
  refine⟨x::ys,.cons b h1,λy hy=>?_⟩
  rcases LS.mp hy with rfl|hy
  ·exact d
  ·exact h2 y hy
theorem BH (its:List Value)(c a st:Option Int):∀w∈(slicePick its.toArray c a st).toList,w∈its:=λw b=>by
 unfold slicePick at b
 rw[List.toList_toArray] at b
 obtain⟨i,_,a⟩:=MF.mp b
 rw[Ov] at a
 exact L9 a
theorem Ak (z:X.K=K)(U:PE X e te)(R:PO X lo tl)(F:PE X ke tke):PE X (.Subscript e (.Slice lo none (some ke) p2) pos) (JL K te tl (ij tke)):=by
 subst z
 have P:=bT F
 intro pins s σ H Q I h
 refine Subscript_ (cy (U pins s σ H _ I h) λv M m=>?_)
 obtain⟨x,H1,I1,r1,J⟩:=m
 refine wpAny_Slice (cy (R pins M σ H1 _ I1 J) λg C m=>?_)
 obtain⟨l,H2,I2,G,O⟩:=m
 rw[evalPart_none]
 refine LM (cy (P pins C σ H2 _ I2 O) λvu f m=>?_)
 obtain⟨u,H3,I3,D,A,E⟩:=m
 have j:aJ X pins σ H3 {f with heap:=f.heap.push {cls:=.type "slice",data:=.fields #[g,.none,vu]}}:=I3.kept (t':=f.toks) λb S q=>LU _ q
 obtain⟨a,xs,rfl,N,q⟩:=E
 cases r1
 have n:Heap.IsSliceOf (f.heap.push {cls:=.type "slice",data:=.fields #[g,.none,vu]}) f.heap.objs.size g .none vu:=Heap.IsSliceOf.new ..
 revert j n
 generalize p:({f with heap:=f.heap.push {cls:=.type "slice",data:=.fields #[g,.none,vu]}}:Shared)=s4
 intro j n
 rw[show f.heap.push {cls:=.type "slice",data:=.fields #[g,.none,vu]}=s4.heap by rw[<-p]] at n
 obtain⟨c,r,y,W⟩:=j.list N
 have d:=r.length
 refine tail_any (ops:=[.ref a,.ref f.heap.objs.size]) y.isList.typeIs slot_list_getitem.lookup ?_ (by with_unfolding_all rfl)
 refine wpAny_getItem_list_slice y.isList n G .none D A ?_ (by rw[Ma]<;>lia)
 obtain⟨ys,w,T⟩:=tm r _ (BH c l none u)
 have B:ys.length<=xs.length:=by
  have:=slicePick_size_le c.toArray l none u
  rw[w.length,d,Mt]
  simpa using this
 refine⟨.ref s4.heap.objs.size,_,j.laid (t':=s4.toks) (o:=.lst ys) (λb S q=>LU _ q) (LL _) ?_,rfl,q _ ys (j.hok.fresh (LL _)) T B⟩
 exact⟨by lia,_,0,w,L4 _ rfl⟩
end
section
variable {d e:Expr} {t:TA} {apos cpos p:Pos} {x:Str} {k:Nat}
theorem iw (a:X.K=K)(c:d=.Call (.Attribute (.Constant (.str x) k p) "join" apos) [e] [] cpos)(b:PA X [e] t)(h:(ns e&&(apos.endLine==cpos.line))=true:=by exact Eq.refl true):PE X d (Gc K "str" (λx vs H Q=>∃z p ts,x=.str z/\vs=[.ref p]/\aF K H p (ts.map V.str)/\JoinOk z ts=true/\Q (.str (Txt.join z ts)) H) (tC (.str x)) t):=by
 subst c a
 obtain⟨h,l⟩:=b2 h
 have s:=sV (es:=[]) (env:=X.env) h
 exact dh Om PySem.F.slot_str_join PySem.F.type_str_join Ft aL b rfl (by rw[s];rfl) l s rfl
end
end L2
namespace K17
open PySem L2
abbrev T3:=List Int
def iK (x:T3):List cS:=x.map Sum.inl
theorem kg(h:iK x=iK y):x=y:=by
 have:=congrArg (List.map kV) h
 unfold iK at this
 rw[gK,gK] at this
 exact fq this
theorem j5 {H:Hp}{b:Addr}{x:T3}(h:H b=some (.tup (x.map V.int))):H b=some (.tup ((iK x).map kV)):=by unfold iK;rw[gK];exact h
theorem kJ:∀a b:List Int,HT.lexLt a b=true->HT.lexLt b a=false
 |[],[],h=>by rw[gL] at h;cases h
 |[],_::_,_=>rfl
 |_::_,[],h=>by cases h
 |x::r,y::t,h=>by
  rw[HT.lexLt_cons] at h|-
  by_cases e:x=y
  ·rw[if_pos e] at h;rw[if_pos e.symm];exact kJ r t h
  ·rw[if_neg e] at h;rw[if_neg (L8 e)]
   have:=of_decide_eq_true h
   exact decide_eq_false (by lia)
theorem fD {a:Type} [DecidableEq a]{kvs:List (a×V)}{k:a}:(bX kvs k).isSome=true↔k∈kvs.map (·.1):=by
 rw[<-dB]
 simp[List.any_eq_true]
theorem FG {a:Type} [DecidableEq a]{kvs:List (a×V)}{k:a}{v:V}(h:bX kvs k=some v):(k,v)∈kvs:=by
 unfold bX at h
 obtain⟨p,h1,h2⟩:=MY.mp h
 have c:=List.find?_some h1
 have b:=List.mem_of_find?_eq_some h1
 have:p.1=k:=of_decide_eq_true c
 subst this h2
 exact b
theorem yK {a:Type} [DecidableEq a](kvs:List (a×V))(k:a)(v:V):(c6 kvs k v).map (·.1)=if (bX kvs k).isSome=true then kvs.map (·.1) else kvs.map (·.1)++[k]:=by
 unfold c6
 rw[dB]
 by_cases h:(bX kvs k).isSome=true
 ·rw[if_pos h,if_pos h,LV]
  refine My λp _=>?_
  show(if p.1=k then (p.1,v) else p).1=p.1
  split<;>rfl
 ·rw[if_neg h,if_neg h,LQ];rfl
theorem jx {b:Type}{P:List b->Prop}(h0:P [])(h1:∀xs x,P xs->P (xs++[x]))(l:List b):P l:=by
 have:∀n (xs:List b),xs.length=n->P xs:=by
  intro n
  induction n with
  |zero=>intro xs e;rw[List.length_eq_zero_iff.mp e];exact h0
  |succ n ih=>
   intro xs e
   have a:xs≠[]:=λz=>by rw[z] at e;simp at e
   rw[(List.dropLast_concat_getLast a).symm]
   exact h1 _ _ (ih _ (by simp[e]))
 exact this _ l rfl
theorem bK(s:ah H0 H')(a:H0 D=none):ah H0 (upd H' D y):=λb u e=>by
 rw[ak (ax e a)];exact s _ _ e
section
variable {tc:TT} {t u:TS} {te ta tb td ty:TE} {D:fX} {σ:St} {H:Hp} {a d:Addr} {y v:V} {o:Option V} {K:LO}
theorem cH(h:ic tc σ H b)(e:b=c):ic tc σ H c:=e▸h
theorem aY(h:Ev te σ H v)(e:v=c):Ev te σ H c:=e▸h
theorem ES(b:Ev tv σ H v)(hd:Ev td σ H (.ref a))(c:Ev ty σ H y)(p:lx H a y v H4)(q:u D σ H4):eU (xO td ty tv) u D σ H:=b _ (hd _ (c _ ⟨a,H4,rfl,p,q⟩))
theorem qG(b:Ev tv σ H v)(hd:Ev td σ H (.ref a))(c:Ev ty σ H y)(p:lx H a y v H4)(q:D.nx σ H4):xO td ty tv D σ H:=b _ (hd _ (c _ ⟨a,H4,rfl,p,q⟩))
theorem eP(h:nk tl σ H vs)(hz:vs.length<=sizeLine)(q:∀p,H p=none->Q (.ref p) (upd H p (.tup vs))):nQ tl σ H Q:=h _ ⟨hz,q⟩
theorem dM(h:nk tl σ H vs)(hz:vs.length<=sizeLine)(q:∀p,H p=none->Q (.ref p) (upd H p (.lst vs))):yS tl σ H Q:=h _ ⟨hz,q⟩
theorem zN(h:nk tl σ H vs)(hz:vs.length<=sizeLine)(q:∀p,H p=none->D.rt (.ref p) (upd H p (.tup vs))):Fy (nQ tl) D σ H:=h _ ⟨hz,q⟩
theorem aP(h:nk tl σ H vs)(q:sp vs H Q E0):dY sp [] E0 tl σ H Q:=h _ (by rw[Mb];exact q)
theorem Cn (W:Nat->St->Hp->Prop)(h0:∃m,W m σ H)(d:∀m σ H,W m σ H->∃b,ic tc σ H b/\(b=true->∀N:St->Hp->Prop,(∀c a H',c<m->W c a H'->N a H')->t {D with nx:=N,ct:=N,bk:=u D} σ H)/\(b=false->u D σ H)):
  eU (uW tc t) u D σ H:=C6 (D:={D with nx:=u D}) W h0 d
end
theorem Ew(c:Ev ty σ H y)(b:Ev td σ H (.ref a))(g:jy H a y o):Ev (D1 ty td) σ H (.bl o.isSome):=λ_ q=>c _ (b _ ⟨a,o,rfl,g,q⟩)
theorem dX(h:aX H as cs)(t:aX H bs ds):aX H (as++bs) (cs++ds):=kD h t
theorem oE:∀{as:List Addr} {cs:List T3},aX H as cs->∀m,aX H (as.drop m) (cs.drop m)
 |_,_,.nil,m=>by rw[List.drop_nil,List.drop_nil];exact .nil
 |_,_,.cons h s,0=> .cons h s
 |_,_,.cons h s,m+1=>oE s m
theorem iT:∀{as:List Addr} {cs:List T3},aX H as cs->∀m,aX H (as.take m) (cs.take m)
 |_,_,.nil,m=>by rw[List.take_nil,List.take_nil];exact .nil
 |_,_,.cons h s,0=> .nil
 |_,_,.cons h s,m+1=> .cons h (iT s m)
theorem wk(b:Ev ta σ H x)(a:Ev tb σ H .non):Ev (fv (λx y H Q=>y=.non/\Q (.bl (!decide (x=.non))) H) ta tb) σ H (.bl (!decide (x=.non))):=λ_ z=>b _ (a _ ⟨rfl,z⟩)
theorem qy(h:nk ta σ H [.int j])(h1: -(2^62)<=j)(a:j<2^62)(q:gY (λ_ H R=>R (yw 0 j.toNat) H) g tb {D with nx:=u D} σ H):eU (gY (sT ta) g tb) u D σ H:=h _ ⟨j,rfl,h1,a,q⟩
theorem lX(h:nk ta σ H [.int j])(h1: -(2^62)<=j)(a:j<2^62)(q:gY (λ_ H R=>R (yw 0 j.toNat) H) g tb D σ H):gY (sT ta) g tb D σ H:=h _ ⟨j,rfl,h1,a,q⟩
theorem Er(h:nk ta σ H [.int i,.int j])(h1: -(2^62)<=i/\i<2^62/\ -(2^62)<=j/\j<2^62)(q:gY (λ_ H R=>R (yw i (j - i).toNat) H) g tb {D with nx:=u D} σ H):eU (gY (C9 ta) g tb) u D σ H:=h _ ⟨i,j,rfl,h1,q⟩
theorem FA(h:nk tl σ H vs)(q:sp vs H (λx H1=>∃a,x=.ref a/\(∃xs,aF K H1 a xs)/\gY (λ_ H R=>R (nL K a) H) g tb {D with nx:=u D} σ H1) E0):eU (gY (pk K (dY sp [] E0 tl)) g tb) u D σ H:=h _ (by rw[Mb];exact q)
theorem wm(h:nk tl σ H vs)(q:sp vs H (λx H1=>∃a,x=.ref a/\(∃xs,aF K H1 a xs)/\gY (λ_ H R=>R (nL K a) H) g tb D σ H1) E0):gY (pk K (dY sp [] E0 tl)) g tb D σ H:=h _ (by rw[Mb];exact q)
theorem Ho(h:nk tl σ H vs)(q:∀Q:VK,Q v H->sp vs H Q E0):Ev (dY sp [] E0 tl) σ H v:=λQ z=>h _ (by rw[Mb];exact q Q z)
theorem dW(h:ta σ H λx H1=>tb σ H1 λy H2=>r x y H2 Q):fv r ta tb σ H Q:=h
theorem Eb(q:te σ H λv H1=>D.nx (σ.set n (some v)) H1):kO te (cJ n) D σ H:=q
def Sb (l:Addr) (H a:Hp):Prop:=∀b o,b≠l->H b=some o->a b=some o
theorem Sb.refl (l:Addr)(H:Hp):Sb l H H:=λ_ _ _ h=>h
theorem Sb.trans(a:Sb l H H1)(b:Sb l H1 H2):Sb l H H2:=λc o n h=>b c o n (a c o n h)
theorem Sb.of(s:ah H H'):Sb l H H':=λb o _ h=>s b o h
theorem Sb.set(s:Sb l H H'):Sb l H (upd H' l y):=λb o n h=>by rw[ak n];exact s b o n h
theorem Sb.same(s:Sb l H H')(n:H l=none):ah H H':=λb o h=>s b o (ax h n) h
theorem Sb.tups(s:Sb l H H')(a:H l=some (.lst zs)){bs:List Addr}{cs:List T3}(h:aX H bs cs):aX H' bs cs:=
 Paired.mapP h λb c z=>s b _ (cQ z a (by intro e;cases e)) z
theorem bh {a:Type}{xs:List a}{x:a}(h:xs[i]?=some x):xs.take (i+1)=xs.take i++[x]:=by rw[NH,h];rfl
theorem jH(q:tc σ H λb H1=>if b=true then t D σ H1 else u D σ H1):mW tc t u D σ H:=q
theorem A2(h:ic t σ H a)(h1:a=true->u σ H Q)(b:a=false->Q false H):zj t u σ H Q:=by
 refine h _ ?_
 cases a with
 |true=>exact h1 rfl
 |false=>exact b rfl
theorem IY(h:ic t σ H a)(e:a=false)(q:u σ H Q):Hf t u σ H Q:=by
 subst e
 exact h _ q
theorem Kg(h:ic t σ H false)(q:tb σ H Q):Lh t ta tb σ H Q:=h _ (eF q)
theorem oC(e:H d=some u):ah H (upd (upd H d (.frz o u)) d u):=λb v z=>by
 by_cases hb:b=d
 ·subst hb;rw[ae,<-e,z]
 ·rw[ak hb,ak hb];exact z
theorem IC(h:ic t1 σ H false)(a:ic t2 σ H b):ic (Hf t1 t2) σ H b:=λQ q=>h _ (eF (a _ q))
theorem fh(h:ic tc σ H true):ic (zi tc) σ H false:=λ_ q=>h _ q
theorem bQ{fs:List (Str×V)}(h:Ev ta σ H (.ref p))(e:H p=some (.ins C dx fs))(c:j6 K C)(n:bC K C f)(l:fs.lookup f=some v):Ev (yP K ta f) σ H v:=λ_ q=>h _ ⟨p,C,dx,fs,v,rfl,e,c,n,l,q⟩
theorem eN(c:H p=none)(a:H dx=none):ah H (upd (upd H dx (.own p)) p (.ins C dx [])):=λb o e=>by
 rw[ak (ax e c),ak (ax e a)];exact e
theorem dR {as:List Addr}{i:Nat}{x:V}(h:(as.map V.ref)[i]?=some x):∃a,as[i]?=some a/\x=.ref a:=by
 rw[L7] at h
 obtain⟨a,e,z⟩:=MY.mp h
 exact⟨a,e,z.symm⟩
theorem FZ{cs a:List (List cS×V)}(h:zF H as cs)(g:zF H bs a):zF H (as++bs) (cs++a):=by
 induction h with
 |nil=>exact g
 |cons r _ ih=>exact .cons r ih
theorem zF.mono{cs:List (List cS×V)}(h:zF H as cs)(s:∀b xs,H b=some (.tup xs)->H' b=some (.tup xs)):zF H' as cs:=Paired.mapP h λa c ⟨b,d,e⟩=>⟨b,s _ _ d,s _ _ e⟩
theorem Ht(c:Ev ty σ H y)(b:Ev td σ H (.ref a))(g:jy H a y o):Ev (D1 ty td) σ H (.bl o.isSome):=λ_ q=>c _ (b _ ⟨a,o,rfl,g,q⟩)
def bU (H a:Hp) (p:Addr):Prop:=∀b o,b≠p->H b=some o->a b=some o
theorem bU.same(s:ah H H1)(n:H p=none)(b:bU H1 H2 p):ah H H2:=λa o e=>b a o (ax e n) (s a o e)
theorem bU.st(b:bU H H1 p)(s:ah H1 H2):bU H H2 p:=λa o n e=>s _ _ (b a o n e)
theorem bU.up(b:bU H H1 p):bU H (upd H1 p o) p:=λa u n e=>by rw[ak n];exact b a u n e
theorem bU.of(s:ah H H1):bU H H1 p:=λa o _ e=>s _ _ e
theorem fj(h:aX H as cs):∀{i:Nat} {a:Addr},as[i]?=some a->∃c,cs[i]?=some c/\H a=some (.tup (c.map V.int)):=by
 induction h with
 |nil=>intro i a e;simp at e
 |cons r _ ih=>
  intro i a e
  cases i with
  |zero=>simp at e;subst e;exact⟨_,by simp,r⟩
  |succ i=>simp at e;obtain⟨p,h1,h2⟩:=ih e;exact⟨p,by simpa using h1,h2⟩
theorem bR(h:te σ H D.rt):Fy te D σ H:=h
theorem da(s:ah H H')(n:H' t=none):H t=none:=by
 cases e:H t with
 |none=>rfl
 |some o=>rw[s _ _ e] at n;cases n
section
variable {K:LO} {σ σ0:St} {H H1:Hp} {D a:Addr} {g:TG} {tt:TT} {te t0:TE} {ta:TA} {n:Nat} {ix:List Nat} {as:List Addr} {cs:List T3}
theorem fo(c:H' D=some (.lst zs))(a:H' t=none):∀b xs,H' b=some (.tup xs)->upd (upd H' t o) D (.lst y) b=some (.tup xs):=λb xs e=>by
 rw[ak (cQ e c (λz=>nomatch z)),ak (ax e a)];exact e
theorem gz(a:H' D=some (.lst zs)):∀b xs,H' b=some (.tup xs)->upd H' D (.lst y) b=some (.tup xs):=λb xs e=>by
 rw[ak (cQ e a (λz=>nomatch z))];exact e
theorem cA(h:aX H as cs)(s:∀b xs,H b=some (.tup xs)->H' b=some (.tup xs)):aX H' as cs:=Paired.mapP h λa c e=>s _ _ e
def IU (H:Hp) (q:Addr) (x:T3×Int):Prop:=∃b,H q=some (.tup [.ref b,.int x.2])/\H b=some (.tup (x.1.map V.int))
theorem tP{xs:List (T3×Int)}(h:Paired (IU H) qs xs)(s:∀b ys,H b=some (.tup ys)->H' b=some (.tup ys)):Paired (IU H') qs xs:=Paired.mapP h λ_ _ ⟨b,a,c⟩=>⟨b,s _ _ a,s _ _ c⟩
theorem se(f:T3->Bool)(v:T3->Int)(rest:List (Option V))(w:H1 D=none)(y:∀H',ah H1 H'->aF K H' a (as.map V.ref))(u:aX H1 as cs)(hz:as.length<=1000)
  (z:∀b c H',c∈cs->H1 b=some (.tup (c.map V.int))->ah H1 H'->ic tt (some (.ref b)::rest) H' (f c)/\(f c=true->Ev tv (some (.ref b)::rest) H' (.int (v c))))
  (q:∀H' bs,ah H1 H'->H' D=some (.lst (bs.map V.ref))->Paired (IU H') bs ((cs.filter f).map λc=>(c,v c))->Q H'):tW (none::rest) (cJ 0) tt (nQ (a8 (cR 0) (a8 tv dw))) (nL K a) H1 D Q:=by
 have len:as.length=cs.length:=Paired.length u
 have l:sizeLine=2^24:=rfl
 refine cL (K:=K) (xs:=as.map V.ref) (λi o H'=>∃(p:Option V) (bs:List Addr),o=p::rest/\ah H1 H'/\H' D=some (.lst (bs.map V.ref))/\Paired (IU H') bs (((cs.take i).filter f).map λc=>(c,v c))/\bs.length<=i) ⟨none,[],rfl,(ah.refl H1).upd w,ae,.nil,LL _⟩ (λi o H' _ ⟨_,_,_,s,_⟩=>y _ s) ?_ ?_
 ·rintro i x o H' C ⟨p,bs,rfl,s,m,d,A⟩
  obtain⟨b,r,rfl⟩:=dR C
  obtain⟨c,g,e⟩:=fj u r
  have hi:i<as.length:=(Mo.mp r).1
  obtain⟨B,j⟩:=z b c H' (L9 g) e s
  refine gn (B _ ?_)
  cases hf:f c with
  |true=>
   refine i_ ?_
   refine eP (vs:=[.ref b,.int (v c)]) (af (aa rfl) (af (j hf) ao)) (by show 2<=sizeLine;decide) λt n=>?_
   have h:t≠D:=L8 (ax m n)
   refine⟨bs.map V.ref,by rw[ak (L8 h)];exact m,by rw[LK];lia,_,bs++[t],rfl,bK (s.upd n) w,by rw[ae,LQ];rfl,?_,by rw[LP];show bs.length+1<=_;lia⟩
   rw[bh g,NV,Oy hf,LQ]
   exact kD (tP d (fo m n)) (.cons ⟨b,by rw[ak h,ae],fo m n _ _ (s _ _ e)⟩ .nil)
  |false=>
   refine eF ⟨_,bs,rfl,s,m,?_,by lia⟩
   rw[bh g,NV,Oz (by rw[hf];decide),List.filter_nil,Mb]
   exact d
 ·rintro o H' ⟨p,bs,rfl,s,m,d,A⟩
  rw[LK,len,Mc] at d
  exact q H' bs s m d
theorem Iq(h:nk ta σ H [.int j])(h1: -(2^62)<=j)(a:j<2^62)(q:∀D,H D=none->tW (BS n ix σ) g tt te (yw 0 j.toNat) H D λH'=>u E (σ.set i (some (.ref D))) H'):eU (uc (sT ta) n ix g tt te i) u E σ H:=h _ ⟨j,rfl,h1,a,q⟩
end
theorem E8(q:te σ H λx H1=>g x σ H1 (u D)):eU (kO te g) u D σ H:=q
theorem xK(P:V->Hp->Prop)(h:∀Q:VK,(∀v H1,P v H1->Q v H1)->te σ H Q)(q:∀v H1,P v H1->u D (σ.set n (some v)) H1):eU (kO te (cJ n)) u D σ H:=h _ q
theorem AU(h0:Ev e0 σ H v0)(h1:Ev e1 σ H v1)(a:Ev e2 σ H v2)(q:tr σ H λxs H2=>(v0::v1::v2::xs).length<=sizeLine/\∀p,H2 p=none->Q (.ref p) (upd H2 p (.tup (v0::v1::v2::xs)))):nQ (a8 e0 (a8 e1 (a8 e2 tr))) σ H Q:=h0 _ (h1 _ (a _ q))
theorem jF {kvs:List (List cS×V)}(a:(kvs.map (·.1)).Nodup){p:List cS×V}(h:p∈kvs):bX kvs p.1=some p.2:=by
 induction kvs with
 |nil=>cases h
 |cons q r ih=>
  rw[L1,MG] at a
  rcases LS.mp h with rfl|h
  ·exact dy rfl
  ·rw[dA (λe=>a.1 (e▸LN.mpr ⟨p,h,rfl⟩))]
   exact ih a.2 h
theorem Dt (i j:Int):(if j<i then j else i)=min i j:=by simp only[Int.min_def];split<;>split<;>lia
theorem Gg (i j:Int):(if j>i then j else i)=max i j:=by simp only[Int.max_def];split<;>split<;>omega
theorem xg {b:Type}:∀{l:List b} {i:Nat} {a:b},l.Nodup->l[i]?=some a->a∉l.take i
 |[],_,_,_,h=>by simp at h
 |x::l,0,a,_,_=>by simp
 |x::l,i+1,a,nd,h=>by
  rw[MG] at nd
  have h':l[i]?=some a:=by simpa using h
  rw[List.take_succ_cons,LS]
  rintro(e|m)
  ·exact nd.1 (e▸L9 h')
  ·exact xg nd.2 h' m
noncomputable def dE (i:Nat):Stmt:=PySem.Challenge.pw_wirefloor_k17_whole_board_there_and_back.main.body.getD i (.Pass ⟨0,0,0,0⟩)
abbrev wg:Stmt:=dE 46
abbrev AQ:Stmt:=dE 47
abbrev xV:Stmt:=dE 48
abbrev wV:Stmt:=dE 52
abbrev v9:Stmt:=dE 53
abbrev rh:Stmt:=dE 54
abbrev rq:Stmt:=dE 55
abbrev gM:Stmt:=dS (dE 56) 0
abbrev zS:Stmt:=dS (dE 56) 1
abbrev J5:Stmt:=dS (dE 56) 2
abbrev Bs:Stmt:=dS (dE 56) 3
abbrev AG:Stmt:=dS (dE 56) 4
abbrev vT:Stmt:=dS (dE 56) 5
abbrev Ga:Stmt:=dE 25
abbrev wt:Stmt:=dE 26
abbrev km:Stmt:=dS (dE 27) 0
abbrev eJ:Stmt:=dS (dE 28) 0
abbrev Di:Stmt:=dS (dE 28) 1
abbrev fA:Stmt:=dS (dE 29) 0
abbrev Ce:Stmt:=dS (dE 29) 1
abbrev Gw:Stmt:=dE 58
abbrev Ds:Stmt:=dE 59
abbrev C0:Stmt:=dE 60
abbrev xa:Stmt:=dE 61
abbrev vV:Stmt:=dE 63
abbrev DE:Stmt:=dE 64
abbrev rg:Stmt:=dE 65
abbrev xq:Stmt:=dS (dE 66) 0
abbrev oY:Stmt:=dS (dE 66) 1
abbrev J1:Stmt:=dE 2
abbrev Jj:Stmt:=dE 3
abbrev wy:Stmt:=dE 4
abbrev GB:Stmt:=dE 5
abbrev rp:Stmt:=dE 32
abbrev xH:Stmt:=dE 33
abbrev B9:Stmt:=dE 34
abbrev wY:Stmt:=dE 35
abbrev Dg:Stmt:=dE 36
abbrev sZ:Stmt:=dE 68
abbrev xf:Stmt:=dE 69
abbrev tM:Stmt:=dE 70
abbrev AO:Stmt:=dE 71
abbrev Gj:Stmt:=dE 72
abbrev Ge:Stmt:=dE 73
abbrev Gq:Stmt:=dE 74
abbrev Cf:Stmt:=dE 75
abbrev xl:Stmt:=dE 76
abbrev vY:Stmt:=dE 77
abbrev w6:Stmt:=dE 78
abbrev xn:Stmt:=dE 79
abbrev Gi:Stmt:=dE 80
abbrev Ca:Stmt:=dE 38
abbrev xY:Stmt:=dE 39
abbrev Gb:Stmt:=dE 40
abbrev F5:Stmt:=dE 41
abbrev Bu:Stmt:=dE 42
abbrev CH:Stmt:=dE 43
abbrev sY:Stmt:=dE 44
abbrev Gh:Stmt:=dE 82
abbrev yc:Stmt:=dE 83
abbrev GK:Stmt:=dE 84
abbrev tH:Stmt:=dE 85
abbrev Am:Stmt:=dE 86
abbrev Bc:Stmt:=dE 87
abbrev CU:Stmt:=dE 88
abbrev BZ:Stmt:=dE 89
abbrev BN:Stmt:=dE 90
abbrev tQ:Stmt:=dE 91
abbrev GF:Stmt:=dE 92
abbrev Cb:Stmt:=dE 93
abbrev Gp:Stmt:=dE 94
abbrev CD:Stmt:=dE 95
abbrev AN:Stmt:=dE 96
abbrev IZ:Stmt:=dE 97
structure Txt (K:LO) (mg:Str->Option Value) (cThing cNet cBundle cFloor cBoard cMS:Addr):Prop where
 len_:mg "len" =none
 range_:mg "range" =none
 isinstance_:mg "isinstance" =none
 int_:mg "int" =none
 bool_:mg "bool" =none
 tuple_:mg "tuple" =none
 set_:mg "set" =none
 list_:mg "list" =none
 dict_:mg "dict" =none
 str_:mg "str" =none
 all_:mg "all" =none
 any_:mg "any" =none
 zip_:mg "zip" =none
 min_:mg "min" =none
 max_:mg "max" =none
 abs_:mg "abs" =none
 enumerate_:mg "enumerate" =none
 sorted_:mg "sorted" =none
 ValueError_:mg "ValueError" =none
 reversed_:mg "reversed" =none
 cl_Thing:j6 K cThing
 mg_Thing:mg "Thing" =some (.ref cThing)
 cl_Net:j6 K cNet
 mg_Net:mg "Net" =some (.ref cNet)
 na_Net_name:bC K cNet "name"
 na_Net_half:bC K cNet "half"
 na_Net_room:bC K cNet "room"
 na_Net_pins:bC K cNet "pins"
 cl_Bundle:j6 K cBundle
 mg_Bundle:mg "Bundle" =some (.ref cBundle)
 na_Bundle_name:bC K cBundle "name"
 na_Bundle_half:bC K cBundle "half"
 na_Bundle_room:bC K cBundle "room"
 na_Bundle_starts:bC K cBundle "starts"
 na_Bundle_goals:bC K cBundle "goals"
 cl_Floor:j6 K cFloor
 mg_Floor:mg "Floor" =some (.ref cFloor)
 na_Floor_sizes:bC K cFloor "sizes"
 na_Floor_prices:bC K cFloor "prices"
 na_Floor_vias:bC K cFloor "vias"
 na_Floor_rocks:bC K cFloor "rocks"
 na_Floor_tolls:bC K cFloor "tolls"
 cl_Board:j6 K cBoard
 mg_Board:mg "Board" =some (.ref cBoard)
 na_Board_floor:bC K cBoard "floor"
 na_Board_by_name:bC K cBoard "by_name"
 g_MOST_PRICE:∃u,mg "MOST_PRICE" =some u/\aZ (.int 1000000000000) u
 g_LETTERS:∃u,mg "LETTERS" =some u/\aZ (.str (Str.ofString "abcdefghijklmnopqrstuvwxyz")) u
 g_FIGURES:∃u,mg "FIGURES" =some u/\aZ (.str (Str.ofString "0123456789")) u
 g_MOST_SIGNS:∃u,mg "MOST_SIGNS" =some u/\aZ (.int 12) u
 g_MOST_HALF:∃u,mg "MOST_HALF" =some u/\aZ (.int 2) u
 g_MOST_ROOM:∃u,mg "MOST_ROOM" =some u/\aZ (.int 3) u
 g_MOST_PINS:∃u,mg "MOST_PINS" =some u/\aZ (.int 6) u
 g_MOST_STARTS:∃u,mg "MOST_STARTS" =some u/\aZ (.int 6) u
 g_MOST_GOALS:∃u,mg "MOST_GOALS" =some u/\aZ (.int 12) u
 g_MOST_FIGURES:∃u,mg "MOST_FIGURES" =some u/\aZ (.int 18) u
 g_MOST_SIZES:∃u,mg "MOST_SIZES" =some u/\aZ (.ref cMS) u
 t_MOST_SIZES:∀H:Hp,bW K H cMS [.int 4,.int 16,.int 16]
 kll:Mf K (.type "list") (.type "list")=some true
 ktl:Mf K (.type "tuple") (.type "list")=some false
 ksl:Mf K (.type "str") (.type "list")=some false
 kil:Mf K (.type "int") (.type "list")=some false
 ktt:Mf K (.type "tuple") (.type "tuple")=some true
 kst:Mf K (.type "str") (.type "tuple")=some false
 kit:Mf K (.type "int") (.type "tuple")=some false
 klt:Mf K (.type "list") (.type "tuple")=some false
 kss:Mf K (.type "str") (.type "str")=some true
 kis:Mf K (.type "int") (.type "str")=some false
 kii:Mf K (.type "int") (.type "int")=some true
 kib:Mf K (.type "int") (.type "bool")=some false
 kNN:Mf K (.ref cNet) (.ref cNet)=some true
 kBB:Mf K (.ref cBundle) (.ref cBundle)=some true
 qN:Mq K (.ref cNet) "__class__" =some (some (.builtin "object.__class__"))
 qB:Mq K (.ref cBundle) "__class__" =some (some (.builtin "object.__class__"))
 qg:Oq K (.builtin "object.__class__") "__get__" =some (some (.builtin "getset_descriptor.__get__"))
 qt:PySem.W.takesIn K (.builtin "object.__class__")=some true
 oN:PySem.W.mroIn K cNet (.type "object")=some true
 oB:PySem.W.mroIn K cBundle (.type "object")=some true
 kBN:Mf K (.ref cBundle) (.ref cNet)=some false
theorem ud (xs:List V)(k:Nat)(h:k<=xs.length):fu xs none (some (k:Int))=xs.take k:=by
 unfold fu
 rw[HT.sIx_none,HT.sIx_nat,M9 h,List.drop_zero,Nat.sub_zero]
theorem uy (xs:List V)(k:Nat)(h:k<=xs.length):fu xs (some (k:Int)) none=xs.drop k:=by
 unfold fu
 rw[HT.sIx_none,HT.sIx_nat,M9 h,OF (by rw[List.length_drop];lia)]
theorem lF(h:ta σ H λxs H1=>xs.length<=sizeLine/\∀p,H1 p=none->Q (.ref p) (upd H1 p (.lst xs))):yS ta σ H Q:=h
theorem a_{Q:List V->Hp->Prop}(h:Ev te σ H v)(q:tr σ H λxs H2=>Q (v::xs) H2):a8 te tr σ H Q:=h _ q
theorem fY(h:∀R:VK,(∀v H1,u D (σ.set n (some v)) H1->R v H1)->te σ H R):eU (kO te (cJ n)) u D σ H:=h _ λ_ _ z=>z
theorem jt(h:∀R:St->Hp->Prop,(∀σ H,u D σ H->R σ H)->t {D with nx:=R} σ H):eU t u D σ H:=h _ λ_ _ z=>z
theorem fF {X:St->Hp->Prop}{a σ':St}{H:Hp}(e:a=σ')(h:X σ' H):X a H:=e▸h
theorem cZ(h:Ev te σ H v)(q:Q v H):te σ H Q:=h _ q
theorem aG{Q:List V->Hp->Prop}(h:te σ H λx H1=>tr σ H1 λxs H2=>Q (x::xs) H2):a8 te tr σ H Q:=h
theorem gN(h:ic tc σ H b)(q:Q b H):tc σ H Q:=h _ q
theorem G6(h:Ev to σ H x)(a:IQ K T x H)(q:r x [] H Q):JQ K T r to σ H Q:=h _ ⟨a,q⟩
theorem eo(h:Ev to σ H x)(a:IQ K T x H)(q:ta σ H λxs H2=>r x xs H2 Q):Gc K T r to ta σ H Q:=h _ ⟨a,q⟩
theorem kE(J:St->Hp->Prop)(h:∀R:St->Hp->Prop,(∀σ H,J σ H->R σ H)->t {D with nx:=R} σ H)(k:∀σ H,J σ H->u D σ H):eU t u D σ H:=h _ k
theorem iC(h:nk ta σ H vs)(q:r vs H Q):nM r ta σ H Q:=h _ q
theorem qE(h:te σ H λx H1=>r [x] H1 Q):nM r (a8 te dw) σ H Q:=h
theorem bI(h:ta σ H λvs H1=>sp (vs++[]) H1 Q E0):dY sp [] E0 ta σ H Q:=h
theorem l_(h:te σ H λx H1=>∃a,x=.ref a/\(∃xs,aF K H1 a xs)/\gY (λ_ H R=>R (nL K a) H) g tb {D with nx:=u D} σ H1):eU (gY (pk K te) g tb) u D σ H:=h
theorem pP(a:Ev ta σ H (.str x))(hz:x.length<=sizeLine):Ev (nM (λxs H Q=>∃z:Str,xs=[.str z]/\z.length<=sizeLine/\Q (.int (z.length:Nat)) H) (a8 ta dw)) σ H (.int (x.length:Nat)):=λ_ q=>a _ ⟨x,rfl,hz,q⟩
theorem v8(h:te σ H λx H1=>∃a,x=.ref a/\(∃xs,aF K H1 a xs)/\gY (λ_ H R=>R (nL K a) H) g tb D σ H1):gY (pk K te) g tb D σ H:=h
theorem IL{a:L2.TA}(h:a σ H λvs H1=>sp (vs++[]) H1 (λv H2=>∃b,v=.bl b/\Q b H2) E0):tB (dY sp [] E0 a) σ H Q:=h
theorem Au(b:Ev ta σ H (.ref l))(a:Ev tb σ H (.int i))(c:aF K H l xs)(q:∀p,H p=none->Q (.ref p) (upd H p (.lst (fu xs (some i) none)))):JO (Bi K) ta (ij tb) lI σ H Q:=b _ (a _ ⟨i,rfl,l,_,rfl,c,q⟩)
theorem vK(b:Ev ta σ H (.ref l))(a:Ev tb σ H (.int i))(c:aF K H l xs)(q:∀p,H p=none->Q (.ref p) (upd H p (.lst (fu xs none (some i))))):JO (Bi K) ta lI (ij tb) σ H Q:=b _ (a _ ⟨i,rfl,l,_,rfl,c,q⟩)
theorem rj {a:Type}{l:List a}{f:a->Bool}{x:a}(h:(l.take i).any f=false)(hx:l[i]?=some x)(e:f x=false):(l.take (i+1)).any f=false:=by
 rw[bh hx,List.any_append,h,MX,e];rfl
theorem bO {a:Type}{l:List a}{x:a}(h:l[i]?=some x):i<l.length:=(Mo.mp h).1
theorem iX(h:te σ H λ_ H1=>D.nx σ H1):mO te D σ H:=h
theorem IE(h:te σ H λv H1=>∃b,v=.bl b/\Q b H1):jD te σ H Q:=h
theorem E1 {a:L2.TA}(h:nk a σ H [.int i,.int j])(h1: -(2^62)<=i/\i<2^62/\ -(2^62)<=j/\j<2^62)(q:gY (λ_ H R=>R (yw i (j - i).toNat) H) g tb D σ H):gY (C9 a) g tb D σ H:=h _ ⟨i,j,rfl,h1,q⟩
theorem E9(h:Ev ta σ H (.bl true))(q:tb σ H Q):CP ta tb σ H Q:=h _ ⟨true,rfl,q⟩
theorem JS(h:ic t σ H a)(e:a=false)(q:u σ H Q):Hf t u σ H Q:=IY h e q
theorem fZ(h:te σ H λ_ H1=>u D σ H1):eU (mO te) u D σ H:=h
theorem cI {c d:Type}{R:c->d->Prop}{a:c}{b:d}(r:R a b){as:List c}{bs:List d}(h:Paired R as bs):Paired R (as++[a]) (bs++[b]):=kD h (.cons r .nil)
theorem ba {c d:Type}{R:c->d->Prop}{as:List c}{bs:List d}(h:Paired R as bs){i:Nat}{a:c}(e:as[i]?=some a):∃b,bs[i]?=some b/\R a b:=Ar h e
def dg (n:Nat):List Nat:=(Nat.toDigits 10 n).map Char.toNat
theorem fK(h:n<10):dg n=[48+n]:=by
 exact(show∀n<10,dg n=[48+n] by decide+kernel) n h
theorem jM(h:10<=n):dg n=dg (n/10)++[48+n%10]:=by
 have a:n%10<10:=NJ n (by decide)
 have t:Nat.toDigits 10 (n/10)++Nat.toDigits 10 (n%10)=Nat.toDigits 10 (10*(n/10)+n%10):=Nat.toDigits_append_toDigits (by decide) (by lia) a
 rw[Nat.div_add_mod] at t
 have e:=fK a
 unfold dg at e|-
 rw[<-t,LQ,e]
theorem mL (n:Nat):∀c∈dg n,48<=c/\c<=57:=by
 induction n using Nat.strongRecOn with
 |_ n ih=>
  by_cases h:n<10
  ·rw[fK h];intro c hc;rw[LY.mp hc];lia
  ·rw[jM (by lia)]
   intro c hc
   rcases L_.mp hc with hc|hc
   ·exact ih (n/10) (by lia) c hc
   ·rw[LY.mp hc];lia
theorem Du (n:Nat):dg n≠[]:=by
 by_cases h:n<10
 ·rw[fK h];simp
 ·rw[jM (by lia)];simp
theorem Fb(h:0<n):(dg n)[0]?≠some 48:=by
 induction n using Nat.strongRecOn with
 |_ n ih=>
  by_cases hn:n<10
  ·rw[fK hn];simp;omega
  ·rw[jM (by omega)]
   have b:=Du (n/10)
   cases e:dg (n/10) with
   |nil=>exact absurd e b
   |cons a r=>
    have z:=ih (n/10) (by omega) (by omega)
    rw[e] at z
    simpa using z
theorem cj:∀{k n:Nat},1<=k->n<10^k->(dg n).length<=k
 |0,_,h,_=>absurd h (by decide)
 |k+1,n,_,h=>by
  by_cases hn:n<10
  ·rw[fK hn];simp
  ·rw[jM (by lia),LP]
   have a:1<=k:=by
    rcases On k with z|z
    ·subst z;lia
    ·exact z
   have:=cj (k:=k) (n:=n/10) a (by rw[Nat.pow_succ] at h;lia)
   simp only[L5,List.length_nil];lia
theorem oS:∀{k n:Nat},10^k<=n->k<(dg n).length
 |0,n,_=>by
  have:=Du n
  rcases On (dg n).length with z|z
  ·exact absurd (Ox z) this
  ·exact z
 |k+1,n,h=>by
  have a:10<=n:=by
   have:10^1<=10^(k+1):=Nat.pow_le_pow_right (by decide) (by lia)
   lia
  rw[jM a,LP]
  have:=oS (k:=k) (n:=n/10) (by rw[Nat.pow_succ] at h;lia)
  simp only[L5,List.length_nil];lia
theorem Iw (n:Nat):NumText.digitsVal (dg n)=n:=PySem.W.KIN.val_back n
theorem qQ (n:Nat):cp (toString ((n:Nat):Int))=dg n:=PySem.W.KIN.signs_num n
theorem Hx (x:String):cp (Str.ofString x)=x.toList.map Char.toNat:=PyProof.Rows.signs_ofString x
def HJ (l:List Nat):Prop:=l.length=0\/18<l.length\/(∃c∈l,¬(48<=c/\c<=57))\/(l[0]?=some 48/\1<l.length)
def Az (l:List Nat):Prop:=1<=l.length/\l.length<=18/\(∀c∈l,48<=c/\c<=57)/\(l[0]?=some 48->l.length=1)
theorem DY(h:n<10^18):Az (dg n):=by
 refine⟨?_,cj (by decide) h,mL n,λe=>?_⟩
 ·have:=oS (k:=0) (n:=n)
  rcases On n with z|z
  ·subst z;rw[fK (by decide)];simp
  ·have:=this (by lia);lia
 ·rcases On n with z|z
  ·subst z;rw[fK (by decide)];rfl
  ·exact absurd e (Fb z)
structure Pl (z:Str):Prop where
 as:z.cps.all (· <128)=true
 ln:z.length<=1000
theorem Pl.of(h:∀c∈cp z,c<128)(a:(cp z).length<=1000):Pl z:=⟨by rw[Array.all_eq_true];intro i hi;exact decide_eq_true (h _ (by simp[cp])),by rw[<-cu];exact a⟩
theorem Pl.sz(h:Pl z):z.length<=sizeLine:=LR h.ln (by decide)
def jU:List Nat:=[48,49,50,51,52,53,54,55,56,57]
theorem Cq:cp (Str.ofString "0123456789")=jU:=by decide+kernel
theorem oM:c∈jU↔(48<=c/\c<=57):=by
 rw[show jU=List.range' 48 10 from rfl,List.mem_range'_1];lia
inductive lN (vs:List V) (H:Hp) (Q:VK) (E:XK):Prop
 |mk (w:Str) (_:vs=[.str w]) (_:Pl w) (_:(Az (cp w)/\∀H',ah H H'->Q (.int (NumText.digitsVal (cp w):Nat)) H')\/(HJ (cp w)/\∀H',ah H H'->Q .non H'))
theorem IX {n:Nat}(h:n<10^20):((n:Int)).natAbs.log2<1920:=lg (by lia) (by lia)
noncomputable def nv (l:List Nat):V:= @ite _ (Az l) (Classical.propDecidable _) (.int (NumText.digitsVal l:Nat)) .non
theorem KY:Str.ofString "." =⟨#[46]⟩:=by decide+kernel
theorem IK (n:Nat):46∉dg n:=λh=>by have:=mL n 46 h;omega
theorem F_ (c:Nat):∀P:List (List Nat),(jl c P).length<=(P.map λp=>p.length+1).sum
 |[]=>LL _
 |[p]=>by show p.length<=_;simp
 |p::q::r=>by
  have:=F_ c (q::r)
  rw[dG (by simp),LP,L5,L1,List.sum_cons]
  lia
theorem vx:∀{P:List (List Nat)},d∈jl c P->d=c\/∃p∈P,d∈p
 |[],h=>nomatch h
 |[p],h=> .inr ⟨p,LX,h⟩
 |p::q::r,h=>by
  rw[dG (by simp)] at h
  rcases L_.mp h with h|h
  ·exact .inr ⟨p,LX,h⟩
  ·rcases LS.mp h with h|h
   ·exact .inl h
   ·rcases vx h with h|⟨x,a,hd⟩
    ·exact .inl h
    ·exact .inr ⟨x,LZ _ a,hd⟩
noncomputable def lE (c:Nat):List Nat->List (List Nat)
 |[]=>[[]]
 |a::r=>if a=c then []::lE c r else (a::(lE c r).headD [])::(lE c r).tail
theorem p3 (c:Nat)(l:List Nat):lE c l≠[]:=by
 cases l with
 |nil=>simp[lE]
 |cons a r=>unfold lE;split<;>simp
theorem De (c:Nat):∀l,jl c (lE c l)=l
 |[]=>rfl
 |a::r=>by
  have f:=De c r
  have d:=p3 c r
  unfold lE
  split
  ·rename_i h
   rw[dG d,f,h];rfl
  ·cases e:lE c r with
   |nil=>exact absurd e d
   |cons p q=>
    rw[e] at f
    show jl c ((a::p)::q)=a::r
    rw[<-f]
    cases q with
    |nil=>rfl
    |cons b t=>rfl
theorem sQ (c:Nat):∀l,∀p∈lE c l,c∉p
 |[],p,h=>by rw[LY.mp h];exact Md
 |a::r,p,h=>by
  have b:=sQ c r
  have d:=p3 c r
  unfold lE at h
  split at h
  ·rcases LS.mp h with rfl|h
   ·exact Md
   ·exact b p h
  ·rename_i hac
   cases e:lE c r with
   |nil=>exact absurd e d
   |cons q t=>
    rw[e] at h b
    rcases LS.mp h with rfl|h
    ·intro z
     rcases LS.mp z with z|z
     ·exact hac z.symm
     ·exact b q LX z
    ·exact b p (LZ _ h)
theorem wx (c:Nat)(y:List Nat):∀x,lE c (x++c::y)=lE c x++lE c y
 |[]=>by show lE c (c::y)=_;simp[lE]
 |a::r=>by
  have d:=wx c y r
  have b:=p3 c r
  rw[Og]
  simp only[lE]
  by_cases h:a=c
  ·rw[if_pos h,if_pos h,d];rfl
  ·rw[if_neg h,if_neg h,d]
   cases e:lE c r with
   |nil=>exact absurd e b
   |cons p q=>rfl
theorem mN:∀{x:List Nat},c∉x->lE c x=[x]
 |[],_=>rfl
 |a::r,h=>by
  have b:=mN (x:=r) λz=>h (LZ _ z)
  unfold lE
  rw[if_neg λz=>h (by rw[z];exact LX),b];rfl
theorem sf (x:Str)(c:Nat):(Txt.split x ⟨#[c]⟩).map cp=lE c (cp x):=rC x c (p3 c _) (sQ c _) (De c _).symm
def oq (p:List Nat):Bool:=!p.isEmpty
def wf (x:List Nat):List (List Nat):=(lE 32 x).filter oq
theorem vc:StrLaws.At x ⟨#[c]⟩ x.length i↔(cp x)[i]?=some c:=StrLaws.subAt_one x c i
theorem D4(e:cp x=y++z)(b:c∉y)(hz:z=[]\/z.head?=some c):cp (Txt.partition x ⟨#[c]⟩).1=y:=by
 rcases PyProof.Rows.partition_head x ⟨#[c]⟩ with ⟨h1,h2⟩|⟨i,h1,h2,f⟩
 ·rw[h1,e]
  rcases hz with rfl|hz
  ·simp
  ·refine absurd (vc.mpr ?_) (h2 y.length)
   rw[e,Ny (LL _),Nat.sub_self,<-List.head?_eq_getElem?,hz]
 ·have a:=vc.mp h2
  have h:∀k,k<i->(cp x)[k]?≠some c:=λk g z=>f k g (vc.mpr z)
  have d:i=y.length:=by
   rcases Nat.lt_trichotomy i y.length with hl|hl|hl
   ·rw[e,Of hl] at a
    exact absurd (L9 a) b
   ·exact hl
   ·rcases hz with rfl|hz
    ·rw[e,Mb,NQ (by lia)] at a;cases a
    ·refine absurd ?_ (h y.length hl)
     rw[e,Ny (LL _),Nat.sub_self,<-List.head?_eq_getElem?,hz]
  rw[h1]
  show(x.cps.extract 0 i).toList=y
  rw[Array.toList_extract,d]
  show((cp x).drop 0).take (y.length - 0)=y
  rw[e];simp
theorem nl:Str.ofString "\n" =⟨#[10]⟩:=by decide+kernel
theorem KC:Str.ofString ";" =⟨#[59]⟩:=by decide+kernel
theorem xA:Str.ofString " " =⟨#[32]⟩:=by decide+kernel
theorem CQ:Str.ofString "" =⟨#[]⟩:=by decide+kernel
theorem mX:∀{a b:List Str},a.map cp=b.map cp->a=b
 |[],[],_=>rfl
 |[],_::_,h=>by cases h
 |_::_,[],h=>by cases h
 |x::r,y::t,h=>by
  obtain⟨h1,h2⟩:=List.cons.inj h
  rw[xh h1,mX h2]
theorem Gd {b:Bool}{A B:Prop}(h1:b=true->A)(a:b=false->B):if b=true then A else B:=by
 cases b with
 |true=>rw[if_pos rfl];exact h1 rfl
 |false=>rw[if_neg L6];exact a rfl
theorem vo:∀{P:List (List Nat)},P≠[]->(∀p∈P,c∉p)->lE c (jl c P)=P
 |[],h,_=>absurd rfl h
 |[p],_,hf=>mN (hf p LX)
 |p::q::r,_,hf=>by
  rw[dG (by simp),wx,mN (hf p LX),vo (by simp) λz a=>hf z (LZ _ a)]
  rfl
theorem Kx (c:Nat)(a b:List Nat):jl c [a,b]=a++c::b:=rfl
theorem Ki (c:Nat)(a b d:List Nat):jl c [a,b,d]=a++c::(b++c::d):=rfl
theorem tZ(h:∀t∈ts,t.length<=1000)(hz:z.length<=10)(d:ts.length<=1000):JoinOk z ts=true:=by
 have a:∀(l:List Str) (n:Nat),(∀t∈l,t.length<=1000)->l.foldl (· + ·.length+z.length) n<=n+1010*l.length:=by
  intro l
  induction l with
  |nil=>intro n _;simp
  |cons x r ih=>
   intro n b
   have h1:=b x LX
   have h2:=ih (n+x.length+z.length) λt c=>b t (LZ _ c)
   rw[Mx,L5]
   lia
 unfold JoinOk
 have h1:=a ts 0 h
 rw[List.foldl_toArray]
 generalize ts.foldl (· + ·.length+z.length) 0=n at h1
 have h2:n<=1010000:=by lia
 unfold Builtin.Str.tooLong
 rw[Bool.not_eq_true',decide_eq_false_iff_not,sizeLine_eq]
 lia
theorem fT {a b:Type}{f:a->b}{l:List a}{i:Nat}{y:b}(h:(l.map f)[i]?=some y):∃x,l[i]?=some x/\y=f x:=by
 rw[L7] at h
 cases e:l[i]? with
 |none=>rw[e] at h;cases h
 |some z=>rw[e] at h;exact⟨z,rfl,(Option.some.inj h).symm⟩
theorem xG {H:Hp}{x y:Addr}{o:HO}(hx:H x=some o)(a:H y=none):x≠y:=λz=>by rw[z,a] at hx;cases hx
theorem Ci {H:Hp}{x y:Addr}{o p:HO}(hx:H x=some o)(a:H y=some p)(h:o≠p):x≠y:=λz=>by rw[z,a] at hx;exact h (Option.some.inj hx).symm
theorem rG {A B:Prop}{b:Bool}(h1:b=true->A)(a:b=false->B):if b=true then A else B:=by cases b with|true=>exact i_ (h1 rfl)|false=>exact eF (a rfl)
theorem dJ (h:Ev ta σ H (.ref p))(e:H p=some (.lst xs)):Ev (nM (λxs H Q=>∃x n,xs=[x]/\Cz K x H n/\Q (.int n) H) (a8 ta dw)) σ H (.int (xs.length:Nat)):=de (af h ao) λ_ a=>⟨_,_,rfl,.inl ⟨_,aF.of e,rfl⟩,a⟩
theorem gC (h:Ev ta σ H (.ref a))(e:H a=some (.ins C dx fs))(c:j6 K C)(n:bC K C f)(l:fs.lookup f=some v):Ev (yP K ta f) σ H v:=λ_ q=>h _ ⟨a,C,dx,fs,v,rfl,e,c,n,l,q⟩
theorem r_ {a:Type}{xs:List a}{v:a}:jq (xs++[v]) (-1)=some v:=by
 unfold jq DO
 rw[if_neg (by decide),if_pos (by rw[LP];simp;lia)]
 have e:(-1+((xs.length:Int)+1)).toNat=xs.length:=by lia
 simp[e]
theorem G_(h:cp x=cp y):x=y:=by
 have:=mX (a:=[x]) (b:=[y]) (by simp[h])
 exact(List.cons.inj this).1
theorem GN {a:Type}{x:a}{r:List a}:jq (x::r) 0=some x:=bS (j:=0) rfl
def L (s:String):List Nat:=s.toList.map Char.toNat
theorem FQ (s:String):cp (Str.ofString s)=L s:=Hx s
def C7 (a:TT) (c:St) (H:Hp) (b:Bool):Prop:=∀H1,ah H H1->∀Q:Bool->Hp->Prop,(∀H2,ah H1 H2->Q b H2)->a c H1 Q
theorem AK(h:∀H1,ah H H1->ic tc σ H1 b):C7 tc σ H b:=λH1 s Q q=>h H1 s Q (q H1 (ah.refl H1))
theorem I_(h1:C7 t σ H a)(d:C7 u σ H b):C7 (Hf t u) σ H (a||b):=λH1 s Q q=>h1 H1 s _ λH2 c=>by
 cases a with
 |true=>exact i_ (q H2 c)
 |false=>exact eF (d H2 (s.trans c) _ λH3 e=>q H3 (c.trans e))
theorem AF(h1:C7 t σ H a)(d:C7 u σ H b):C7 (zj t u) σ H (a&&b):=λH1 s Q q=>h1 H1 s _ λH2 c=>by
 cases a with
 |true=>exact i_ (d H2 (s.trans c) _ λH3 e=>q H3 (c.trans e))
 |false=>exact eF (q H2 c)
theorem qu(h:∀H1,ah H H1->Ev ta σ H1 (.ref l))(e:H l=some (.lst xs)):C7 (jD (fv (Jh K false) ta (yS dw))) σ H xs.isEmpty:=λH1 s Q q=>
 h H1 s _ ⟨(by show 0<=sizeLine;decide),λp a=>⟨l,p,xs,rfl,rfl,aF.of (by rw[ak (xG (s _ _ e) a)];exact s _ _ e),aF.of ae,_,rfl,q _ ((ah.refl H1).upd a)⟩⟩
theorem Aw(h:C7 tc σ H b)(h1:b=true->∀H1,ah H H1->t D σ H1)(c:b=false->∀H1,ah H H1->u D σ H1):mW tc t u D σ H:=h H (ah.refl H) _ λH2 a=>rG (λe=>h1 e H2 a) λe=>c e H2 a
theorem gq(h:C7 tc σ H b)(h1:b=true->∀H1,ah H H1->t {D with nx:=u D} σ H1)(a:b=false->∀H1,ah H H1->u D σ H1):eU (mW tc t mZ) u D σ H:=Aw (D:={D with nx:=u D}) (u:=mZ) h h1 a
theorem nw(h:upd H l o z=none):z≠l/\H z=none:=by
 by_cases e:z=l
 ·rw[e,ae] at h;cases h
 ·rw[ak e] at h;exact⟨e,h⟩
theorem vP(s:ah H H')(e:H' z=none):H z=none:=by
 cases h:H z with
 |none=>rfl
 |some o=>rw[s _ _ h] at e;cases e
theorem HZ(b:Ev ta σ H (.ref l))(a:Ev tb σ H (.int i))(c:Ev tc σ H (.int j))(d:aF K H l xs)(q:∀p,H p=none->Q (.ref p) (upd H p (.lst (fu xs (some i) (some j))))):JO (Bi K) ta (ij tb) (ij tc) σ H Q:=b _ (a _ ⟨i,rfl,c _ ⟨j,rfl,l,xs,rfl,d,q⟩⟩)
def h8:List Nat:=cp (Str.ofString "abcdefghijklmnopqrstuvwxyz")
def u_:List Nat:=cp (Str.ofString "0123456789")
noncomputable def hV:List Nat->Bool
 |[]=>false
 |c::r=>decide (r.length<=11)&&decide (c∈h8)&&r.all λd=>decide (d∈h8)||decide (d∈u_)
theorem gu (c:Nat)(r:List Nat):hV (c::r)=(decide (r.length<=11)&&decide (c∈h8)&&r.all λd=>decide (d∈h8)||decide (d∈u_)):=rfl
def JT (x:Str):Prop:=x.cps.all (· <128)=true/\x.length<=1000
def nY (x:Str):Bool:=hV (cp x)
inductive CZ (vs:List V) (H:Hp) (Q:VK) (E:XK):Prop
 |mk (x:Str) (_:vs=[.str x]) (_:JT x) (_:∀H',ah H H'->Q (.bl (nY x)) H')
def fS (d:Nat):Bool:=decide (d∈h8)||decide (d∈u_)
theorem zy(h:¬(1<=x.length/\x.length<=12)):nY x=false:=by
 unfold nY
 have a:=cu x
 cases e:cp x with
 |nil=>rfl
 |cons c r=>
  rw[e,L5] at a
  rw[gu,decide_eq_false (by lia)]
  rfl
theorem tI(e:cp x=c::r)(h:x.length<=12):nY x=(decide (c∈h8)&&(cp x).all fS):=by
 have a:=cu x
 rw[e,L5] at a
 unfold nY
 rw[e,gu,decide_eq_true (by lia),List.all_cons]
 show(true&&decide (c∈h8)&&r.all fS)=(decide (c∈h8)&&((decide (c∈h8)||decide (c∈u_))&&r.all fS))
 cases decide (c∈h8)<;>simp
theorem mz {a:Type} [DecidableEq a]:∀{xs ys:List a},xs.Nodup->(∀x∈xs,x∈ys)->xs.length<=ys.length
 |[],_,_,_=>L0 _
 |x::xs,ys,nd,h=>by
  rw[MG] at nd
  have:=mz (ys:=ys.erase x) nd.2 λy b=>(List.mem_erase_of_ne (λz=>nd.1 (by rw[<-z];exact b))).mpr (h y (LZ _ b))
  have e:=List.length_erase_of_mem (h x LX)
  have p:0<ys.length:=List.length_pos_of_mem (h x LX)
  rw[L5]
  lia
theorem eZ {a:Nat}(h:a<16):hashInt (a:Int)=a:=by
 have:∀a<16,hashInt ((a:Nat):Int)=a:=by decide+kernel
 exact this a h
theorem El(x:List Int):tupleKeyHash (bo P w) (iK x)=reduceHash (Builtin.Tuple.tupleHashOf (x.map hashInt)):=by
 unfold tupleKeyHash iK
 rw[LV]
 rfl
theorem Ao (l r c:Nat)(f:r<16)(e:c<16):t_ (256*l+16*r+c)=reduceHash (Builtin.Tuple.tupleHashOf [(l:Int),(r:Int),(c:Int)]):=by
 have a:(256*l+16*r+c)/256=l:=by omega
 have d:(256*l+16*r+c)/16%16=r:=by omega
 have b:(256*l+16*r+c)%16=c:=by omega
 unfold t_
 rw[a,d,b]
theorem Ke(l r c:Nat)(d:l<16)(b:r<16)(a:c<16):tupleKeyHash (bo P w) (iK [(l:Int),(r:Int),(c:Int)])=t_ (256*l+16*r+c):=by
 rw[El,Ao l r c b a,L1,L1,L1,MV,eZ d,eZ b,eZ a]
abbrev P3:=Nat×Nat×Nat
def t3 (p:P3):T3:=[(p.1:Int),(p.2.1:Int),(p.2.2:Int)]
theorem gh(h:t3 p=t3 q):p=q:=by
 obtain⟨a,b,c⟩:=p
 obtain⟨d,e,f⟩:=q
 unfold t3 at h
 simp only[List.cons.injEq,and_true] at h
 obtain⟨h1,h2,g⟩:=h
 have h1:a=d:=Int.ofNat.inj h1
 have h2:b=e:=Int.ofNat.inj h2
 have g:c=f:=Int.ofNat.inj g
 rw[h1,h2,g]
abbrev A3 (H:Hp) (a:Addr) (p:P3):Prop:=H a=some (.tup ((t3 p).map V.int))
def AL (H:Hp) (l:Addr) (ps:List P3):Prop:=∃as:List Addr,H l=some (.lst (as.map V.ref))/\aX H as (ps.map t3)
theorem AL.same(h:AL H l ps)(s:ah H H'):AL H' l ps:=by
 obtain⟨as,h1,h2⟩:=h
 exact⟨as,s _ _ h1,aX.same h2 s⟩
def In (z p:P3):Prop:=p.1<z.1/\p.2.1<z.2.1/\p.2.2<z.2.2
def ss (l:List Nat):Str:=⟨l.toArray⟩
theorem bY (l:List Nat):cp (ss l)=l:=by unfold ss cp;simp
theorem wd (x:Str):ss (cp x)=x:=G_ (bY _)
theorem hZ(h:cp x=l):x=ss l:=by rw[<-h,wd]
def dr (p:P3):List Nat:=jl 46 [dg p.1,dg p.2.1,dg p.2.2]
def sv (w:List Nat):V:=.str (ss w)
abbrev WL (H:Hp) (l:Addr) (ws:List (List Nat)):Prop:=H l=some (.lst (ws.map sv))
instance (z p : P3) : Decidable (In z p) := by unfold In; infer_instance
def Sz (z:P3):Prop:=(1<=z.1/\z.1<=4)/\(1<=z.2.1/\z.2.1<=16)/\(1<=z.2.2/\z.2.2<=16)
section
variable {M:Type} [DecidableEq M]
def fQ (p:P3) (i:Nat):P3:=(p.1,p.2.1,p.2.2+i)
theorem EA (p:P3)(i j:Nat):fQ (fQ p i) j=fQ p (i+j):=by unfold fQ;simp[Nat.add_assoc]
abbrev lC (r:P3×P3×M) (s:P3×M):Prop:=s.2=r.2.2/\s.1=fQ r.2.1 1
noncomputable def ot (us:List (P3×P3×M)) (s:P3×M):List (P3×P3×M):=
 match us.getLast? with
 |none=>us++[(s.1,s.1,s.2)]
 |some r=>if lC r s then us.dropLast++[(r.1,s.1,s.2)] else us++[(s.1,s.1,s.2)]
noncomputable def cm (ss:List (P3×M)):List (P3×P3×M):=ss.foldl ot []
theorem wQ {us:List (P3×P3×M)}{r:P3×P3×M}{s:P3×M}(h:lC r s):ot (us++[r]) s=us++[(r.1,s.1,s.2)]:=by
 unfold ot
 rw[List.getLast?_concat]
 show(if lC r s then _ else _)=_
 rw[if_pos h,List.dropLast_concat]
theorem ny {us:List (P3×P3×M)}{s:P3×M}(h:∀r,us.getLast?=some r->¬lC r s):ot us s=us++[(s.1,s.1,s.2)]:=by
 unfold ot
 cases e:us.getLast? with
 |none=>rfl
 |some r=>exact if_neg (h r e)
abbrev g_ (M:Type):=P3×Nat×M
def jn (t:g_ M):P3×P3×M:=(t.1,fQ t.1 t.2.1,t.2.2)
noncomputable def bG (t:g_ M):List P3:=(List.range (t.2.1+1)).map (fQ t.1)
noncomputable def bu (t:g_ M):List (P3×M):=(bG t).map λp=>(p,t.2.2)
theorem tJ (us:List (P3×P3×M))(p:P3)(m:M):∀n,(h:∀r,us.getLast?=some r->¬lC r (p,m))->(bu (p,n,m)).foldl ot us=us++[jn (p,n,m)]
 |0,h=>ny h
 |n+1,h=>by
  have a:=tJ us p m n h
  have e:bu (p,n+1,m)=bu (p,n,m)++[(fQ p (n+1),m)]:=by
   unfold bu bG
   rw[NS,LQ,LQ];rfl
  rw[e,N9,a]
  exact wQ ⟨rfl,(EA p n 1).symm⟩
noncomputable def Hi (r:Option (P3×P3×M)):List (g_ M)->Prop
 |[]=>True
 |t::ts=>(∀x,r=some x->¬lC x (t.1,t.2.2))/\Hi (some (jn t)) ts
theorem sW:∀(ts:List (g_ M)) (a:List (P3×P3×M)),Hi a.getLast? ts->(ts.flatMap bu).foldl ot a=a++ts.map jn
 |[],a,_=>(Mb a).symm
 |(p,n,m)::ts,a,h=>by
  rw[MP,N9,tJ a p m n h.1,sW ts _ (by rw[List.getLast?_concat];exact h.2),L1,Mn]
  rfl
theorem wz {ts:List (g_ M)}(h:Hi none ts):cm (ts.flatMap bu)=ts.map jn:=sW ts [] h
def gG (z p:P3):Nat:=(p.1*z.2.1+p.2.1)*z.2.2+p.2.2
theorem jE (z p:P3)(i:Nat):gG z (fQ p i)=gG z p+i:=by unfold gG fQ;simp only;lia
noncomputable def vE (z:P3):Nat->List (g_ M)->Prop
 |_,[]=>True
 |k,t::ts=>k<=gG z t.1/\t.1.2.2+t.2.1<z.2.2/\vE z (gG z t.1+t.2.1+1) ts
theorem vE.mono:∀{ts:List (g_ M)} {j k:Nat},vE z k ts->j<=k->vE z j ts
 |[],_,_,_,_=>trivial
 |_::_,_,_,h,l=>⟨LR l h.1,h.2⟩
theorem vE.rise:∀{ts:List (g_ M)} {k:Nat},vE z k ts->((ts.flatMap bu).map λs=>gG z s.1).Pairwise (· < ·)/\∀s∈ts.flatMap bu,k<=gG z s.1
 |[],_,_=>⟨List.Pairwise.nil,λ_ h=>nomatch h⟩
 |(p,n,m)::ts,k,⟨h1,h2,h3⟩=>by
  obtain⟨g,d⟩:=vE.rise h3
  have e:(bu (p,n,m)).map (λs=>gG z s.1)=(List.range (n+1)).map λi=>gG z p+i:=by
   unfold bu bG
   rw[LV,LV]
   exact My λi _=>jE z p i
  have b:∀s∈bu (p,n,m),gG z p<=gG z s.1/\gG z s.1<=gG z p+n:=λs hs=>by
   unfold bu bG at hs
   rw[LV] at hs
   obtain⟨i,hi,rfl⟩:=LN.mp hs
   have:=ME.mp hi
   show gG z p<=gG z (fQ p i)/\gG z (fQ p i)<=gG z p+n
   rw[jE]
   simp only at this
   lia
  refine⟨?_,?_⟩
  ·rw[MP,LQ,List.pairwise_append]
   refine⟨?_,g,?_⟩
   ·rw[e,Mr]
    exact List.pairwise_lt_range.imp λh=>by lia
   ·intro x l y j
    obtain⟨s,hs,rfl⟩:=LN.mp l
    obtain⟨t,f,rfl⟩:=LN.mp j
    have a:=(b s hs).2
    have c:=d t f
    simp only at c
    lia
  ·intro s hs
   rw[MP,L_] at hs
   rcases hs with hs|hs
   ·exact LR h1 (b s hs).1
   ·exact LR (by simp only at h1|-;lia) (d s hs)
noncomputable def eV (z:P3) (n:Nat):P3:=(n/(z.2.1*z.2.2),n/z.2.2%z.2.1,n%z.2.2)
theorem iQ (z:P3)(n:Nat):gG z (eV z n)=n:=by
 unfold gG eV
 simp only
 rw[Nat.mul_comm z.2.1,<-Ol,Nat.div_add_mod',Nat.div_add_mod']
theorem pZ(h:n%z.2.2+k<z.2.2):eV z (n+k)=fQ (eV z n) k:=by
 have p:0<z.2.2:=by lia
 have b:(n+k)/z.2.2=n/z.2.2:=by
  have d:=Nat.div_add_mod n z.2.2
  rw[show n+k=(n%z.2.2+k)+z.2.2*(n/z.2.2) by lia,Nat.add_mul_div_left _ _ p,Nat.div_eq_of_lt h,Oa]
 have c:(n+k)%z.2.2=n%z.2.2+k:=by
  rw[Nat.add_mod,Nat.mod_eq_of_lt (a:=k) (by lia),Nat.mod_eq_of_lt h]
 unfold eV fQ
 simp only
 rw[Nat.mul_comm z.2.1,<-Ol,<-Ol,b,c]
noncomputable def iW (z:P3) (a:Nat) (c:Int):Nat:=min (1+c/4%3).toNat (z.2.2 - a%z.2.2)
def knd (c:Int):Nat:=(c/12%5).toNat
def Kn (c:Int):Int:=1+c*7919%(10^12 - 1)
abbrev Hb (z:P3) (a:Nat) (c:Int):Prop:=knd c=3/\iW z a c<z.2.2 - a%z.2.2
noncomputable def pV (z:P3) (a:Nat) (c:Int):Nat:=if Hb z a c then a+iW z a c+1 else a+iW z a c
noncomputable def qV (z:P3) (a:Nat) (c:Int):Nat:=if 0<pV z a c%z.2.2 then pV z a c+1 else pV z a c
noncomputable def kh (rk:M) (z:P3) (a:Nat) (c:Int):List (g_ M):=if knd c%2=0 then [(eV z a,iW z a c - 1,rk)] else []
noncomputable def iU (tl:Int->M) (z:P3) (a:Nat) (c:Int):List (g_ M):=if knd c=0 then [] else [(eV z a,if knd c=4 then 0 else iW z a c - 1,tl (Kn c))]
noncomputable def oh (tl:Int->M) (z:P3) (a:Nat) (c:Int):List (g_ M):=if Hb z a c then [(eV z (a+iW z a c),0,tl (Kn c+1))] else []
noncomputable def gP (rk:M) (tl:Int->M) (z:P3):Nat->List Int->List (g_ M)×List (g_ M)
 |_,[]=>([],[])
 |n,c::cs=>if n+(c%4).toNat<z.1*z.2.1*z.2.2 then
   (kh rk z (n+(c%4).toNat) c++(gP rk tl z (qV z (n+(c%4).toNat) c) cs).1,iU tl z (n+(c%4).toNat) c++(oh tl z (n+(c%4).toNat) c++(gP rk tl z (qV z (n+(c%4).toNat) c) cs).2))
  else ([],[])
theorem md(p:0<z.2.2)(a:Nat)(c:Int):1<=iW z a c/\a%z.2.2+iW z a c<=z.2.2:=by
 have:=NJ a p
 unfold iW
 lia
theorem mQ (z:P3)(a:Nat)(c:Int):pV z a c<=qV z a c/\(qV z a c=pV z a c->qV z a c%z.2.2=0):=by
 unfold qV
 split
 ·lia
 ·exact⟨LL _,λ_=>by lia⟩
theorem qr (z:P3)(a:Nat)(c:Int):a+iW z a c<=pV z a c:=by unfold pV;split<;>lia
def Ok (z:P3) (r:Option (P3×P3×M)) (n:Nat):Prop:=∀x,r=some x->gG z x.2.1+1<=n/\(gG z x.2.1+1=n->n%z.2.2=0)
theorem Ok.brk{r:Option (P3×P3×M)}{m:M}(h:Ok z r n)(l:n<=a):∀x,r=some x->¬lC x (eV z a,m):=by
 rintro x e ⟨_,g⟩
 obtain⟨h1,h2⟩:=h x e
 have g:eV z a=fQ x.2.1 1:=g
 have b:=congrArg (gG z) g
 rw[iQ,jE] at b
 have c:a%z.2.2=x.2.1.2.2+1:=congrArg (λp:P3=>p.2.2) g
 have:=h2 (by lia)
 rw[show n=a by lia] at this
 lia
theorem Ok.up{r:Option (P3×P3×M)}(h:Ok z r n)(l:n<a):Ok z r a:=λx e=>by
 obtain⟨h1,h2⟩:=h x e
 exact⟨by lia,λe=>by lia⟩
theorem Ok.new{m:M}(h:x+k+1<=pV z a c):Ok z (some (jn (eV z x,k,m))) (qV z a c):=λy e=>by
 cases e
 have:=mQ z a c
 show gG z (fQ (eV z x) k)+1<=_/\(gG z (fQ (eV z x) k)+1=_->_)
 rw[jE,iQ]
 exact⟨by lia,λe=>this.2 (by lia)⟩
theorem j_ {rk:M}{tl:Int->M}(p:0<z.2.2):∀(cs:List Int) (n:Nat) (r:Option (P3×P3×M)),Ok z r n->Hi r (gP rk tl z n cs).1
 |[],_,_,_=>trivial
 |c::cs,n,r,h=>by
  unfold gP
  split
  ·generalize ha:n+(c%4).toNat=a
   have m:=md p a c
   have b:=qr z a c
   have f:=mQ z a c
   show Hi r (kh rk z a c++_)
   unfold kh
   split
   ·exact⟨h.brk (by lia),j_ p cs _ _ (Ok.new (by lia))⟩
   ·exact j_ p cs _ _ (h.up (by lia))
  ·trivial
theorem iR {rk:M}{tl:Int->M}(inj:∀i,tl (i+1)≠tl i){z:P3}(p:0<z.2.2):∀(cs:List Int) (n:Nat) (r:Option (P3×P3×M)),Ok z r n->Hi r (gP rk tl z n cs).2
 |[],_,_,_=>trivial
 |c::cs,n,r,h=>by
  unfold gP
  split
  ·generalize ha:n+(c%4).toNat=a
   have m:=md p a c
   have b:=qr z a c
   have f:=mQ z a c
   show Hi r (iU tl z a c++(oh tl z a c++_))
   unfold iU
   split
   ·rename_i k
    unfold oh
    rw[if_neg (λt=>by have:=t.1;lia)]
    exact iR inj p cs _ _ (h.up (by lia))
   ·refine⟨h.brk (by lia),?_⟩
    unfold oh
    by_cases t:Hb z a c
    ·rw[if_pos t]
     refine⟨?_,iR inj p cs _ _ (Ok.new ?_)⟩
     ·rintro x e ⟨g,_⟩
      cases e
      exact inj _ g
     ·unfold pV
      rw[if_pos t]
      lia
    ·rw[if_neg t]
     refine iR inj p cs _ _ (Ok.new ?_)
     split<;>lia
  ·trivial
theorem sq {rk:M}{tl:Int->M}(p:0<z.2.2):∀(cs:List Int) (n:Nat),vE z n (gP rk tl z n cs).1/\vE z n (gP rk tl z n cs).2
 |[],_=>⟨trivial,trivial⟩
 |c::cs,n=>by
  unfold gP
  split
  ·generalize ha:n+(c%4).toNat=a
   have m:=md p a c
   have b:=qr z a c
   have f:=mQ z a c
   obtain⟨g,d⟩:=sq (rk:=rk) (tl:=tl) p cs (qV z a c)
   have j:=iQ z a
   refine⟨?_,?_⟩
   ·show vE z n (kh rk z a c++_)
    unfold kh
    split
    ·exact⟨by show n<=gG z (eV z a);lia,by show a%z.2.2+(iW z a c - 1)<z.2.2;lia,g.mono (by show gG z (eV z a)+(iW z a c - 1)+1<=_;lia)⟩
    ·exact g.mono (by lia)
   ·show vE z n (iU tl z a c++(oh tl z a c++_))
    unfold iU
    split
    ·unfold oh
     rw[if_neg (λt=>by have:=t.1;lia)]
     exact d.mono (by lia)
    ·refine⟨by show n<=gG z (eV z a);lia,by show a%z.2.2+(if knd c=4 then 0 else iW z a c - 1)<z.2.2;split<;>lia,?_⟩
     show vE z (gG z (eV z a)+(if knd c=4 then 0 else iW z a c - 1)+1) _
     have l:gG z (eV z a)+(if knd c=4 then 0 else iW z a c - 1)+1<=a+iW z a c:=by split<;>lia
     unfold oh
     by_cases t:Hb z a c
     ·rw[if_pos t]
      have e:=iQ z (a+iW z a c)
      have h:pV z a c=a+iW z a c+1:=by unfold pV;rw[if_pos t]
      exact⟨by show _<=gG z (eV z (a+iW z a c));lia,by show(a+iW z a c)%z.2.2+0<_;exact NJ _ p,d.mono (by show gG z (eV z (a+iW z a c))+0+1<=_;lia)⟩
     ·rw[if_neg t];exact d.mono (by lia)
  ·exact⟨trivial,trivial⟩
end
def pF (i:Nat):Nat:=if i<26 then 97+i else 22+i
def ua (place:Nat):Nat:=if place=0 then 26 else 36
noncomputable def pK (h:Int):List Nat:=if h/36%3=0 then [] else if h/36%3=1 then [111] else [57,122]
noncomputable def qw (place:Nat) (h:Int) (i:Nat):List Nat:=List.replicate place 116++pF ((h+(i:Nat))%(ua place:Nat)).toNat::pK h
theorem wG(a:i<36)(b:j<36)(h:pF i=pF j):i=j:=by unfold pF at h;split at h<;>split at h<;>lia
theorem Fp(a:i<13)(b:j<13)(e:qw place h i=qw place h j):i=j:=by
 have e:=List.append_cancel_left e
 injection e with e _
 unfold ua at e
 split at e
 ·have:=wG (by lia) (by lia) e
  lia
 ·have:=wG (by lia) (by lia) e
  lia
theorem BO{ns:List (List Nat)}(l:ns.length<13):∃i,i<13/\qw place h i∉ns:=by
 apply Classical.byContradiction
 intro a
 have all:∀i,i<13->qw place h i∈ns:=λi hi=>Classical.byContradiction λm=>a ⟨i,hi,m⟩
 have b:((List.range 13).map (qw place h)).Nodup:=by
  refine Mr.mpr (List.pairwise_lt_range.imp_of_mem fun{i j} hi d l e=>?_)
  have:=Fp (ME.mp hi) (ME.mp d) e
  lia
 have:=mz b (ys:=ns) λx c=>by
  obtain⟨i,hi,rfl⟩:=LN.mp c
  exact all i (ME.mp hi)
 rw[LK,Oh] at this
 lia
theorem Ei:∀i,i<26->pF i∈h8:=by decide+kernel
theorem Hw:∀i,i<36->fS (pF i)=true:=by decide+kernel
theorem Dx (h:Int):pK h=[]\/pK h=[111]\/pK h=[57,122]:=by
 unfold pK
 split
 ·exact .inl rfl
 ·split
  ·exact .inr (.inl rfl)
  ·exact .inr (.inr rfl)
theorem AR(c:place<10){h:Int}{i:Nat}:hV (qw place h i)=true:=by
 have w:((h+(i:Nat))%(ua place:Nat)).toNat<36/\(place=0->((h+(i:Nat))%(ua place:Nat)).toNat<26):=by
  unfold ua
  split<;>lia
 unfold qw
 generalize ((h+(i:Nat))%(ua place:Nat)).toNat=j at w
 have b:(pK h).length<=2/\(pK h).all fS=true:=by
  rcases Dx h with e|e|e<;>rw[e]<;>decide+kernel
 cases place with
 |zero=>
  show hV (pF j::pK h)=true
  rw[gu,show((pK h).all λd=>decide (d∈h8)||decide (d∈u_))=true from b.2,decide_eq_true (Ei j (w.2 rfl)),decide_eq_true (by lia)];rfl
 |succ n=>
  show hV (116::(List.replicate n 116++pF j::pK h))=true
  have a:((List.replicate n 116++pF j::pK h).all λd=>decide (d∈h8)||decide (d∈u_))=true:=by
   show(List.replicate n 116++pF j::pK h).all fS=true
   rw[List.all_append,List.all_cons,b.2,Hw j w.1,List.all_replicate]
   split
   ·rfl
   ·exact(by decide+kernel:(fS 116&&(true&&true))=true)
  rw[gu,a,decide_eq_true (by simp;lia),decide_eq_true (by decide+kernel:116∈h8)];rfl
inductive wX (vs:List V) (H:Hp) (Q:VK) (E:XK):Prop
 |mk (h:Int) (l:Addr) (ns:List (List Nat)) (place:Nat) (_:vs=[.int h,.ref l,.int (place:Nat)]) (_:WL H l ns) (_:ns.length<13) (_:place<10) (_:∀i H',qw place h i∉ns->ah H H'->Q (sv (qw place h i)) H')
abbrev Lg:=P3×Nat×Nat
def Ly (H:Hp) (v:V) (y:Lg):Prop:=∃t a,v=.ref t/\H t=some (.tup [.ref a,.int (y.2.1:Nat),.int (y.2.2:Nat)])/\A3 H a y.1
theorem Ly.same{y:Lg}(h:Ly H v y)(s:ah H H'):Ly H' v y:=by
 obtain⟨t,a,e,h1,h2⟩:=h
 exact⟨t,a,e,s _ _ h1,s _ _ h2⟩
def ko (i j:Nat):Nat:=(i - j)+(j - i)
noncomputable def gc (p:P3) (h r:Nat) (y:Lg):Bool:=decide (y.1.1=p.1)&&decide (ko y.1.2.1 p.2.1<=h+y.2.1+Nat.max r y.2.2/\ko y.1.2.2 p.2.2<=h+y.2.1+Nat.max r y.2.2)
inductive vX (vs:List V) (H:Hp) (Q:VK) (E:XK):Prop
 |mk (b l:Addr) (p:P3) (h r:Nat) (us:List V) (ys:List Lg) (_:vs=[.ref b,.int (h:Nat),.int (r:Nat),.ref l]) (_:A3 H b p) (_:H l=some (.lst us)) (_:Paired (Ly H) us ys) (_:Q (.bl (ys.any (gc p h r))) H)
def Cl (z:P3) (kvs:List (List cS×V)) (l r c:Int):Prop:=(0<=r/\r<(z.2.1:Nat)/\0<=c/\c<(z.2.2:Nat))/\bX kvs (iK [l,r,c])=none
def K6 (z:P3) (kvs:List (List cS×V)) (p:P3) (h:Nat):Prop:=∀i j:Nat,i<2*h+1->j<2*h+1->Cl z kvs (p.1:Nat) ((p.2.1:Int) - (h:Nat)+(i:Nat)) ((p.2.2:Int) - (h:Nat)+(j:Nat))
inductive yb (vs:List V) (H:Hp) (Q:VK) (E:XK):Prop
 |mk (a d b:Addr) (z p:P3) (h:Nat) (kvs:List (List cS×V)) (_:vs=[.ref a,.ref d,.ref b,.int (h:Nat)]) (_:A3 H a z) (_:H d=some (.dT kvs)) (_:A3 H b p) (_:h<=2) (_:Sz z) (_:In z p) (_:∀H' v,ah H H'->(v=true↔K6 z kvs p h)->Q (.bl v) H')
theorem Bl(hz:Sz z)(h:n<z.1*z.2.1*z.2.2):In z (eV z n):=by
 unfold Sz at hz
 exact⟨Nat.div_lt_of_lt_mul (by rw[Nat.mul_assoc] at h;rw[Nat.mul_comm];exact h),NJ _ (by lia),NJ _ (by lia)⟩
inductive m6 (vs:List V) (H:Hp) (Q:VK) (E:XK):Prop
 |mk (a:Addr) (z:P3) (n:Nat) (_:vs=[.ref a,.int (n:Nat)]) (_:A3 H a z) (_:Sz z) (_:∀t H',ah H H'->H t=none->A3 H' t (eV z n)->Q (.ref t) H')
structure B2 (z:P3) (kvs:List (List cS×V)) (h r:Nat) (ys:List Lg) (ps:List P3):Prop where
 nd:ps.Nodup
 ok:∀p∈ps,In z p/\K6 z kvs p h/\ys.any (gc p h r)=false
inductive ya (vs:List V) (H:Hp) (Q:VK) (E:XK):Prop
 |mk (c a d l:Addr) (cs:List Int) (z:P3) (kvs:List (List cS×V)) (h r:Nat) (us:List V) (ys:List Lg) (_:vs=[.ref c,.ref a,.ref d,.int (h:Nat),.int (r:Nat),.ref l]) (_:H c=some (.lst (cs.map V.int))) (_:A3 H a z) (_:H d=some (.dT kvs)) (_:H l=some (.lst us)) (_:Paired (Ly H) us ys) (_:h<=2) (_:Sz z) (_:cs.length<=1000)
  (_:∀e ps H',ah H H'->H e=none->AL H' e ps->B2 z kvs h r ys ps->ps.length<=cs.length->Q (.ref e) H')
def zg (pl:Bool) (v:V):Prop:=if pl=true then v=.bl true else∃j,v=.int j
theorem Il(h1:zg pl v)(a:zg pl w):GW v w=true:=by
 unfold zg at h1 a
 cases pl with
 |true=>
  rw[if_pos rfl] at h1 a
  subst h1 a
  rfl
 |false=>
  rw[if_neg (by simp)] at h1 a
  obtain⟨i,rfl⟩:=h1
  obtain⟨j,rfl⟩:=a
  rfl
inductive sy (vs:List V) (H:Hp) (Q:VK) (E:XK):Prop
 |mk (q0 b fa la:Addr) (f l p:P3) (m v:V) (pl:Bool) (_:vs=[.ref q0,.ref b,v]) (_:H q0=some (.tup [.ref fa,.ref la,m])) (_:A3 H la l) (_:A3 H b p) (_:zg pl v) (_:zg pl m) (_:∀H',ah H H'->Q (.bl (decide (lC (f,l,m) (p,v)))) H')
inductive Rw
 |floor (z:P3)
 |layer (a b:Nat)
 |via (a:Nat)
 |rock (cs:List P3)
 |toll (p:Nat) (cs:List P3)
 |net (x:List Nat) (h r:Nat) (cs:List P3)
 |bun (x:List Nat) (r:Nat) (cs ds:List P3)
noncomputable def kd:Rw->Nat
 | .floor _=>0
 | .layer _ _=>1
 | .via _=>2
 | .rock _=>3
 | .toll _ _=>4
 | .net _ _ _ _=>5
 | .bun _ _ _ _=>6
noncomputable def kS (k:Nat):Str:=if k=0 then Str.ofString "floor" else if k=1 then Str.ofString "layer" else if k=2 then Str.ofString "via" else if k=3 then Str.ofString "rock" else if k=4 then Str.ofString "toll" else if k=5 then Str.ofString "net" else Str.ofString "bundle"
theorem Bf:∀k,k<=6->∀j,j<=6->decide (kS k=kS j)=decide (k=j):=by decide+kernel
theorem sU (r:Rw):kd r<=6:=by cases r<;>simp[kd]
noncomputable def lQ:Rw->List (List Nat)
 | .floor z=>[dg z.1,dg z.2.1,dg z.2.2]
 | .layer a b=>[dg a,dg b]
 | .via a=>[dg a]
 | .rock cs=>cs.map dr
 | .toll p cs=>dg p::cs.map dr
 | .net x h r cs=>x::dg h::dg r::cs.map dr
 | .bun x r cs ds=>x::dg r::(cs.map dr++L "to" ::ds.map dr)
def uT (r:Rw):List (List Nat):=cp (kS (kd r))::lQ r
def Sm (ps:List P3):Prop:=∀p∈ps,p.1<16/\p.2.1<16/\p.2.2<16
noncomputable def gR:Rw->Prop
 | .floor z=>Sz z
 | .layer a b=>a<10^14/\b<10^14
 | .via a=>a<10^14
 | .rock cs=>Sm cs/\(cs.length=1\/cs.length=2)
 | .toll p cs=>p<=1000000000000/\Sm cs/\(cs.length=1\/cs.length=2)
 | .net x h r cs=>Sm cs/\cs.length<=18/\hV x=true/\h<10/\r<10
 | .bun x r cs ds=>Sm cs/\Sm ds/\cs.length+ds.length<=18/\hV x=true/\r<10
def hd (cs:List P3):P3:=cs.headD (0,0,0)
def ls (cs:List P3):P3:=cs.getLastD (0,0,0)
noncomputable def Pt (A:Addr->Prop) (H:Hp) (v:V):Rw->Prop
 | .floor z=>∃t,v=.ref t/\A3 H t z
 | .layer a b=>∃t,v=.ref t/\H t=some (.tup [.int (a:Nat),.int (b:Nat)])
 | .via a=>∃t,v=.ref t/\H t=some (.tup [.int (a:Nat)])
 | .rock cs=>∃t a b,v=.ref t/\H t=some (.tup [.ref a,.ref b])/\A3 H a (hd cs)/\A3 H b (ls cs)
 | .toll p cs=>∃t a b,v=.ref t/\H t=some (.tup [.int (p:Nat),.ref a,.ref b])/\A3 H a (hd cs)/\A3 H b (ls cs)
 | .net x h r cs=>∃t l,v=.ref t/\H t=some (.tup [sv x,.int (h:Nat),.int (r:Nat),.ref l])/\AL H l cs/\A l
 | .bun x r cs ds=>∃t l m,v=.ref t/\H t=some (.tup [sv x,.int (r:Nat),.ref l,.ref m])/\AL H l cs/\AL H m ds/\A l/\A m
theorem Pt.up {A B:Addr->Prop}(h:Pt A H v r)(s:∀b xs,H b=some (.tup xs)->H' b=some (.tup xs))(u:∀b xs,A b->H b=some (.lst xs)->H' b=some (.lst xs))(i:∀b xs,A b->H b=some (.lst xs)->B b):Pt B H' v r:=by
 have al:∀{l cs},AL H l cs->A l->AL H' l cs/\B l:=λ⟨as,h1,h2⟩ a=>⟨⟨as,u _ _ a h1,Paired.mapP h2 λ_ _ e=>s _ _ e⟩,i _ _ a h1⟩
 cases r with
 |floor z=>obtain⟨t,e,h⟩:=h;exact⟨t,e,s _ _ h⟩
 |layer a b=>obtain⟨t,e,h⟩:=h;exact⟨t,e,s _ _ h⟩
 |via a=>obtain⟨t,e,h⟩:=h;exact⟨t,e,s _ _ h⟩
 |rock cs=>obtain⟨t,a,b,e,h,h1,h2⟩:=h;exact⟨t,a,b,e,s _ _ h,s _ _ h1,s _ _ h2⟩
 |toll p cs=>obtain⟨t,a,b,e,h,h1,h2⟩:=h;exact⟨t,a,b,e,s _ _ h,s _ _ h1,s _ _ h2⟩
 |net x k r cs=>obtain⟨t,l,e,h,h1,h2⟩:=h;exact⟨t,l,e,s _ _ h,al h1 h2⟩
 |bun x r cs ds=>obtain⟨t,l,m,e,h,h1,h2,d,c⟩:=h;exact⟨t,l,m,e,s _ _ h,(al h1 d).1,(al h2 c).1,(al h1 d).2,(al h2 c).2⟩
theorem Pt.same {A:Addr->Prop}(h:Pt A H v r)(s:ah H H'):Pt A H' v r:=h.up (λ_ _ e=>s _ _ e) (λ_ _ _ e=>s _ _ e) λ_ _ a _=>a
def TD (A:Addr->Prop) (H:Hp) (v:V) (r:Rw):Prop:=∃t u,v=.ref t/\H t=some (.tup [.str (kS (kd r)),u])/\Pt A H u r
theorem TD.up {A B:Addr->Prop}(h:TD A H v r)(s:∀b xs,H b=some (.tup xs)->H' b=some (.tup xs))(u:∀b xs,A b->H b=some (.lst xs)->H' b=some (.lst xs))(i:∀b xs,A b->H b=some (.lst xs)->B b):TD B H' v r:=by
 obtain⟨t,w,e,h1,h2⟩:=h
 exact⟨t,w,e,s _ _ h1,h2.up s u i⟩
theorem TD.same {A:Addr->Prop}(h:TD A H v r)(s:ah H H'):TD A H' v r:=h.up (λ_ _ e=>s _ _ e) (λ_ _ _ e=>s _ _ e) λ_ _ a _=>a
inductive sX (vs:List V) (H:Hp) (Q:VK) (E:XK):Prop
 |mk (p:P3) (_:vs=[sv (dr p)]) (_:p.1<16/\p.2.1<16/\p.2.2<16) (_:∀t H',ah H H'->A3 H' t p->Q (.ref t) H')
inductive gE (K:LO) (vs:List V) (H:Hp) (Q:VK) (E:XK):Prop
 |mk (l:Addr) (ns:List Nat) (k:Int) (_:vs=[.ref l,.int k]) (_:WL H l (ns.map dg)) (_:(∀n∈ns,n<10^18)) (_:k=ns.length) (_:ns.length<=10) (_:∀t H',ah H H'->H' t=some (.tup (ns.map λn=> .int (n:Nat)))->Q (.ref t) H')
inductive jQ (K:LO) (vs:List V) (H:Hp) (Q:VK) (E:XK):Prop
 |mk (l:Addr) (ps:List P3) (_:vs=[.ref l]) (_:WL H l (ps.map dr)) (_:Sm ps) (_:ps.length<=18) (_:∀p H',ah H H'->H p=none->AL H' p ps->Q (.ref p) H')
inductive kK (vs:List V) (H:Hp) (Q:VK) (E:XK):Prop
 |mk (l:Addr) (ps:List P3) (_:vs=[.ref l]) (_:WL H l (ps.map dr)) (_:Sm ps) (_:(ps.length=1\/ps.length=2)) (_:∀v H',ah H H'->Pt (λl=>H l=none) H' v (.rock ps)->Q v H')
inductive Ih (f:Rw->Bool) (vs:List V) (H:Hp) (Q:VK) (E:XK):Prop
 |mk (l:Addr) (r:Rw) (_:vs=[.ref l]) (_:f r=true) (_:WL H l (lQ r)) (_:gR r) (_:∀v H',ah H H'->Pt (λl=>H l=none) H' v r->v≠.non->Q v H')
def wF:Sp:=Ih λr=>decide (kd r=4)
def By:Sp:=Ih λr=>decide (kd r=5)
def Bp:Sp:=Ih λr=>decide (kd r=6)
inductive CS (vs:List V) (H:Hp) (Q:VK) (E:XK):Prop
 |mk (l:Addr) (r:Rw) (_:vs=[.str (kS (kd r)),.ref l]) (_:WL H l (lQ r)) (_:gR r) (_:∀v H',ah H H'->Pt (λl=>H l=none) H' v r->v≠.non->Q v H')
inductive CA (K:LO) (vs:List V) (H:Hp) (Q:VK) (E:XK):Prop
 |mk (a:Addr) (ns:List Int) (i:Int) (_:vs=[.ref a,.int i]) (_:aF K H a (ns.map V.int)) (_:0<=i) (_:∀v:Int,Q (.int v) H)
inductive nr (vs:List V) (H:Hp) (Q:VK) (E:XK):Prop
 |mk (t:Addr) (p:P3) (_:vs=[.ref t]) (_:(p.1<16/\p.2.1<16/\p.2.2<16)) (_:(A3 H t p\/H t=some (.lst ((t3 p).map V.int)))) (_:∀H',ah H H'->Q (sv (dr p)) H')
def IM (ws:List Str) (x:Str):Prop:=∃y z,cp x=y++z/\wf y=ws.map cp/\59∉y/\(z=[]\/z.head?=some 59)/\(∀c∈cp x,c≠10/\c<128)/\(cp x).length<=400
noncomputable def iI (W:List (List Str)):List (List Str×Nat):=W.zipIdx.filter λp=>!p.1.isEmpty
theorem yT (W:List (List Str))(ws:List Str):iI (W++[ws])=iI W++(if ws.isEmpty then [] else [(ws,W.length)]):=by
 unfold iI
 rw[List.zipIdx_append,NV]
 congr 1
 cases ws<;>simp
def GH (H:Hp) (c:List Addr) (p:List Str×Nat) (v:V):Prop:=∃a b,v=.ref a/\H a=some (.tup [.int ((p.2+1:Nat):Int),.ref b])/\H b=some (.lst (p.1.map V.str))/\b∉c
def fm (H:Hp) (a:List Addr) (ps:List (List Str×Nat)) (vs:List V):Prop:=vs.length=ps.length/\∀(i:Nat) p,ps[i]?=some p->∃v,vs[i]?=some v/\GH H a p v
inductive pG (vs:List V) (H:Hp) (Q:VK) (E:XK):Prop
 |mk (x:Str) (ws:List Str) (_:vs=[.str x]) (_:IM ws x) (_:∀l H',ah H H'->H l=none->H' l=some (.lst (ws.map V.str))->Q (.ref l) H')
inductive rP (vs:List V) (H:Hp) (Q:VK) (E:XK):Prop
 |mk (x:Str) (rs:List (List Str×Str)) (_:vs=[.str x]) (_:rs≠[]) (_:rs.length<=300) (_:cp x=jl 10 (rs.map λp=>cp p.2)) (_:(∀p∈rs,IM p.1 p.2)) (_:(cp x).length<=200000) (_:∀l vs H',ah H H'->H' l=some (.lst vs)->fm H' [l] (iI (rs.map (·.1))) vs->Q (.ref l) H')
theorem fm.nil (H:Hp)(a:List Addr):fm H a [] []:=⟨rfl,λi p h=>by cases h⟩
theorem fm.kept{ps:List (List Str×Nat)}(h:fm H av ps vs)(k:∀b o,b∉av->H b=some o->H' b=some o)(l:∀b xs,H b=some (.tup xs)->H' b=some (.tup xs))(g:∀b o,H b=some o->b∉av->b∉av'):fm H' av' ps vs:=
 ⟨h.1,λi p e=>by
  obtain⟨v,j,a,b,rfl,f,d,c⟩:=h.2 i p e
  exact⟨_,j,a,b,rfl,l _ _ f,k _ _ c d,g _ _ d c⟩⟩
theorem fm.snoc{ps:List (List Str×Nat)}{p:List Str×Nat}(h:fm H av ps vs)(b:GH H av p v):fm H av (ps++[p]) (vs++[v]):=
 ⟨by rw[LP,LP,h.1];rfl,λi q e=>by
  by_cases hi:i<ps.length
  ·rw[Of hi] at e
   obtain⟨u,d,c⟩:=h.2 i q e
   exact⟨u,by rw[Of (by rw[h.1];exact hi)];exact d,c⟩
  ·have f:=e
   rw[Ny (by lia)] at e
   have a:i - ps.length=0:=by
    rcases On (i - ps.length) with z|z
    ·exact z
    ·rw[NQ (by show 1<=_;exact z)] at e;cases e
   rw[a] at e
   cases e
   exact⟨v,by rw[Ny (by rw[h.1];lia),h.1,a];rfl,b⟩⟩
theorem Fq:oq (cp (Str.ofString ""))=false:=by rw[CQ];rfl
theorem Bk(h:s≠Str.ofString ""):oq (cp s)=true:=by
 cases e:cp s with
 |nil=>exact absurd (xh (by rw[e,CQ])) h
 |cons a r=>rfl
theorem AY {W:List (List Str)}(h:W[i]?=some ws):(W.take (i+1)).zipIdx=(W.take i).zipIdx++[(ws,i)]:=by
 have hi:i<W.length:=(Mo.mp h).1
 rw[NH,h,List.zipIdx_append,Mg,M9 (by lia)]
 simp
theorem pe {W:List (List Str)}(h:W[i]?=some ws):iI (W.take (i+1))=iI (W.take i)++(if ws.isEmpty then [] else [(ws,i)]):=by
 have hi:i<W.length:=(Mo.mp h).1
 rw[NH,h]
 show iI (W.take i++[ws])=_
 rw[yT,Mg,M9 (by lia)]
theorem fm.more{ps:List (List Str×Nat)}(h:fm H [D] ps vs)(m:H D=some (.lst us))(j:ah H H6)(d:H6 tp=none)(g:H6 wl=some (.lst (ws.map V.str)))(f:wl≠D)(p:n=((i+1:Nat):Int)){o:HO}:
  fm (upd (upd H6 tp (.tup [.int n,.ref wl])) D o) [D] (ps++[(ws,i)]) (vs++[.ref tp]):=by
 have a:tp≠D:=λz=>by rw[z,j _ _ m] at d;cases d
 have c:wl≠tp:=λz=>by rw[z,d] at g;cases g
 have up:∀b u,b≠D->H6 b=some u->upd (upd H6 tp (.tup [.int n,.ref wl])) D o b=some u:=λb u l e=>by rw[ak l,ak (ax e d)];exact e
 refine(h.kept (λb u l e=>up b u (λz=>l (by simp[z])) (j _ _ e)) (λb xs e=>up b _ (λz=>by rw[z,m] at e;cases e) (j _ _ e)) (λ_ _ _ z=>z)).snoc ⟨tp,wl,rfl,?_,up _ _ f g,by simpa using f⟩
 rw[ak a,ae,p]
theorem IM.len(h:IM ws x):x.length<=1000:=by
 obtain⟨_,_,_,_,_,_,_,h⟩:=h
 rw[cu] at h;lia
theorem FU (W:List (List Str)):(iI W).length<=W.length:=by
 have h:=OG (λp:List Str×Nat=>!p.1.isEmpty) W.zipIdx
 rw[List.length_zipIdx] at h
 exact h
noncomputable def fk (k:Nat) (W:List Rw):List Rw:=W.filter λr=>decide (kd r=k)
def FV (x:Str) (W:List Rw):Prop:=∃a:List (List Str×Str),a≠[]/\a.length<=300/\cp x=jl 10 (a.map λp=>cp p.2)/\(∀p∈a,IM p.1 p.2)/\(cp x).length<=200000/\(a.map (·.1)).filter (λb=>!b.isEmpty)=W.map λr=>(uT r).map ss
inductive wJ (vs:List V) (H:Hp) (Q:VK) (E:XK):Prop
 |mk (x:Str) (z:P3) (W:List Rw) (_:vs=[.str x]) (_:FV x (.floor z::W)) (_:Sz z) (_:(∀r∈W,gR r/\kd r≠0)) (_:∀l us H',ah H H'->H' l=some (.lst us)->Paired (TD (λ_=>True) H') us (.floor z::W)->Q (.ref l) H')
inductive rR (vs:List V) (H:Hp) (Q:VK) (E:XK):Prop
 |mk (l:Addr) (us:List V) (W:List Rw) (k:Nat) (_:vs=[.ref l,.str (kS k)]) (_:k<=6) (_:H l=some (.lst us)) (_:Paired (TD (λ_=>True) H) us W) (_:us.length<=1000) (_:∀p ws H',ah H H'->H p=none->H' p=some (.lst ws)->Paired (Pt (λ_=>True) H') ws (fk k W)->Q (.ref p) H')
noncomputable def qO (a b:Nat):List Nat:=List.range' (min a b) (max a b - min a b+1)
theorem Fn (a b:Nat):(qO a b).length=max a b - min a b+1:=by unfold qO;simp
theorem p8(h:x∈qO a b):min a b<=x/\x<=max a b:=by
 unfold qO at h
 rw[List.mem_range'_1] at h
 lia
noncomputable def vw (f s:P3) (a b:Nat):List P3:=(qO f.2.2 s.2.2).map λc=>(a,b,c)
noncomputable def zR (f s:P3) (a:Nat):List P3:=(qO f.2.1 s.2.1).flatMap λb=>vw f s a b
noncomputable def bx (f s:P3):List P3:=(qO f.1 s.1).flatMap λa=>zR f s a
theorem Iz(h:p∈bx f s):(min f.1 s.1<=p.1/\p.1<=max f.1 s.1)/\(min f.2.1 s.2.1<=p.2.1/\p.2.1<=max f.2.1 s.2.1)/\(min f.2.2 s.2.2<=p.2.2/\p.2.2<=max f.2.2 s.2.2):=by
 unfold bx at h
 obtain⟨x,c,h⟩:=NK.mp h
 obtain⟨y,a,h⟩:=NK.mp h
 obtain⟨z,b,rfl⟩:=LN.mp h
 exact⟨p8 c,p8 a,p8 b⟩
theorem JB(h:p∈bx f s)(b:In z f)(a:In z s):In z p:=by
 have:=Iz h
 unfold In at*
 lia
abbrev Kv:=List (List cS×V)
def kj (m:V) (kvs:Kv) (p:P3):Kv:=c6 kvs (iK (t3 p)) m
noncomputable def Ef (kvs:Kv) (b:V×P3×P3):Kv:=(bx b.2.1 b.2.2).foldl (kj b.1) kvs
def mk (bs:List (V×P3×P3)):Kv:=bs.foldl Ef []
def jR (p:P3):Prop:=p.1<16/\p.2.1<16/\p.2.2<16
inductive Gy (vs:List V) (H:Hp) (Q:VK) (E:XK):Prop
 |mk (a b:Nat) (_:vs=[.int (a:Nat),.int (b:Nat)]) (_:a<16) (_:b<16) (_:∀l H',ah H H'->H l=none->H' l=some (.lst ((qO a b).map λn=> .int (n:Nat)))->Q (.ref l) H')
inductive Gf (vs:List V) (H:Hp) (Q:VK) (E:XK):Prop
 |mk (b c:Addr) (f s:P3) (_:vs=[.ref b,.ref c]) (_:A3 H b f) (_:A3 H c s) (_:jR f) (_:jR s) (_:∀l H',ah H H'->H l=none->AL H' l (bx f s)->Q (.ref l) H')
def MB (H:Hp) (v:V) (b:V×P3×P3):Prop:=∃t x y,v=.ref t/\H t=some (.tup [b.1,.ref x,.ref y])/\A3 H x b.2.1/\A3 H y b.2.2
theorem MB.same(h:MB H v b)(s:ah H H'):MB H' v b:=by
 obtain⟨t,x,y,e,h1,h2,a⟩:=h
 exact⟨t,x,y,e,s _ _ h1,s _ _ h2,s _ _ a⟩
inductive sS (vs:List V) (H:Hp) (Q:VK) (E:XK):Prop
 |mk (l:Addr) (us:List V) (bs:List (V×P3×P3)) (_:vs=[.ref l]) (_:H l=some (.lst us)) (_:Paired (MB H) us bs) (_:(∀b∈bs,jR b.2.1/\jR b.2.2)) (_:bs.length<=300) (_:∀d H',ah H H'->H d=none->H' d=some (.dT (mk bs))->Q (.ref d) H')
structure Fd where
 z:P3
 ps:List (Nat×Nat)
 vs:List Nat
 rs:List P3
 ts:List (P3×Nat)
def Pr (n:Nat):Prop:=1<=n/\n<=1000000000000
structure nZ (g:Fd):Prop where
 z:Sz g.z
 pl:g.ps.length=g.z.1
 pp:∀p∈g.ps,Pr p.1/\Pr p.2
 vl:g.vs.length+1=g.z.1
 vv:∀v∈g.vs,Pr v
 ri:∀p∈g.rs,In g.z p
 rn:g.rs.Nodup
 ti:∀p∈g.ts,In g.z p.1/\p.2<=1000000000000
 tn:(g.ts.map (·.1)).Nodup
def iH (a:List P3):Kv:=a.map λp=>(iK (t3 p),.bl true)
noncomputable def j7 (ts:List (P3×Nat)):Kv:=ts.map λp=>(iK (t3 p.1),.int (p.2:Nat))
abbrev ni (ns:List Nat):List V:=ns.map λn=> .int (n:Nat)
def P2 (H:Hp) (a:Addr) (p:Nat×Nat):Prop:=H a=some (.tup [.int (p.1:Nat),.int (p.2:Nat)])
def lH (H:Hp) (l:Addr) (ps:List (Nat×Nat)):Prop:=∃as:List Addr,H l=some (.lst (as.map V.ref))/\Paired (P2 H) as ps
theorem lH.up{ps:List (Nat×Nat)}(h:lH H l ps)(u:∀xs,H l=some (.lst xs)->H' l=some (.lst xs))(s:∀b xs,H b=some (.tup xs)->H' b=some (.tup xs)):lH H' l ps:=by
 obtain⟨as,h1,h2⟩:=h
 exact⟨as,u _ h1,Paired.mapP h2 λ_ _ e=>s _ _ e⟩
noncomputable def Do:List Str:=["layer_prices", "via_prices", "rocks_told", "tolls_told", "is_rock"]
structure Lv (cF:Addr) (H:Hp) (p:Addr) (g:Fd) (dx:Addr) (fs:List (Str×V)) (a b c d e:Addr):Prop where
 ha:H p=some (.ins cF dx fs)
 f1:fs.lookup ("sizes" :Str)=some (.ref a)
 f2:fs.lookup ("prices" :Str)=some (.ref b)
 f3:fs.lookup ("vias" :Str)=some (.ref c)
 f4:fs.lookup ("rocks" :Str)=some (.ref d)
 f5:fs.lookup ("tolls" :Str)=some (.ref e)
 no:∀m∈Do,fs.lookup m=none
 z:A3 H a g.z
 pr:lH H b g.ps
 vi:H c=some (.lst (ni g.vs))
 rd:H d=some (.dT (iH g.rs))
 td:H e=some (.dT (j7 g.ts))
def pd (f:Addr) (H:Hp) (p:Addr) (g:Fd):Prop:=∃dx fs a b c d e,Lv f H p g dx fs a b c d e
theorem pd.same(h:pd cF H p g)(s:ah H H'):pd cF H' p g:=by
 obtain⟨dx,fs,a,b,c,d,e,x⟩:=h
 exact⟨dx,fs,a,b,c,d,e,{x with ha:=s _ _ x.ha,z:=s _ _ x.z,pr:=x.pr.up (λ_ h=>s _ _ h) λ_ _ h=>s _ _ h,vi:=s _ _ x.vi,rd:=s _ _ x.rd,td:=s _ _ x.td}⟩
inductive mH (vs:List V) (H:Hp) (Q:VK) (E:XK):Prop
 |mk (a b:Addr) (z p:P3) (_:vs=[.ref a,.ref b]) (_:A3 H a z) (_:A3 H b p) (_:In z p) (_:Q (.bl true) H)
inductive iJ (vs:List V) (H:Hp) (Q:VK) (E:XK):Prop
 |mk (a b:Addr) (z p:P3) (_:vs=[.ref a,.ref b]) (_:A3 H a z) (_:A3 H b p) (_:In z p) (_:Q .non H)
inductive mJ (vs:List V) (H:Hp) (Q:VK) (E:XK):Prop
 |mk (x m:Int) (_:vs=[.int x,.int m]) (_:m<=x) (_:x<=1000000000000) (_:Q .non H)
inductive nh (vs:List V) (H:Hp) (Q:VK) (E:XK):Prop
 |mk (a pr vi:Addr) (z:P3) (us ws:List V) (_:vs=[.ref a,.ref pr,.ref vi]) (_:A3 H a z) (_:Sz z) (_:H pr=some (.lst us)) (_:us.length=z.1) (_:H vi=some (.lst ws)) (_:ws.length+1=z.1) (_:∀H',ah H H'->Q .non H')
inductive kM (vs:List V) (H:Hp) (Q:VK) (E:XK):Prop
 |mk (pr vi d:Addr) (ps:List (Nat×Nat)) (ns:List Nat) (kvs:Kv) (_:vs=[.ref pr,.ref vi,.ref d]) (_:lH H pr ps) (_:(∀p∈ps,Pr p.1/\Pr p.2)) (_:H vi=some (.lst (ni ns))) (_:(∀v∈ns,Pr v)) (_:H d=some (.dT kvs)) (_:(∀kv∈kvs,∃n:Nat,kv.2=.int (n:Nat)/\n<=1000000000000)) (_:∀H',ah H H'->Q .non H')
inductive rX (cF:Addr) (vs:List V) (H:Hp) (Q:VK) (E:XK):Prop
 |mk (p b:Addr) (g:Fd) (q:P3) (_:vs=[.ref p,.ref b]) (_:pd cF H p g) (_:A3 H b q) (_:In g.z q) (_:Q (.bl (decide (q∈g.rs))) H)
inductive pW (cF:Addr) (vs:List V) (H:Hp) (Q:VK) (E:XK):Prop
 |mk (p:Addr) (g:Fd) (_:vs=[.ref p]) (_:pd cF H p g) (_:∀l H',ah H H'->H l=none->lH H' l g.ps->Q (.ref l) H')
inductive A7 (cF:Addr) (vs:List V) (H:Hp) (Q:VK) (E:XK):Prop
 |mk (p:Addr) (g:Fd) (_:vs=[.ref p]) (_:pd cF H p g) (_:∀l H',ah H H'->H l=none->H' l=some (.lst (ni g.vs))->Q (.ref l) H')
def om (ss a:List P3):Prop:=ss.Perm a/\ss.Pairwise λc d=>HT.lexLt (t3 d) (t3 c)=false
inductive ql (cF:Addr) (vs:List V) (H:Hp) (Q:VK) (E:XK):Prop
 |mk (p:Addr) (g:Fd) (_:vs=[.ref p]) (_:pd cF H p g) (_:g.rs.length<=1000) (_:nN (g.rs.map t3)) (_:∀l ss H',ah H H'->H l=none->AL H' l ss->om ss g.rs->Q (.ref l) H')
noncomputable def zE (ts:List (P3×Nat)) (c:T3):Int:=match bX (j7 ts) (iK c) with
 |some (.int i)=>i
 |_=>0
noncomputable def Kw (ts:List (P3×Nat)) (ss:List P3):List (T3×Int):=((ss.map t3).filter λc=>decide (zE ts c≠0)).map λc=>(c,zE ts c)
def PL (H:Hp) (l:Addr) (qs:List (T3×Int)):Prop:=∃bs:List Addr,H l=some (.lst (bs.map V.ref))/\Paired (IU H) bs qs
inductive qd (cF:Addr) (vs:List V) (H:Hp) (Q:VK) (E:XK):Prop
 |mk (p:Addr) (g:Fd) (_:vs=[.ref p]) (_:pd cF H p g) (_:g.ts.length<=1000) (_:nN ((g.ts.map (·.1)).map t3)) (_:∀l ss H',ah H H'->H l=none->PL H' l (Kw g.ts ss)->om ss (g.ts.map (·.1))->Q (.ref l) H')
inductive lY (cF:Addr) (vs:List V) (H:Hp) (Q:VK) (E:XK):Prop
 |mk (p dx z pr vi ro td:Addr) (g:Fd) (rs:List P3) (_:vs=[.ref p,.ref z,.ref pr,.ref vi,.ref ro,.ref td]) (_:H p=some (.ins cF dx [])) (_:nZ g) (_:rs.length<=1000) (_:∀p∈rs,In g.z p) (_:DQ (iH rs)=iH g.rs) (_:A3 H z g.z) (_:lH H pr g.ps) (_:H vi=some (.lst (ni g.vs))) (_:AL H ro rs) (_:H td=some (.dT (j7 g.ts))) (_:∀H',bU H H' p->pd cF H' p g->Q .non H')
def S4 (p:P3):Prop:=p.1<4/\p.2.1<16/\p.2.2<16
def yg (H:Hp) (t:Addr) (ps:List P3):Prop:=∃as:List Addr,H t=some (.tup (as.map V.ref))/\aX H as (ps.map t3)
structure GJ (fs:List (Str×V)) (x:Str) (h r:Nat):Prop where
 few:fs.length<=5
 name:fs.lookup ("name" :Str)=some (.str x)
 half:fs.lookup ("half" :Str)=some (.int (h:Nat))
 room:fs.lookup ("room" :Str)=some (.int (r:Nat))
 ends:fs.lookup ("ends" :Str)=none
theorem GJ.put {fs:List (Str×V)}(b:GJ fs x h r)(e:fs.length<=4)(h1:("name" :Str)≠f)(a:("half" :Str)≠f)(c:("room" :Str)≠f)(d:("ends" :Str)≠f):GJ (eW f v fs) x h r:=
 ⟨LR (bH f v fs) (by lia),by rw[aK,if_neg h1];exact b.name,by rw[aK,if_neg a];exact b.half,by rw[aK,if_neg c];exact b.room,by rw[aK,if_neg d];exact b.ends⟩
def NA (a:Addr) (H:Hp) (p:Addr) (x:Str) (h r:Nat) (ps:List P3):Prop:=∃(dx:Addr) (fs:List (Str×V)) (t:Addr),H p=some (.ins a dx fs)/\GJ fs x h r/\fs.lookup ("pins" :Str)=some (.ref t)/\yg H t ps
def BA (a:Addr) (H:Hp) (p:Addr) (x:Str) (r:Nat) (ps qs:List P3):Prop:=∃(dx:Addr) (fs:List (Str×V)) (t u:Addr),H p=some (.ins a dx fs)/\GJ fs x 0 r/\fs.lookup ("starts" :Str)=some (.ref t)/\fs.lookup ("goals" :Str)=some (.ref u)/\yg H t ps/\yg H u qs
inductive mR (vs:List V) (H:Hp) (Q:VK) (E:XK):Prop
 |mk (l:Addr) (ps:List P3) (_:vs=[.ref l]) (_:AL H l ps) (_:(∀p∈ps,S4 p)) (_:ps.Nodup) (_:ps.length<=18) (_:∀H',ah H H'->Q .non H')
inductive lR (cN cB:Addr) (vs:List V) (H:Hp) (Q:VK) (E:XK):Prop
 |mk (p C dx:Addr) (x:Str) (h r:Nat) (_:vs=[.ref p,.str x,.int (h:Nat),.int (r:Nat)]) (_:h<=2) (_:r<=3) (_:H p=some (.ins C dx [])) (_:(C=cN\/C=cB)) (_:JT x) (_:nY x=true) (_:∀H' fs,bU H H' p->H' p=some (.ins C dx fs)->GJ fs x h r->fs.length<=3->Q .non H')
inductive jZ (cN:Addr) (vs:List V) (H:Hp) (Q:VK) (E:XK):Prop
 |mk (p dx l:Addr) (x:Str) (h r:Nat) (ps:List P3) (_:vs=[.ref p,.str x,.ref l,.int (h:Nat),.int (r:Nat)]) (_:h<=2) (_:r<=3) (_:H p=some (.ins cN dx [])) (_:AL H l ps) (_:(∀p∈ps,S4 p)) (_:ps.Nodup) (_:2<=ps.length) (_:ps.length<=6) (_:JT x) (_:nY x=true) (_:∀H',bU H H' p->NA cN H' p x h r ps->Q .non H')
inductive ju (cB:Addr) (vs:List V) (H:Hp) (Q:VK) (E:XK):Prop
 |mk (p dx l m:Addr) (x:Str) (r:Nat) (ps qs:List P3) (_:vs=[.ref p,.str x,.ref l,.ref m,.int (r:Nat)]) (_:r<=3) (_:H p=some (.ins cB dx [])) (_:AL H l ps) (_:AL H m qs) (_:(∀p∈ps++qs,S4 p)) (_:(ps++qs).Nodup) (_:1<=ps.length) (_:ps.length<=6) (_:ps.length<=qs.length) (_:qs.length<=12) (_:JT x) (_:nY x=true) (_:∀H',bU H H' p->BA cB H' p x r ps qs->Q .non H')
inductive lJ (cN:Addr) (vs:List V) (H:Hp) (Q:VK) (E:XK):Prop
 |mk (p:Addr) (x:Str) (h r:Nat) (ps:List P3) (_:vs=[.ref p]) (_:NA cN H p x h r ps) (_:∀H' l,ah H H'->H l=none->AL H' l ps->Q (.ref l) H')
inductive lL (cB:Addr) (vs:List V) (H:Hp) (Q:VK) (E:XK):Prop
 |mk (p:Addr) (x:Str) (r:Nat) (ps qs:List P3) (_:vs=[.ref p]) (_:BA cB H p x r ps qs) (_:ps.length+qs.length<=100) (_:∀H' l,ah H H'->H l=none->AL H' l (ps++qs)->Q (.ref l) H')
structure Tn where
 nm:List Nat
 h:Nat
 r:Nat
 ss:List P3
 gs:List P3
abbrev Tn.st (g:Tn):Str:=K17.ss g.nm
abbrev Tn.es (g:Tn):List P3:=g.ss++g.gs
def lD (a b:Addr) (H:Hp) (p:Addr) (g:Tn):Prop:=(g.gs=[]/\NA a H p g.st g.h g.r g.ss)\/(g.gs≠[]/\g.h=0/\BA b H p g.st g.r g.ss g.gs)
theorem yg.up(h:yg H t ps)(s:∀b xs,H b=some (.tup xs)->H' b=some (.tup xs)):yg H' t ps:=by
 obtain⟨as,h1,h2⟩:=h
 exact⟨as,s _ _ h1,cA h2 s⟩
theorem lD.up(h:lD cN cB H p g)(s:∀b xs,H b=some (.tup xs)->H' b=some (.tup xs))(u:∀C dx fs,fs≠[]->H p=some (.ins C dx fs)->H' p=some (.ins C dx fs)):lD cN cB H' p g:=by
 have c:∀{fs:List (Str×V)} {h},GJ fs g.st h g.r->fs≠[]:=λb z=>by have:=b.name;rw[z] at this;cases this
 rcases h with ⟨e,dx,fs,t,h1,b,h2,a⟩|⟨e,j,dx,fs,t,v,h1,b,h2,a,f,d⟩
 ·exact .inl ⟨e,dx,fs,t,u _ _ _ (c b) h1,b,h2,a.up s⟩
 ·exact .inr ⟨e,j,dx,fs,t,v,u _ _ _ (c b) h1,b,h2,a,f.up s,d.up s⟩
theorem lD.same(h:lD cN cB H p g)(s:ah H H'):lD cN cB H' p g:=h.up (λ_ _ e=>s _ _ e) λ_ _ _ _ e=>s _ _ e
def DH (b a:Addr) (H:Hp) (p:Addr) (h r:Nat):Prop:=∃(C dx:Addr) (fs:List (Str×V)),H p=some (.ins C dx fs)/\(C=b\/C=a)/\fs.lookup ("half" :Str)=some (.int (h:Nat))/\fs.lookup ("room" :Str)=some (.int (r:Nat))
theorem DH.same(t:DH cN cB H p h r)(s:ah H H'):DH cN cB H' p h r:=by
 obtain⟨C,dx,fs,h1,h2⟩:=t
 exact⟨C,dx,fs,s _ _ h1,h2⟩
theorem lD.th(h:lD cN cB H p g):DH cN cB H p g.h g.r:=by
 rcases h with ⟨e,dx,fs,t,h1,b,_⟩|⟨e,a,dx,fs,t,v,h1,b,_⟩
 ·exact⟨_,dx,fs,h1,.inl rfl,b.half,b.room⟩
 ·exact⟨_,dx,fs,h1,.inr rfl,by rw[a];exact b.half,b.room⟩
def E5 (z:P3) (a:List P3) (p:P3) (h:Nat):Prop:=(h<=p.2.1/\p.2.1+h<z.2.1/\h<=p.2.2/\p.2.2+h<z.2.2)/\∀q:P3,q.1=p.1->(p.2.1<=q.2.1+h/\q.2.1<=p.2.1+h)->(p.2.2<=q.2.2+h/\q.2.2<=p.2.2+h)->q∉a
inductive xB (vs:List V) (H:Hp) (Q:VK) (E:XK):Prop
 |mk (a b:Addr) (p q:P3) (_:vs=[.ref a,.ref b]) (_:A3 H a p) (_:A3 H b q) (_:Q (if p.1=q.1 then .int (max (ko p.2.1 q.2.1) (ko p.2.2 q.2.2):Nat) else .non) H)
inductive xN (cN cB:Addr) (vs:List V) (H:Hp) (Q:VK) (E:XK):Prop
 |mk (p p':Addr) (h r h' r':Nat) (_:vs=[.ref p,.ref p']) (_:DH cN cB H p h r) (_:DH cN cB H p' h' r') (_:Q (.int (h+h'+max r r':Nat)) H)
inductive wW (cN cB:Addr) (vs:List V) (H:Hp) (Q:VK) (E:XK):Prop
 |mk (p a p' b:Addr) (u v:P3) (h r h' r':Nat) (_:vs=[.ref p,.ref a,.ref p',.ref b]) (_:DH cN cB H p h r) (_:DH cN cB H p' h' r') (_:A3 H a u) (_:A3 H b v) (_:gc v h' r' (u,h,r)=false) (_:Q (.bl false) H)
inductive rN (cN cB:Addr) (vs:List V) (H:Hp) (Q:VK) (E:XK):Prop
 |mk (p l p' m:Addr) (us ws:List P3) (h r h' r':Nat) (_:vs=[.ref p,.ref l,.ref p',.ref m]) (_:DH cN cB H p h r) (_:DH cN cB H p' h' r') (_:AL H l us) (_:AL H m ws) (_:ws.length<=1000) (_:(∀u∈us,∀w∈ws,gc w h' r' (u,h,r)=false)) (_:∀H',ah H H'->Q (.bl false) H')
noncomputable def Ku (p:P3) (h:Nat):List P3:=(List.range (2*h+1)).flatMap λi=>(List.range (2*h+1)).map λj=>(p.1,p.2.1 - h+i,p.2.2 - h+j)
inductive tE (K:LO) (vs:List V) (H:Hp) (Q:VK) (E:XK):Prop
 |mk (a b:Addr) (z p:P3) (h:Nat) (_:vs=[.ref a,.ref b,.int (h:Nat)]) (_:A3 H a z) (_:Sz z) (_:A3 H b p) (_:h<=p.2.1/\p.2.1+h<z.2.1/\h<=p.2.2/\p.2.2+h<z.2.2) (_:∀l H',ah H H'->H l=none->AL H' l (Ku p h)->Q (.ref l) H')
inductive Dh (cN cB cF:Addr) (vs:List V) (H:Hp) (Q:VK) (E:XK):Prop
 |mk (p t b:Addr) (g:Fd) (q:P3) (h r:Nat) (_:vs=[.ref p,.ref t,.ref b]) (_:pd cF H p g) (_:Sz g.z) (_:DH cN cB H t h r) (_:A3 H b q) (_:In g.z q) (_:E5 g.z g.rs q h) (_:∀H',ah H H'->Q (.bl true) H')
abbrev oa (cN cB:Addr) (H:Hp) (ps:List Addr) (gs:List Tn):Prop:=Paired (λp g=>lD cN cB H p g) ps gs
structure kG (z:P3) (rs:List P3) (gs:List Tn):Prop where
 nm:(gs.map Tn.st).Nodup
 few:gs.length<=12
 ln:∀g∈gs,g.ss.length+g.gs.length<=18
 ok:∀g∈gs,∀c∈g.es,In z c/\E5 z rs c g.h
 cr:gs.Pairwise λg h=>∀c∈g.es,∀d∈h.es,gc d h.h h.r (c,g.h,g.r)=false
noncomputable def t7 (b:List Tn) (ps:List Addr):List (cS×V):=(b.zip ps).map λa=>(.inr a.1.st,.ref a.2)
def Kz (a h e j:Addr) (H:Hp) (b:Addr) (g:Fd) (c:List Tn):Prop:=∃(dx:Addr) (fs:List (Str×V)) (d f:Addr) (ps:List Addr),H b=some (.ins a dx fs)/\fs.lookup ("floor" :Str)=some (.ref f)/\fs.lookup ("by_name" :Str)=some (.ref d)/\fs.lookup ("things" :Str)=none/\H d=some (.dK (t7 c ps))/\oa h e H ps c/\pd j H f g
inductive sI (cN cB:Addr) (vs:List V) (H:Hp) (Q:VK) (E:XK):Prop
 |mk (l:Addr) (ps:List Addr) (gs:List Tn) (_:vs=[.ref l]) (_:H l=some (.lst (ps.map V.ref))) (_:oa cN cB H ps gs) (_:(gs.map Tn.st).Nodup) (_:gs.length<=12) (_:∀H',ah H H'->Q .non H')
inductive wo (cN cB cF:Addr) (vs:List V) (H:Hp) (Q:VK) (E:XK):Prop
 |mk (f l:Addr) (ps:List Addr) (gs:List Tn) (g:Fd) (_:vs=[.ref f,.ref l]) (_:pd cF H f g) (_:Sz g.z) (_:H l=some (.lst (ps.map V.ref))) (_:oa cN cB H ps gs) (_:kG g.z g.rs gs) (_:∀H',ah H H'->Q .non H')
inductive oV (cN cB:Addr) (vs:List V) (H:Hp) (Q:VK) (E:XK):Prop
 |mk (l:Addr) (ps:List Addr) (gs:List Tn) (z:P3) (rs:List P3) (_:vs=[.ref l]) (_:H l=some (.lst (ps.map V.ref))) (_:oa cN cB H ps gs) (_:kG z rs gs) (_:∀H',ah H H'->Q .non H')
inductive mf (cN cB cF cBo:Addr) (vs:List V) (H:Hp) (Q:VK) (E:XK):Prop
 |mk (p dx f l:Addr) (ps:List Addr) (gs:List Tn) (g:Fd) (_:vs=[.ref p,.ref f,.ref l]) (_:H p=some (.ins cBo dx [])) (_:pd cF H f g) (_:Sz g.z) (_:H l=some (.lst (ps.map V.ref))) (_:oa cN cB H ps gs) (_:kG g.z g.rs gs) (_:∀H',bU H H' p->Kz cBo cN cB cF H' p g gs->Q .non H')
inductive jm (cBo:Addr) (vs:List V) (H:Hp) (Q:VK) (E:XK):Prop
 |mk (b dx d:Addr) (fs:List (Str×V)) (ps:List Addr) (gs:List Tn) (_:vs=[.ref b]) (_:H b=some (.ins cBo dx fs)) (_:fs.lookup ("by_name" :Str)=some (.ref d)) (_:H d=some (.dK (t7 gs ps))) (_:ps.length=gs.length) (_:gs.length<=12) (_:∀H' l,ah H H'->H l=none->H' l=some (.lst (ps.map V.ref))->Q (.ref l) H')
structure iu (g:Tn):Prop where
 gd:hV g.nm=true
 hh:g.h<=2
 rr:g.r<=3
 s4:∀p∈g.es,S4 p
 nd:g.es.Nodup
 sh:(g.gs=[]/\2<=g.ss.length/\g.ss.length<=6)\/(g.gs≠[]/\g.h=0/\1<=g.ss.length/\g.ss.length<=6/\g.ss.length<=g.gs.length/\g.gs.length<=12)
noncomputable def uw:Rw->Option Tn
 | .net x h r cs=>some ⟨x,h,r,cs,[]⟩
 | .bun x r cs ds=>some ⟨x,0,r,cs,ds⟩
 |_=>none
inductive tV (cN cB:Addr) (vs:List V) (H:Hp) (Q:VK) (E:XK):Prop
 |mk (v:V) (r:Rw) (g:Tn) (_:vs=[.str (kS (kd r)),v]) (_:Pt (λ_=>True) H v r) (_:uw r=some g) (_:iu g) (_:(∀x k cs ds,r=.bun x k cs ds->ds≠[])) (_:∀p H',ah H H'->H p=none->lD cN cB H' p g->Q (.ref p) H')
noncomputable def g9:Rw->Option (V×P3×P3)
 | .rock cs=>some (.bl true,hd cs,ls cs)
 |_=>none
noncomputable def iG:Rw->Option (V×P3×P3)
 | .toll p cs=>some (.int (p:Nat),hd cs,ls cs)
 |_=>none
noncomputable def EF:Rw->List P3
 | .rock cs=>[hd cs,ls cs]
 | .toll _ cs=>[hd cs,ls cs]
 |_=>[]
abbrev Sv:=List (P3×V)
def eG (kvs:Sv):Kv:=kvs.map λp=>(iK (t3 p.1),p.2)
noncomputable def uC (kvs:Sv) (b:V×P3×P3):Sv:=(bx b.2.1 b.2.2).foldl (λk p=>c6 k p b.1) kvs
def IR (bs:List (V×P3×P3)):Sv:=bs.foldl uC []
theorem zL (kvs:Sv)(p:P3):(bX (eG kvs) (iK (t3 p))).isSome=(bX kvs p).isSome:=by
 rw[Nv,fD,fD]
 unfold eG
 rw[LV,LN,LN]
 constructor
 ·rintro⟨q,a,e⟩
  exact⟨q,a,gh (kg e)⟩
 ·rintro⟨q,a,e⟩
  exact⟨q,a,by rw[<-e];rfl⟩
theorem C_ (kvs:Sv)(p:P3)(v:V):c6 (eG kvs) (iK (t3 p)) v=eG (c6 kvs p v):=by
 unfold c6
 rw[dB,dB,zL]
 by_cases h:(bX kvs p).isSome=true
 ·rw[if_pos h,if_pos h]
  unfold eG
  rw[LV,LV]
  refine My λq _=>?_
  show(if iK (t3 q.1)=iK (t3 p) then _ else _)=(iK (t3 (if q.1=p then (q.1,v) else q).1),(if q.1=p then (q.1,v) else q).2)
  by_cases e:q.1=p
  ·rw[if_pos (by rw[e]),if_pos e]
  ·rw[if_neg (λz=>e (gh (kg z))),if_neg e]
 ·rw[if_neg h,if_neg h]
  unfold eG
  rw[LQ];rfl
theorem Gv (bs:List (V×P3×P3)):mk bs=eG (IR bs):=by
 have a:∀(m:V) (ps:List P3) (k:Sv),ps.foldl (kj m) (eG k)=eG (ps.foldl (λk p=>c6 k p m) k):=λm ps=>by
  induction ps with
  |nil=>exact λ_=>rfl
  |cons p r ih=>exact λk=>by rw[Mx,Mx,<-ih];unfold kj;rw[C_]
 have c:∀(bs:List (V×P3×P3)) (k:Sv),bs.foldl Ef (eG k)=eG (bs.foldl uC k):=λbs=>by
  induction bs with
  |nil=>exact λ_=>rfl
  |cons b r ih=>exact λk=>by rw[Mx,Mx,<-ih];unfold Ef uC;rw[a]
 exact c bs []
structure n_ (z:P3) (P:V->Prop) (k:Sv):Prop where
 nd:(k.map (·.1)).Nodup
 sp:∀p∈k,In z p.1/\P p.2
theorem n_.put{P:V->Prop}(h:n_ z P k)(f:In z p)(d:P v):n_ z P (c6 k p v):=by
 constructor
 ·rw[yK]
  by_cases e:(bX k p).isSome=true
  ·rw[if_pos e];exact h.nd
  ·rw[if_neg e,MQ]
   refine⟨h.nd,by simp,λa ha b j n=>e ?_⟩
   rw[fD,<-LY.mp j,<-n];exact ha
 ·unfold c6
  rw[dB]
  intro q c
  by_cases e:(bX k p).isSome=true
  ·rw[if_pos e] at c
   obtain⟨r,hr,rfl⟩:=LN.mp c
   by_cases e2:r.1=p
   ·rw[if_pos e2];exact⟨(h.sp r hr).1,d⟩
   ·rw[if_neg e2];exact h.sp r hr
  ·rw[if_neg e] at c
   rcases L_.mp c with g|g
   ·exact h.sp q g
   ·rw[LY.mp g];exact⟨f,d⟩
theorem DK{P:V->Prop}{bs:List (V×P3×P3)}(h:∀b∈bs,In z b.2.1/\In z b.2.2/\P b.1):n_ z P (IR bs):=by
 have c:∀(m:V) (_:P m) (ps:List P3) (_:∀p∈ps,In z p) (k:Sv),n_ z P k->n_ z P (ps.foldl (λk p=>c6 k p m) k):=λm j ps=>by
  induction ps with
  |nil=>exact λ_ _ h=>h
  |cons p r ih=>exact λd k e=>by rw[Mx];exact ih (λq f=>d q (LZ _ f)) _ (e.put (d p LX) j)
 have a:∀(bs:List (V×P3×P3)) (_:∀b∈bs,In z b.2.1/\In z b.2.2/\P b.1) (k:Sv),n_ z P k->n_ z P (bs.foldl uC k):=λbs=>by
  induction bs with
  |nil=>exact λ_ _ h=>h
  |cons b r ih=>
   intro g k e
   rw[Mx]
   obtain⟨h1,h2,l⟩:=g b LX
   exact ih (λq f=>g q (LZ _ f)) _ (c b.1 l _ (λp d=>JB d h1 h2) k e)
 exact a bs h [] ⟨NN,λ_ h=>nomatch h⟩
noncomputable def FE:Rw->Option (Nat×Nat)
 | .layer a b=>some (a,b)
 |_=>none
def BE:Rw->Option Nat
 | .via a=>some a
 |_=>none
def e_:V->Nat
 | .int i=>i.toNat
 |_=>0
def GL (W:List Rw):Sv:=IR (W.filterMap g9)
def Hq (W:List Rw):Sv:=IR (W.filterMap iG)
noncomputable def t9 (z:P3) (W:List Rw):Fd:=⟨z,W.filterMap FE,W.filterMap BE,(GL W).map (·.1),(Hq W).map λp=>(p.1,e_ p.2)⟩
structure BI (z:P3) (W:List Rw):Prop where
 sz:Sz z
 ok:∀r∈W,gR r/\kd r≠0
 bx:∀r∈W,∀c∈EF r,In z c
 rl:(GL W).length<=500
 ly:(W.filterMap FE).length=z.1
 lp:∀p∈W.filterMap FE,Pr p.1/\Pr p.2
 va:(W.filterMap BE).length+1=z.1
 vp:∀v∈W.filterMap BE,Pr v
 tl:∀p cs,Rw.toll p cs∈W->p<=1000000000000
theorem BI.rk(h:BI z W):n_ z (· =.bl true) (GL W):=DK λb a=>by
 obtain⟨r,hr,e⟩:=MF.mp a
 cases r<;>cases e
 exact⟨h.bx _ hr _ (by simp[EF]),h.bx _ hr _ (by simp[EF]),rfl⟩
theorem BI.ts(h:BI z W):n_ z (λv=>∃n:Nat,v=.int (n:Nat)/\n<=1000000000000) (Hq W):=DK λb a=>by
 obtain⟨r,hr,e⟩:=MF.mp a
 cases r<;>cases e
 exact⟨h.bx _ hr _ (by simp[EF]),h.bx _ hr _ (by simp[EF]),_,rfl,h.tl _ _ hr⟩
theorem HI(h:BI z W):iH (t9 z W).rs=mk (W.filterMap g9):=by
 rw[Gv]
 show iH ((GL W).map (·.1))=eG (GL W)
 unfold iH eG
 rw[LV]
 exact My λp a=>by rw[(h.rk.sp p a).2];rfl
theorem GY(h:BI z W):j7 (t9 z W).ts=mk (W.filterMap iG):=by
 rw[Gv]
 show j7 ((Hq W).map λp=>(p.1,e_ p.2))=eG (Hq W)
 unfold j7 eG
 rw[LV]
 exact My λp a=>by
  obtain⟨n,e,_⟩:=(h.ts.sp p a).2
  show(iK (t3 p.1),V.int (e_ p.2:Nat))=(iK (t3 p.1),p.2)
  rw[e];rfl
theorem BI.fd {z:P3}{W:List Rw}(h:BI z W):nZ (t9 z W) where
 z:=h.sz
 pl:=h.ly
 pp:=h.lp
 vl:=h.va
 vv:=h.vp
 ri:=λp c=>by
  obtain⟨q,d,rfl⟩:=LN.mp c
  exact(h.rk.sp q d).1
 rn:=h.rk.nd
 ti:=λp c=>by
  obtain⟨q,d,rfl⟩:=LN.mp c
  obtain⟨a,n,e,b⟩:=h.ts.sp q d
  exact⟨a,by rw[e];exact b⟩
 tn:=by
  show(((Hq W).map λp=>(p.1,e_ p.2)).map (·.1)).Nodup
  rw[LV];exact h.ts.nd
inductive sd (cF:Addr) (vs:List V) (H:Hp) (Q:VK) (E:XK):Prop
 |mk (l:Addr) (us:List V) (z:P3) (W:List Rw) (_:vs=[.ref l]) (_:H l=some (.lst us)) (_:Paired (TD (λ_=>True) H) us (.floor z::W)) (_:us.length<=300) (_:BI z W) (_:∀p H',ah H H'->H p=none->pd cF H' p (t9 z W)->Q (.ref p) H')
inductive Dj (cN cB cF cBo:Addr) (vs:List V) (H:Hp) (Q:VK) (E:XK):Prop
 |mk (x:Str) (z:P3) (W:List Rw) (_:vs=[.str x]) (_:FV x (.floor z::W)) (_:BI z W) (_:(∀r∈W,∀x k cs ds,r=.bun x k cs ds->ds≠[])) (_:(∀r∈W,∀g,uw r=some g->iu g)) (_:kG z (t9 z W).rs (W.filterMap uw)) (_:∀p H',ah H H'->H p=none->Kz cBo cN cB cF H' p (t9 z W) (W.filterMap uw)->Q (.ref p) H')
theorem sx:∀c∈h8,97<=c/\c<=122:=by decide+kernel
theorem Ba:∀c∈u_,48<=c/\c<=57:=by decide+kernel
theorem pf(h:hV x=true):(∀c∈x,(97<=c/\c<=122)\/(48<=c/\c<=57))/\1<=x.length/\x.length<=12:=by
 cases x with
 |nil=>cases h
 |cons c r=>
  rw[gu,MD,MD,decide_eq_true_iff,decide_eq_true_iff,NB] at h
  obtain⟨⟨h1,h2⟩,a⟩:=h
  refine⟨λd hd=>?_,by rw[L5];lia,by rw[L5];lia⟩
  rcases LS.mp hd with rfl|hd
  ·exact .inl (sx _ h2)
  ·have:=a d hd
   rw[Bool.or_eq_true,decide_eq_true_iff,decide_eq_true_iff] at this
   exact this.imp (sx d) (Ba d)
theorem jw(h:hV x=true):JT (ss x):=by
 have a:=pf h
 have p:Pl (ss x):=Pl.of (λc b=>by rw[bY] at b;have:=a.1 c b;lia) (by rw[bY];lia)
 exact⟨p.as,p.ln⟩
theorem lS(h:hV x=true):nY (ss x)=true:=by unfold nY;rw[bY];exact h
def cr (f l:P3):List P3:=if f=l then [f] else [f,l]
def rt (r:Rw):List Nat:=jl 32 (uT r)
def DN (W:List Rw):List Nat:=jl 10 (W.map rt)
abbrev Rn:=P3×P3×V
def Gr (r:Rn):Rw:=.rock (cr r.1 r.2.1)
def GA (r:Rn):Rw:=.toll (e_ r.2.2) (cr r.1 r.2.1)
noncomputable def pC (g:Tn):Rw:=if g.gs=[] then .net g.nm g.h g.r g.ss else .bun g.nm g.r g.ss g.gs
def DS (p:Nat×Nat):Rw:=.layer p.1 p.2
def RT (H:Hp) (v:V) (r:Rn):Prop:=∃t a b,v=.ref t/\H t=some (.tup [.ref a,.ref b,r.2.2])/\A3 H a r.1/\A3 H b r.2.1
theorem RT.up{r:Rn}(h:RT H v r)(s:∀b xs,H b=some (.tup xs)->H' b=some (.tup xs)):RT H' v r:=by
 obtain⟨t,a,b,e,h1,h2,c⟩:=h
 exact⟨t,a,b,e,s _ _ h1,s _ _ h2,s _ _ c⟩
def mU (ps:List P3):Prop:=ps.Pairwise λc d=>HT.lexLt (t3 c) (t3 d)=true
inductive vN (vs:List V) (H:Hp) (Q:VK) (E:XK):Prop
 |mk (d:Addr) (kvs:Sv) (pl:Bool) (_:vs=[.ref d]) (_:H d=some (.dT (eG kvs))) (_:mU (kvs.map (·.1))) (_:kvs.length<=1000) (_:∀p∈kvs,zg pl p.2) (_:∀l us H',ah H H'->H l=none->H' l=some (.lst us)->Paired (RT H') us (cm kvs)->Q (.ref l) H')
inductive qS (vs:List V) (H:Hp) (Q:VK) (E:XK):Prop
 |mk (t:Addr) (p:P3) (_:vs=[.ref t]) (_:A3 H t p) (_:p.1<16/\p.2.1<16/\p.2.2<16) (_:Q (sv (dr p)) H)
inductive vW (vs:List V) (H:Hp) (Q:VK) (E:XK):Prop
 |mk (k:Str) (t:Addr) (ns:List Nat) (_:vs=[.str k,.ref t]) (_:H t=some (.tup (ni ns))\/H t=some (.lst (ni ns))) (_:ns.length<=10) (_:∀n∈ns,n<10^14) (_:k.length<=10) (_:∀H',ah H H'->Q (sv (jl 32 (cp k::ns.map dg))) H')
inductive mm (vs:List V) (H:Hp) (Q:VK) (E:XK):Prop
 |mk (t:Addr) (as:List Addr) (ps:List P3) (_:vs=[.ref t]) (_:H t=some (.tup (as.map V.ref))\/H t=some (.lst (as.map V.ref))) (_:aX H as (ps.map t3)) (_:Sm ps) (_:ps.length<=18) (_:∀l H',ah H H'->H l=none->WL H' l (ps.map dr)->Q (.ref l) H')
inductive um (vs:List V) (H:Hp) (Q:VK) (E:XK):Prop
 |mk (a b:Addr) (f s:P3) (_:vs=[.ref a,.ref b]) (_:A3 H a f) (_:A3 H b s) (_:Sm [f,s]) (_:∀l H',ah H H'->H l=none->WL H' l ((cr f s).map dr)->Q (.ref l) H')
inductive vH (cN cB:Addr) (vs:List V) (H:Hp) (Q:VK) (E:XK):Prop
 |mk (p:Addr) (g:Tn) (_:vs=[.ref p]) (_:lD cN cB H p g) (_:iu g) (_:∀H',ah H H'->Q (sv (rt (pC g))) H')
structure sr (g:Fd) (rks:List P3) (tls:Sv):Prop where
 r1:mU rks
 r2:g.rs=rks\/g.rs=rks.reverse
 r3:∀p∈rks,In g.z p
 rl:rks.length<=500
 t1:mU (tls.map (·.1))
 t2:nN ((g.ts.map (·.1)).map t3)
 tq:∀ss,om ss (g.ts.map (·.1))->Kw g.ts ss=tls.map λp=>(t3 p.1,((e_ p.2:Nat):Int))
 t4:∀p∈tls,In g.z p.1/\∃n:Nat,p.2=.int (n:Nat)/\n<=1000000000000
 tl:tls.length<=500/\g.ts.length<=1000
def mj (a:List P3):Sv:=a.map λp=>(p,.bl true)
inductive xM (cF:Addr) (vs:List V) (H:Hp) (Q:VK) (E:XK):Prop
 |mk (p:Addr) (g:Fd) (rks:List P3) (tls:Sv) (_:vs=[.ref p]) (_:pd cF H p g) (_:Sz g.z) (_:sr g rks tls) (_:∀l H',ah H H'->H l=none->WL H' l ((cm (mj rks)).map λr=>rt (Gr r))->Q (.ref l) H')
inductive xW (cF:Addr) (vs:List V) (H:Hp) (Q:VK) (E:XK):Prop
 |mk (p:Addr) (g:Fd) (rks:List P3) (tls:Sv) (_:vs=[.ref p]) (_:pd cF H p g) (_:Sz g.z) (_:sr g rks tls) (_:∀l H',ah H H'->H l=none->WL H' l ((cm tls).map λr=>rt (GA r))->Q (.ref l) H')
noncomputable def wr (g:Fd) (b:List P3) (a:Sv) (c:List Tn):List Rw:=.floor g.z::(g.ps.map DS++(g.vs.map Rw.via++((cm (mj b)).map Gr++((cm a).map GA++c.map pC))))
inductive o_ (cN cB cF cBo:Addr) (vs:List V) (H:Hp) (Q:VK) (E:XK):Prop
 |mk (b:Addr) (g:Fd) (gs:List Tn) (rks:List P3) (tls:Sv) (_:vs=[.ref b]) (_:Kz cBo cN cB cF H b g gs) (_:nZ g) (_:sr g rks tls) (_:∀t∈gs,iu t) (_:gs.length<=12) (_:(cm (mj rks)).length+(cm tls).length<=200) (_:∀H',ah H H'->Q (sv (DN (wr g rks tls gs))) H')
inductive i5 (vs:List V) (H:Hp) (Q:VK) (E:XK):Prop
 |mk (h:List Nat) (a b:Addr) (f s:P3) (_:vs=[sv h,.ref a,.ref b]) (_:A3 H a f) (_:A3 H b s) (_:Sm [f,s]) (_:h.length<=100) (_:∀H',ah H H'->Q (sv (jl 32 (h::(cr f s).map dr))) H')
abbrev kX (z:P3) (cs:List Int):List (g_ V)×List (g_ V):=gP (.bl true) V.int z 0 cs
inductive xC (vs:List V) (H:Hp) (Q:VK) (E:XK):Prop
 |mk (c a:Addr) (cs:List Int) (z:P3) (_:vs=[.ref c,.ref a]) (_:H c=some (.lst (cs.map V.int))) (_:A3 H a z) (_:Sz z) (_:cs.length<=63)
  (_:∀t ra td rl H',ah H H'->H' t=some (.tup [.ref ra,.ref td,.ref rl])->AL H' ra ((kX z cs).1.flatMap bG)->H' td=some (.dT (eG ((kX z cs).2.flatMap bu)))->WL H' rl (((kX z cs).1.map λt=>rt (Gr (jn t)))++(kX z cs).2.map λt=>rt (GA (jn t)))->Q (.ref t) H')
def zH (H:Hp) (v:V) (g:Tn):Prop:=∃t a b,v=.ref t/\H t=some (.tup [sv g.nm,.int (g.h:Nat),.int (g.r:Nat),.ref a,.ref b])/\AL H a g.ss/\AL H b g.gs
theorem zH.same(h:zH H v g)(s:ah H H'):zH H' v g:=by
 obtain⟨t,a,b,e,h1,h2,c⟩:=h
 exact⟨t,a,b,e,s _ _ h1,h2.same s,c.same s⟩
inductive pq (vs:List V) (H:Hp) (Q:VK) (E:XK):Prop
 |mk (c a d:Addr) (cs:List Int) (z:P3) (rks:List P3) (place:Nat) (_:vs=[.ref c,.ref a,.ref d,.int (place:Nat)]) (_:H c=some (.lst (cs.map V.int))) (_:cs.length<=63) (_:A3 H a z) (_:Sz z) (_:H d=some (.dT (iH rks))) (_:place<10)
  (_:∀l us gs H',ah H H'->H l=none->H' l=some (.lst us)->Paired (zH H') us gs->kG z rks gs->(∀g∈gs,iu g)->Q (.ref l) H')
inductive BQ (vs:List V) (H:Hp) (Q:VK) (E:XK):Prop
 |mk (v:V) (g:Tn) (_:vs=[v]) (_:zH H v g) (_:iu g) (_:∀H',ah H H'->Q (sv (rt (pC g))) H')
inductive xj (cN cB:Addr) (vs:List V) (H:Hp) (Q:VK) (E:XK):Prop
 |mk (v:V) (g:Tn) (_:vs=[v]) (_:zH H v g) (_:iu g) (_:∀p H',ah H H'->H p=none->lD cN cB H' p g->Q (.ref p) H')
inductive xm (cN cB:Addr) (vs:List V) (H:Hp) (Q:VK) (E:XK):Prop
 |mk (p:Addr) (v:V) (g:Tn) (_:vs=[.ref p,v]) (_:lD cN cB H p g) (_:zH H v g) (_:iu g) (_:∀H',ah H H'->Q (.bl true) H')
inductive xu (cN cB cF cBo:Addr) (vs:List V) (H:Hp) (Q:VK) (E:XK):Prop
 |mk (b sz pr vi ro td th:Addr) (g:Fd) (gs:List Tn) (rks:List P3) (tls:Sv) (us:List V) (_:vs=[.ref b,.ref sz,.ref pr,.ref vi,.ref ro,.ref td,.ref th]) (_:Kz cBo cN cB cF H b g gs) (_:nZ g) (_:sr g rks tls) (_:A3 H sz g.z) (_:lH H pr g.ps) (_:H vi=some (.lst (ni g.vs))) (_:AL H ro rks) (_:H td=some (.dT (eG tls))) (_:H th=some (.lst us)) (_:Paired (zH H) us gs) (_:∀t∈gs,iu t) (_:gs.length<=12) (_:∀H',ah H H'->Q (.bl true) H')
inductive xP (K:LO) (vs:List V) (H:Hp) (Q:VK) (E:XK):Prop
 |mk (a:Addr) (ns:List Int) (_:vs=[.ref a]) (_:aF K H a (ns.map V.int)) (_:ns.length<=63) (_:∀H',Q (.bl true) H')
noncomputable def uk:Nat->Hp->V->V->Prop
 |0=>λ_ _ _=>False
 |n+1=>λH v w=>(∃i:Int,v=.int i/\w=.int i)\/(∃x:Str,v=.str x/\w=.str x)\/∃(a b:Addr) (vs c:List V),v=.ref a/\w=.ref b/\((H a=some (.lst vs)/\H b=some (.lst c))\/(H a=some (.tup vs)/\H b=some (.tup c)))/\vs.length<=1000/\Paired (uk n H) vs c
theorem uk.same(s:ah H H'){n:Nat}:∀{v w:V},uk n H v w->uk n H' v w:=by
 induction n with
 |zero=>exact λh=>h
 |succ n ih=>
  rintro v w (h|h|⟨a,b,vs,j,d,f,h,g,c⟩)
  ·exact .inl h
  ·exact .inr (.inl h)
  ·exact .inr (.inr ⟨a,b,vs,j,d,f,h.imp (λh=>⟨s _ _ h.1,s _ _ h.2⟩) (λh=>⟨s _ _ h.1,s _ _ h.2⟩),g,Paired.mapP c λ_ _ e=>ih e⟩)
theorem xX:uk (n+1) H (.int i) (.int i):=.inl ⟨i,rfl,rfl⟩
theorem uP:∀{vs:List V},(∀v∈vs,∃i:Int,v=.int i)->Paired (uk (n+1) H) vs vs
 |[],_=> .nil
 |v::r,h=> .cons (by obtain⟨i,rfl⟩:=h v LX;exact xX) (uP λu a=>h u (LZ _ a))
theorem Ck(h1:H a=some (.tup vs))(d:H b=some (.tup vs))(h:∀v∈vs,∃i:Int,v=.int i)(c:vs.length<=1000):uk (n+2) H (.ref a) (.ref b):=.inr (.inr ⟨a,b,vs,vs,rfl,rfl,.inr ⟨h1,d⟩,c,uP h⟩)
theorem GD(h1:A3 H a p)(d:A3 H b p):uk (n+2) H (.ref a) (.ref b):=Ck h1 d (λv c=>by obtain⟨i,_,rfl⟩:=LN.mp c;exact⟨i,rfl⟩) (by show 3<=1000;decide)
theorem Cd {n:Nat}{H:Hp}{as bs:List Addr}{ps:List P3}(h1:aX H as (ps.map t3))(a:aX H bs (ps.map t3)):Paired (uk (n+2) H) (as.map V.ref) (bs.map V.ref):=by
 induction ps generalizing as bs with
 |nil=>cases h1;cases a;exact .nil
 |cons p r ih=>
  cases h1 with|cons x t=>cases a with|cons y u=>exact .cons (GD x y) (ih t u)
theorem JU(h1:AL H l ps)(e:AL H m ps)(d:ps.length<=1000):uk (n+3) H (.ref l) (.ref m):=by
 obtain⟨as,b,a⟩:=h1
 obtain⟨bs,c,b2⟩:=e
 exact .inr (.inr ⟨l,m,_,_,rfl,rfl,.inl ⟨b,c⟩,by rw[LK,Paired.length a,LK];exact d,Cd a b2⟩)
inductive gH (n:Nat) (vs:List V) (H:Hp) (Q:VK) (E:XK):Prop
 |mk (v w:V) (_:vs=[v,w]) (_:uk n H v w) (_:∀H',ah H H'->Q (.bl true) H')
theorem yd(h:gH 0 vs H Q E):False:=by
 obtain⟨_,_,_,h,_⟩:=h;exact h
section
variable {P:Program} {w:World} {K:LO} {mg:Str->Option Value} {base:Heap}
set_option maxHeartbeats 1000000
theorem HX:∀j,j<ua place->((List.range (ua place)).map pF)[j]?=some (pF j):=λj h=>by
 rw[L7,OD h];rfl
noncomputable def zG (place:Nat):Str:=if place=0 then Str.ofString "abcdefghijklmnopqrstuvwxyz" else Str.ofString "abcdefghijklmnopqrstuvwxyz" ++Str.ofString "0123456789"
theorem Cc (place:Nat):cp (zG place)=(List.range (ua place)).map pF:=by
 unfold zG ua
 split<;>decide+kernel
theorem E_ (place:Nat):(zG place).length=ua place:=by
 rw[<-cu,Cc];simp
theorem D3 (h:Int):jq [V.str (Str.ofString ""),V.str (Str.ofString "o"),V.str (Str.ofString "9z")] (h/36%3)=some (sv (pK h)):=by
 unfold pK sv
 have:h/36%3=0\/h/36%3=1\/h/36%3=2:=by lia
 rcases this with e|e|e<;>rw[e]
 ·exact congrArg (λz=>some (V.str z)) (by decide+kernel:Str.ofString "" =ss [])
 ·exact congrArg (λz=>some (V.str z)) (by decide+kernel:Str.ofString "o" =ss [111])
 ·exact congrArg (λz=>some (V.str z)) (by decide+kernel:Str.ofString "9z" =ss [57,122])
theorem qC(h:ic t σ H a)(h1:a=true->Q true H)(b:a=false->u σ H Q):Hf t u σ H Q:=h _ (by
 cases a with
 |false=>exact eF (b rfl)
 |true=>exact i_ (h1 rfl))
theorem Fs{K:LO}(h:nQ tl σ H λy H1=>td σ H1 λx H2=>∃a o,x=.ref a/\jy H2 a y o/\∃b,V.bl o.isSome=.bl b/\Q b H2):tB (D1 (nQ tl) td) σ H Q:=h
theorem fP(h:σ[n]?=some (some (.ref p)))(e:A3 H p g)(a:jq ((t3 g).map V.int) i=some v):Ev (fv (nW K) (cR n) (tC (.int i))) σ H v:=fc (aa h) ar (bW.of e) a
theorem xI(h:ic t σ H a)(h1:a=false->Q false H)(b:a=true->u σ H Q):zj t u σ H Q:=h _ (by
 cases a with
 |false=>exact eF (h1 rfl)
 |true=>exact i_ (b rfl))
theorem FC(h:nk tl σ H vs)(q:sp vs H (λx H1=>∃b,x=.bl b/\if b=true then u σ H1 Q else Q false H1) E0):zj (tB (dY sp [] E0 tl)) u σ H Q:=aP h q
theorem E3(h:nk tl σ H vs)(q:sp vs H (λx H1=>∃b,x=.bl b/\Q (!b) H1) E0):zi (tB (dY sp [] E0 tl)) σ H Q:=aP h q
theorem He {p:P3}{ps:List P3}:t3 p∈ps.map t3↔p∈ps:=⟨λh=>by
 obtain⟨q,a,e⟩:=LN.mp h
 exact gh e▸a,λh=>LN.mpr ⟨p,h,rfl⟩⟩
theorem Fz(h:1<=x.length):∃c r,cp x=c::r:=by
 have a:=cu x
 cases e:cp x with
 |nil=>rw[e] at a;simp at a;lia
 |cons c r=>exact⟨c,r,rfl⟩
theorem lZ{C:Type}{rest:St}(d:List C)(m:C->V)(R:Hp->V->C->Prop)(up:∀{H H' v z},R H v z->Sb D H H'->(∃xs,H D=some (.lst xs))->R H' v z)(y:(J=nL K a/\H a=some (.lst (d.map m)))\/(J=Ej K a/\H a=some (.tup (d.map m))))(E:H D=none)(P:d.length<=1000)
  (M:∀z∈d,∀H',ah H H'->(∃xs,H' D=some (.lst xs))->∀Qv:VK,(∀v H2,ah H' H2->R H2 v z->Qv v H2)->te (some (m z)::rest) H' Qv) (q:∀vs H',ah H H'->H' D=some (.lst vs)->Paired (R H') vs d->Q H'):tW (none::rest) (cJ 0) k_ te J H D Q:=by
 have c:sizeLine=2^24:=rfl
 have st:∀i x g H',(d.map m)[i]?=some x->(∃(f:Option V) (vs:List V),g=f::rest/\ah H H'/\H' D=some (.lst vs)/\Paired (R H') vs (d.take i))->cJ 0 x g H' λl H2=>k_ l H2 λb H3=>if b=true then te l H3 λv H4=>∃j,H4 D=some (.lst j)/\j.length<sizeLine/\(∃(f:Option V) (vs:List V),l=f::rest/\ah H (upd H4 D (.lst (j++[v])))/\upd H4 D (.lst (j++[v])) D=some (.lst vs)/\Paired (R (upd H4 D (.lst (j++[v])))) vs (d.take (i+1))) else (∃(f:Option V) (vs:List V),l=f::rest/\ah H H3/\H3 D=some (.lst vs)/\Paired (R H3) vs (d.take (i+1))):=by
  rintro i x g H' O ⟨f,vs,rfl,B,p,w⟩
  obtain⟨z,G,rfl⟩:=fT O
  have N:=Paired.length w
  rw[Mg] at N
  refine gn (dQ (M z (L9 G) H' B ⟨_,p⟩ _ λv H2 A r=>⟨vs,A _ _ p,by omega,_,vs++[v],rfl,bK (B.trans A) E,ae,?_⟩))
  have sb:∀o,Sb D H2 (upd H2 D o):=λo b u n h=>by rw[ak n];exact h
  have I:=A _ _ p
  rw[bh G]
  exact cI (up r (sb _) ⟨_,I⟩) (Paired.mapP w λ_ _ h=>up (up h (λb o _ e=>A _ _ e) ⟨_,p⟩) (sb _) ⟨_,I⟩)
 have F:∀g H',(∃(f:Option V) (vs:List V),g=f::rest/\ah H H'/\H' D=some (.lst vs)/\Paired (R H') vs (d.take (d.map m).length))->Q H':=by
  rintro g H' ⟨f,vs,rfl,B,p,w⟩
  rw[LK,Mc] at w
  exact q vs H' B p w
 rcases y with ⟨rfl,y⟩|⟨rfl,y⟩
 ·exact cL (K:=K) (xs:=d.map m) (λi g H'=>∃(f:Option V) (vs:List V),g=f::rest/\ah H H'/\H' D=some (.lst vs)/\Paired (R H') vs (d.take i)) ⟨none,[],rfl,(ah.refl H).upd E,ae,.nil⟩ (λi g H' _ ⟨_,_,_,s,_⟩=>aF.of (s _ _ y)) st F
 ·exact FY (K:=K) (xs:=d.map m) (λi g H'=>∃(f:Option V) (vs:List V),g=f::rest/\ah H H'/\H' D=some (.lst vs)/\Paired (R H') vs (d.take i)) ⟨none,[],rfl,(ah.refl H).upd E,ae,.nil⟩ (λi g H' _ ⟨_,_,_,s,_⟩=>bW.of (s _ _ y)) st F
theorem jg{d:Type}{rest:St}(b:List d)(c:d->V)(R:Hp->V->d->Prop)(up:∀{H H' v z},R H v z->Sb D H H'->(∃xs,H D=some (.lst xs))->R H' v z)(g:H a=some (.lst (b.map c)))(h:H D=none)(f:b.length<=1000)
  (e:∀z∈b,∀H',ah H H'->(∃xs,H' D=some (.lst xs))->∀Qv:VK,(∀v H2,ah H' H2->R H2 v z->Qv v H2)->te (some (c z)::rest) H' Qv) (q:∀vs H',ah H H'->H' D=some (.lst vs)->Paired (R H') vs b->Q H'):tW (none::rest) (cJ 0) k_ te (nL K a) H D Q:=lZ b c R up (.inl ⟨rfl,g⟩) h f e q
theorem j8(h:H b=some (.tup ys))(s:Sb D H H')(e:∃xs,H D=some (.lst xs)):H' b=some (.tup ys):=s _ _ (λz=>by obtain⟨xs,e⟩:=e;rw[z,e] at h;cases h) h
theorem xp(h:Paired (λv p=>∃t,v=.ref t/\A3 H t p) vs ps):∃as:List Addr,vs=as.map V.ref/\aX H as (ps.map t3):=by
 induction h with
 |nil=>exact⟨[],rfl,.nil⟩
 |cons h _ ih=>
  obtain⟨t,rfl,h⟩:=h
  obtain⟨as,rfl,h2⟩:=ih
  exact⟨t::as,rfl,.cons h h2⟩
theorem xQ{ns:List Nat}(h:Paired (λ(v:V) (n:Nat)=>v=.int n) vs ns):vs=ns.map λn=> .int (n:Nat):=by
 induction h with
 |nil=>rfl
 |cons h _ ih=>rw[h,ih];rfl
theorem jN(h:p.1<16/\p.2.1<16/\p.2.2<16):(dr p).length<=9/\∀c∈dr p,c=46\/(48<=c/\c<=57):=by
 obtain⟨h1,h2,f⟩:=h
 have l1:=cj (k:=2) (n:=p.1) (by decide) (by lia)
 have d:=cj (k:=2) (n:=p.2.1) (by decide) (by lia)
 have g:=cj (k:=2) (n:=p.2.2) (by decide) (by lia)
 refine⟨?_,λc b=>?_⟩
 ·unfold dr;rw[Ki];simp only[LP,L5];lia
 ·rcases vx b with e|⟨w,a,hd⟩
  ·exact .inl e
  ·simp only[LS,Md,or_false] at a
   rcases a with rfl|rfl|rfl<;>exact .inr (mL _ c hd)
theorem Jc(h:∀c∈l,c<128)(a:l.length<=1000):Pl (ss l):=Pl.of (by rw[bY];exact h) (by rw[bY];exact a)
theorem J4(h:n<10^18):Pl (ss (dg n)):=Jc (λc a=>by have:=mL n c a;lia) (LR (cj (k:=18) (by decide) h) (by decide))
theorem Ct {n:Nat}{H:Hp}{Q:VK}{E:XK}(h:n<10^18)(q:∀H',ah H H'->Q (.int (n:Nat)) H'):lN [sv (dg n)] H Q E:=⟨ss (dg n),rfl,J4 h,.inl ⟨by rw[bY];exact DY h,λH' s=>by rw[bY,Iw];exact q H' s⟩⟩
theorem JK(h:Sm ps):∀p∈ps,p.1<16/\p.2.1<16/\p.2.2<16:=λp a=>by have:=h p a;lia
theorem iD(h:Ev ta σ H (.ref p)):ic (jD (fv (λx y H Q=>y=.non/\Q (.bl (decide (x=.non))) H) ta (tC .non))) σ H false:=cH (aB (qk h ar)) rfl
theorem JE(h:aX H as ([p].map t3)):∃a,as=[a]/\A3 H a p:=by
 cases h with|cons h1 h=>cases h;exact⟨_,rfl,h1⟩
theorem Kb(h:aX H as ([p,q].map t3)):∃a b,as=[a,b]/\A3 H a p/\A3 H b q:=by
 cases h with|cons h1 h=>cases h with|cons h2 h=>cases h;exact⟨_,_,rfl,h1,h2⟩
theorem JR(h:AL H l ps)(hl:ps.length=1\/ps.length=2):∃vs a b,H l=some (.lst vs)/\vs.length=ps.length/\jq vs 0=some (.ref a)/\jq vs (-1)=some (.ref b)/\A3 H a (hd ps)/\A3 H b (ls ps):=by
 obtain⟨as,h1,h2⟩:=h
 rcases hl with hl|hl
 ·obtain⟨p,rfl⟩:=Ls hl
  obtain⟨a,rfl,c⟩:=JE h2
  exact⟨_,a,a,h1,rfl,rfl,rfl,c,c⟩
 ·obtain⟨p,q,rfl⟩:=Lq hl
  obtain⟨a,b,rfl,c,d⟩:=Kb h2
  exact⟨_,a,b,h1,rfl,rfl,rfl,c,d⟩
theorem gf{ws:List (List Nat)}(us:List (List Nat))(d:Ev ta σ H (.ref l))(h1:∀(H:Hp) (R:Option Int->Hp->Prop),R lo H->tl σ H R)(c:∀(H:Hp) (R:Option Int->Hp->Prop),R hi H->th σ H R)(b:WL H l ws)(e:fu (ws.map sv) lo hi=us.map sv)(q:∀p H',ah H H'->WL H' p us->Q (.ref p) H'):JO (Bi K) ta tl th σ H Q:=
 d _ (h1 _ _ (c _ _ ⟨l,_,rfl,aF.of b,λp a=>q p _ ((ah.refl H).upd a) (by unfold WL;rw[<-e];exact ae)⟩))
theorem uz:∀(H:Hp) (R:Option Int->Hp->Prop),R none H->lI σ H R:=λ_ _ h=>h
theorem Dz:∀(H:Hp) (R:Option Int->Hp->Prop),R (some i) H->ij (tC (.int i)) σ H R:=λ_ _ h=>⟨i,rfl,h⟩
theorem Lu(h:σ[n]?=some (some (.int i))):∀(H:Hp) (R:Option Int->Hp->Prop),R (some i) H->ij (cR n) σ H R:=λ_ _ r=>aa h _ ⟨i,rfl,r⟩
theorem Hu (ws:List (List Nat))(i j:Nat)(h:i<=j)(a:j<=ws.length):fu (ws.map sv) (some (i:Int)) (some (j:Int))=((ws.drop i).take (j - i)).map sv:=by
 unfold fu HT.sIx
 rw[LK]
 simp
 rw[if_neg (show¬((j:Int)<0) by lia),if_neg (show¬((i:Int)<0) by lia),M9 a,M9 (LR h a)]
theorem jI (ws:List (List Nat))(i:Nat)(h:i<=ws.length):fu (ws.map sv) (some (i:Int)) none=(ws.drop i).map sv:=by rw[uy _ _ (by rw[LK];exact h),List.map_drop]
theorem DW (ws:List (List Nat))(i:Nat)(h:i<=ws.length):fu (ws.map sv) none (some (i:Int))=(ws.take i).map sv:=by rw[ud _ _ (by rw[LK];exact h),M_]
theorem A1(h:p.1<16/\p.2.1<16/\p.2.2<16):dr p≠L "to" :=λe=>by
 have h2:=(jN h).2
 rw[e] at h2
 have:=h2 116 (by decide+kernel)
 lia
theorem vF(h:ss a=ss b):a=b:=by rw[<-bY a,h,bY]
theorem HM(h1:Sm cs)(d:Sm ds):((cs.map dr++L "to" ::ds.map dr).map ss).count (Str.ofString "to")=1:=by
 have z:∀{ps:List P3},Sm ps->((ps.map dr).map ss).count (Str.ofString "to")=0:=λb=>List.count_eq_zero.mpr λc=>by
  obtain⟨w,f,e⟩:=LN.mp c
  obtain⟨p,a,rfl⟩:=LN.mp f
  exact A1 (JK b p a) (vF (e.trans (hZ (FQ "to"))))
 rw[LQ,List.count_append,L1,List.count_cons,z h1,z d,show ss (L "to")=Str.ofString "to" from(hZ (FQ "to")).symm]
 simp
theorem qK (ws:List (List Nat)):ws.map sv=(ws.map ss).map V.str:=by rw[LV];rfl
theorem Dw(h:to σ H λx H1=>IQ K T x H1/\ta σ H1 λxs H2=>r x xs H2 Q):Gc K T r to ta σ H Q:=h
theorem LC(h:∀H,Ev te σ H (.int i)):∀(H:Hp) (R:Option Int->Hp->Prop),R (some i) H->ij te σ H R:=λH _ r=>h H _ ⟨i,rfl,r⟩
theorem jd(h:Ev ta σ H (.str (kS (kd r))))(a:j<=6):ic (jD (fv Km ta (tC (.str (kS j))))) σ H (decide (kd r=j)):=cH (aB (kx h ar)) (by rw[Bf _ (sU r) _ a])
theorem IA{ns:List Nat}(h:Paired (λ(v:V) (n:Nat)=>v=sv (dg n)) vs ns):vs=(ns.map λn=>ss (dg n)).map V.str:=by
 induction h with
 |nil=>rfl
 |cons h _ ih=>rw[h,ih];rfl
theorem qc (n:Nat):Str.ofString (toString ((n:Nat):Int))=ss (dg n):=hZ (qQ n)
theorem Ib (k:Nat)(a b:List Rw):fk k (a++b)=fk k a++fk k b:=NV ..
theorem CB (b:List (List Str)):(iI b).map (·.1)=b.filter λc=>!c.isEmpty:=by
 unfold iI
 have:∀(l:List (List Str)) (k:Nat),((l.zipIdx k).filter λp=>!p.1.isEmpty).map (·.1)=l.filter λc=>!c.isEmpty:=by
  intro l
  induction l with
  |nil=>intro k;rfl
  |cons a r ih=>
   intro k
   rw[List.zipIdx_cons,List.filter_cons,List.filter_cons]
   cases a with
   |nil=>simpa using ih (k+1)
   |cons _ _=>simp[ih (k+1)]
 exact this b 0
theorem rJ (k:Nat):sv (cp (kS k))=.str (kS k):=by unfold sv;rw[wd]
theorem ub {d e c:Type}{R:d->c->Prop}{g:e->c}{as:List d}{bs:List e}(h:Paired (λa b=>R a (g b)) as bs):Paired R as (bs.map g):=by
 induction h with
 |nil=>exact .nil
 |cons h t ih=>exact .cons h ih
theorem y_(d:a<16)(c:b<16):(qO a b).length<=16:=by rw[Fn];lia
theorem Sb.al(s:Sb D H H')(a:H D=some (.dT o))(h:AL H l ps):AL H' l ps:=by
 obtain⟨as,h1,h2⟩:=h
 exact⟨as,s _ _ (Ci h1 a λz=>nomatch z) h1,Paired.mapP h2 λ_ _ e=>s _ _ (Ci e a λz=>nomatch z) e⟩
theorem w9 (m:V)(ps:List P3)(kvs:Kv):(ps.foldl (kj m) kvs).length<=kvs.length+ps.length:=by
 induction ps generalizing kvs with
 |nil=>exact LL _
 |cons p r ih=>
  have:=ih (kj m kvs p)
  have h:(kj m kvs p).length<=kvs.length+1:=eK _ _ _
  rw[Mx,L5];lia
theorem uq {a b:Type}{g:a->List b}(h:∀x,(g x).length<=k):∀xs:List a,(xs.flatMap g).length<=xs.length*k
 |[]=>by simp
 |x::xs=>by rw[MP,LP,L5,Nat.succ_mul];have:=h x;have:=uq h xs;omega
theorem zK(d:jR f)(c:jR s):(bx f s).length<=4096:=by
 have e:=y_ d.1 c.1
 have h:=y_ d.2.1 c.2.1
 have g:=y_ d.2.2 c.2.2
 have h1:∀a b,(vw f s a b).length<=16:=λa b=>by unfold vw;rw[LK];exact g
 have h2:∀a,(zR f s a).length<=256:=λa=>LR (uq (h1 a) _) (LR (Od 16 h) (by decide))
 exact LR (uq h2 _) (LR (Od 256 e) (by decide))
theorem pT {K:LO}{y d:Addr}{as:List Addr}{ps:List P3}{kvs:Kv}{m:V}{n i:Nat}{A:TE}{D:fX}{r:St}{H:Hp}(w:H y=some (.lst (as.map V.ref)))(B:aX H as (ps.map t3))(hd:H d=some (.dT kvs))(O:kvs.length+ps.length<=10^7)(C:∀v,(r.set n (some v))[i]?=some (some (.ref d)))(F:∀v,(r.set n (some v))[n]?=some (some v))(E:∀v H',Ev A (r.set n (some v)) H' m)
  (q:∀o H',(o=r\/∃v,o=r.set n (some v))->Sb d H H'->H' d=some (.dT (ps.foldl (kj m) kvs))->D.nx o H'):gY (λ_ H R=>R (nL K y) H) (cJ n) (xO (cR i) (cR n) A) D r H:=by
 have l:sizeLine=2^24:=rfl
 have g:=Paired.length B
 rw[LK] at g
 refine bN (K:=K) (xs:=as.map V.ref) (λj o H'=>(o=r\/∃v,o=r.set n (some v))/\Sb d H H'/\H' d=some (.dT ((ps.take j).foldl (kj m) kvs))) ⟨.inl rfl,Sb.refl d H,hd⟩ (λj o H' _ ⟨_,s,_⟩=>aF.of (s _ _ (Ci w hd λz=>nomatch z) w)) ?_ ?_
 ·rintro j x o H' N ⟨u,s,a⟩
  obtain⟨b,I,rfl⟩:=fT N
  obtain⟨c,J,f⟩:=ba B I
  obtain⟨p,G,rfl⟩:=fT J
  have e:o.set n (some (.ref b))=r.set n (some (.ref b)):=by
   rcases u with rfl|⟨v,rfl⟩
   ·rfl
   ·rw[List.set_set]
  refine gn ?_
  rw[e]
  have M:=w9 m (ps.take j) kvs
  rw[Mg] at M
  have h:=s _ _ (Ci f hd λz=>nomatch z) f
  refine qG (E _ _) (aa (C _)) (aa (F _)) (lx.t a (j5 h) (by lia)) ⟨.inr ⟨_,rfl⟩,s.set,?_⟩
  rw[ae,bh G,N9];rfl
 ·rintro o H' ⟨u,s,a⟩
  rw[LK,g,Mc] at a
  exact q o H' u s a
theorem xb (bs:List (V×P3×P3))(b:V×P3×P3):mk (bs++[b])=Ef (mk bs) b:=by unfold mk;rw[N9];rfl
theorem Hs:∀{bs:List (V×P3×P3)},(∀b∈bs,jR b.2.1/\jR b.2.2)->(mk bs).length<=4096*bs.length:=by
 intro bs
 induction bs using jx with
 |h0=>intro _;exact L0 _
 |h1 bs b ih=>
  intro h
  have h1:=ih λx c=>h x (MM _ c)
  have a:=h b (by simp)
  rw[xb,LP]
  have:=w9 b.1 (bx b.2.1 b.2.2) (mk bs)
  have:=zK a.1 a.2
  show((bx b.2.1 b.2.2).foldl (kj b.1) (mk bs)).length<=4096*(bs.length+1)
  lia
theorem wD (a:List P3)(p:P3):(bX (iH a) (iK (t3 p))).isSome=decide (p∈a):=by
 rw[Nv,fD,decide_eq_true_iff]
 unfold iH
 rw[LV,LN]
 constructor
 ·rintro⟨q,b,e⟩
  rw[<-gh (kg e)];exact b
 ·exact λh=>⟨p,h,rfl⟩
theorem rM(hd:H d=some (.dT kvs))(a:A3 H b p):jy H d (.ref b) (bX kvs (iK (t3 p))):=.inr ⟨kvs,iK (t3 p),b,.inl hd,rfl,j5 a,rfl⟩
theorem mM(h:ds.Perm (ps.map t3))(a:ds.Pairwise λc d=>HT.lexLt d c=false):∃ss,ds=ss.map t3/\om ss ps:=by
 have b:∀c∈ds,∃p:P3,c=t3 p:=λc f=>by
  obtain⟨p,_,e⟩:=LN.mp (h.mem_iff.mp f)
  exact⟨p,e.symm⟩
 obtain⟨ss,rfl⟩:∃ss:List P3,ds=ss.map t3:=by
  clear h a
  induction ds with
  |nil=>exact⟨[],rfl⟩
  |cons c r ih=>
   obtain⟨p,rfl⟩:=b c LX
   obtain⟨ss,rfl⟩:=ih λd hd=>b d (LZ _ hd)
   exact⟨p::ss,rfl⟩
 refine⟨ss,rfl,?_,Mr.mp a⟩
 have e:∀l:List P3,(l.map t3).map (λc:T3=>((c.getD 0 0).toNat,(c.getD 1 0).toNat,(c.getD 2 0).toNat))=l:=λl=>by
  rw[LV];exact NU l
 have:=h.map λc:T3=>((c.getD 0 0).toNat,(c.getD 1 0).toNat,(c.getD 2 0).toNat)
 rwa [e,e] at this
theorem rB (ps:List P3):∀c∈ps.map t3,c≠[]:=λc a=>by
 obtain⟨p,_,rfl⟩:=LN.mp a
 exact λz=>nomatch z
theorem Jm {ts:List (P3×Nat)}(h:p∈ts.map (·.1)):bX (j7 ts) (iK (t3 p))=some (.int (zE ts (t3 p))):=by
 have h1:(bX (j7 ts) (iK (t3 p))).isSome:=by
  rw[fD]
  obtain⟨q,b,rfl⟩:=LN.mp h
  exact LN.mpr ⟨_,LN.mpr ⟨q,b,rfl⟩,rfl⟩
 obtain⟨v,a⟩:=OI.mp h1
 obtain⟨q,_,e⟩:=LN.mp (FG a)
 have e:V.int (q.2:Nat)=v:=congrArg Prod.snd e
 subst e
 unfold zE
 rw[a]
theorem u4 {a:Type} [DecidableEq a](kvs:List (a×V))(h:(kvs.map (·.1)).Nodup):GC kvs=kvs:=by
 induction kvs using jx with
 |h0=>rfl
 |h1 xs x ih=>
  rw[LQ,MQ] at h
  rw[jB,ih h.1]
  have n:¬(bX xs x.1).isSome=true:=λz=>h.2.2 x.1 ((fD ..).mp z) x.1 (by simp) rfl
  unfold c6
  rw[dB,if_neg n]
theorem vL (kvs:Kv)(h:(kvs.map (·.1)).Nodup):DQ kvs=kvs:=u4 kvs h
theorem Ii {kvs:List (cS×V)}(h:(kvs.map (·.1)).Nodup):JX kvs=kvs:=u4 kvs h
theorem xZ(h:p.1<4/\p.2.1<16/\p.2.2<16):∃k:Nat,k<1024/\tupleKeyHash (bo P w) (iK (t3 p))=t_ k/\k=256*p.1+16*p.2.1+p.2.2:=⟨_,by omega,Ke p.1 p.2.1 p.2.2 (by omega) (by omega) (by omega),rfl⟩
theorem Cm(S:Sz z)(h:In z p):p.1<4/\p.2.1<16/\p.2.2<16:=by
 obtain⟨⟨_,_⟩,⟨_,_⟩,_,_⟩:=S
 obtain⟨_,_,_⟩:=h
 lia
theorem yW (f:List cS->Int)(ts:List (P3×Nat)):(j7 ts).map (λp=>f p.1)=ts.map λq=>f (iK (t3 q.1)):=by
 unfold j7;rw[LV];rfl
theorem Df {a b:P3}(h:a.1<4/\a.2.1<16/\a.2.2<16)(h':b.1<4/\b.2.1<16/\b.2.2<16)(e:256*a.1+16*a.2.1+a.2.2=256*b.1+16*b.2.1+b.2.2):a=b:=Prod.ext (by omega) (Prod.ext (by omega) (by omega))
theorem Ee(h:nZ g):p5 P w (j7 g.ts):=by
 have c:=h.tn
 have hi:=h.ti
 unfold p5
 rw[yW]
 unfold List.Nodup at c|-
 rw[Mr] at c|-
 refine c.imp_of_mem fun{a b} ha m n e=>n ?_
 have d:=Cm h.z (hi a ha).1
 have f:=Cm h.z (hi b m).1
 obtain⟨k,r,p,o⟩:=xZ (P:=P) (w:=w) d
 obtain⟨j,s,q,l⟩:=xZ (P:=P) (w:=w) f
 exact Df d f (o▸l▸wL r s (p.symm.trans (e.trans q)))
theorem gr{fs:List (Str×V)}(b:bU H H' p)(e:H p=some (.ins c d fs))(n:o≠.ins c d fs)(h:H a=some o):H' a=some o:=b _ _ (cQ h e n) h
theorem lH.bp{fs:List (Str×V)}{ps:List (Nat×Nat)}(h:lH H l ps)(b:bU H H' p)(a:H p=some (.ins c d fs)):lH H' l ps:=h.up (λ_ e=>gr b a (λz=>nomatch z) e) λ_ _ e=>gr b a (λz=>nomatch z) e
theorem bU.tr(b:bU H H1 p)(b2:bU H1 H2 p):bU H H2 p:=λa o n e=>b2 _ _ n (b _ _ n e)
theorem AL.bp{fs:List (Str×V)}(h:AL H l ps)(b:bU H H' p)(a:H p=some (.ins c d fs)):AL H' l ps:=by
 obtain⟨as,h1,h2⟩:=h
 exact⟨as,gr b a (λz=>nomatch z) h1,cA h2 λ_ _ e=>gr b a (λz=>nomatch z) e⟩
theorem LH:eW "sizes" v []=[(("sizes" :Str),v)]:=by kernel_rfl
theorem LA:eW "prices" v [("sizes",u)]=[(("sizes" :Str),u),("prices",v)]:=by kernel_rfl
theorem LG {u v w:V}:eW "vias" w [("sizes",u),("prices",v)]=[(("sizes" :Str),u),("prices",v),("vias",w)]:=by kernel_rfl
theorem Lz {u v w x:V}:eW "rocks" x [("sizes",u),("prices",v),("vias",w)]=[(("sizes" :Str),u),("prices",v),("vias",w),("rocks",x)]:=by kernel_rfl
theorem Lx {u v w x y:V}:eW "tolls" y [("sizes",u),("prices",v),("vias",w),("rocks",x)]=[(("sizes" :Str),u),("prices",v),("vias",w),("rocks",x),("tolls",y)]:=by kernel_rfl
theorem uU(a:rs.Nodup):((iH rs).map (·.1)).Nodup:=by
 unfold iH;rw[LV];exact Mr.mpr (a.imp λn e=>n (gh (kg e)))
theorem rW(h:S4 p):ig (t3 p)=t_ (256*p.1+16*p.2.1+p.2.2):=by
 obtain⟨h1,h2,a⟩:=h
 unfold ig t3
 rw[Ao p.1 p.2.1 p.2.2 h2 a,L1,L1,L1,MV,eZ (show p.1<16 by lia),eZ h2,eZ a]
theorem JF {c j:Type}{f:c->j}{xs:List c}(d:xs.Nodup)(h:∀a∈xs,∀b∈xs,f a=f b->a=b):(xs.map f).Nodup:=by
 unfold List.Nodup at d|-
 rw[Mr]
 exact d.imp_of_mem fun{a b} ha g n e=>n (h a ha b g e)
theorem vR(h:S4 p):256*p.1+16*p.2.1+p.2.2<1024:=by
 obtain⟨_,_,_⟩:=h
 lia
theorem CN {ps:List P3}(h:∀p∈ps,S4 p)(d:ps.Nodup):((ps.map t3).map ig).Nodup:=by
 rw[LV]
 refine JF d λa ha b c e=>?_
 rw[Function.comp_apply,Function.comp_apply,rW (h a ha),rW (h b c)] at e
 exact Df (h a ha) (h b c) (wL (vR (h a ha)) (vR (h b c)) e)
theorem Aa{fs:List (Str×V)}(h:yg H t ps)(b:bU H H' p)(a:H p=some (.ins c d fs)):yg H' t ps:=by
 obtain⟨as,h1,h2⟩:=h
 exact⟨as,gr b a (λz=>nomatch z) h1,cA h2 λ_ _ e=>gr b a (λz=>nomatch z) e⟩
theorem uA{l:Addr}(a:H t=none)(h:aX H as (ps.map t3)):yg (upd H t (.tup (as.map V.ref))) t ps:=⟨as,ae,aX.same h ((ah.refl H).upd a)⟩
theorem Co (m n:Nat):(if (m:Int) - (n:Nat)<0 then -((m:Int) - (n:Nat)) else (m:Int) - (n:Nat))=((ko m n:Nat):Int):=by unfold ko;split<;>lia
theorem zY (i j:Nat):(if ((j:Nat):Int)>(i:Nat) then ((j:Nat):Int) else (i:Nat))=((max i j:Nat):Int):=by split<;>lia
theorem HK(c:g<=p.2.1)(b:g<=p.2.2)(h:q∈Ku p g):q.1=p.1/\(p.2.1<=q.2.1+g/\q.2.1<=p.2.1+g)/\(p.2.2<=q.2.2+g/\q.2.2<=p.2.2+g):=by
 unfold Ku at h
 obtain⟨i,hi,h⟩:=NK.mp h
 obtain⟨j,a,rfl⟩:=LN.mp h
 have:=ME.mp hi
 have:=ME.mp a
 refine⟨rfl,?_,?_⟩
 ·show p.2.1<=p.2.1 - g+i+g/\p.2.1 - g+i<=p.2.1+g
  lia
 ·show p.2.2<=p.2.2 - g+j+g/\p.2.2 - g+j<=p.2.2+g
  lia
theorem Ae(d:ps.length=gs.length):(t7 gs ps).map (·.2)=ps.map V.ref:=by
 unfold t7
 rw[LV]
 have c:((λb:cS×V=>b.2)∘λa:Tn×Addr=>((.inr a.1.st:cS),V.ref a.2))=V.ref∘Prod.snd:=rfl
 rw[c,<-LV,List.map_snd_zip (by lia)]
theorem D7:(t7 gs ps).length<=gs.length:=by
 unfold t7
 rw[LK,List.length_zip];lia
theorem Aq {a:List Tn}{ps:List Addr}{i:Nat}{g:Tn}{p:Addr}(c:a[i]?=some g)(b:ps[i]?=some p):t7 (a.take (i+1)) (ps.take (i+1))=t7 (a.take i) (ps.take i)++[(.inr g.st,.ref p)]:=by
 have h1:=bO c
 have h2:=bO b
 unfold t7
 rw[bh c,bh b,List.zip_append (by rw[Mg,Mg];lia),LQ]
 rfl
theorem Bb{kvs:List (cS×V)}{b:cS×V}(h:Ko H as kvs)(e:H a=some (.tup [kV b.1,b.2])):Ko H (as++[a]) (kvs++[b]):=by
 induction h with
 |nil=>exact .cons e .nil
 |cons r _ ih=>exact .cons r ih
theorem Hm(f:ps.length=gs.length)(c:(gs.map Tn.st).Nodup):((t7 gs ps).map (·.1)).Nodup:=by
 unfold t7
 rw[LV]
 have b:((λd:cS×V=>d.1)∘λa:Tn×Addr=>((.inr a.1.st:cS),V.ref a.2))=(λg:Tn=>(.inr g.st:cS))∘Prod.fst:=rfl
 rw[b,<-LV,List.map_fst_zip (by lia)]
 exact Mr.mpr ((Mr.mp c).imp λn e=>n (Sum.inr.inj e))
theorem qM(d:Ev te σ H (.ref p))(f:lD cN cB H p g)(hz:g.ss.length+g.gs.length<=18)(q:∀H' l,ah H H'->H l=none->AL H' l g.es->Q (.ref l) H'):
  As cN cB "ends" (lJ cN) (lL cB) te σ H Q:=by
 rcases f with ⟨e,dx,fs,t,h1,b,h2,c⟩|⟨e,o,dx,fs,t,v,h1,b,h2,c,j,m⟩
 ·exact d _ ⟨p,cN,dx,fs,rfl,h1,b.ends,.inl ⟨rfl,p,g.st,g.h,g.r,g.ss,rfl,⟨dx,fs,t,h1,b,h2,c⟩,λH' l s n a=>q H' l s n (by unfold Tn.es;rw[e,Mb];exact a)⟩⟩
 ·exact d _ ⟨p,cB,dx,fs,rfl,h1,b.ends,.inr ⟨rfl,p,g.st,g.r,g.ss,g.gs,rfl,⟨dx,fs,t,v,h1,b,h2,c,j,m⟩,by lia,λH' l s n a=>q H' l s n a⟩⟩
theorem mw(t:lD cN cB H p g)(a:Ev te σ H (.ref p))(d:j6 K cN)(e:bC K cN f)(m:j6 K cB)(j:bC K cB f)(c:∀fs h,GJ fs g.st h g.r->h=g.h->fs.lookup f=some v):Ev (yP K te f) σ H v:=by
 rcases t with ⟨_,dx,fs,t,h1,b,_⟩|⟨_,l,dx,fs,t,_,h1,b,_⟩
 ·exact bQ a h1 d e (c _ _ b rfl)
 ·exact bQ a h1 m j (c _ _ b l.symm)
theorem HW {a:Type}{l:List a}(b:l.Nodup){i:Nat}{x:a}(h:l[i]?=some x):x∉l.take i:=λz=>by
 have:=(b.sublist (List.take_sublist (i+1) l))
 rw[bh h,MQ] at this
 exact this.2.2 x z x (by simp) rfl
theorem pd.bp(h:pd cF H f g)(b:bU H H' p)(l:H p=some (.ins C dx [])):pd cF H' f g:=by
 obtain⟨j,fs,a,m,c,d,e,x⟩:=h
 exact⟨j,fs,a,m,c,d,e,{x with ha:=b _ _ (λz=>by have h:=x.ha;have f:=x.f1;rw[z,l] at h;cases h;cases f) x.ha,z:=gr b l (λz=>nomatch z) x.z,pr:=x.pr.bp b l,vi:=gr b l (λz=>nomatch z) x.vi,rd:=gr b l (λz=>nomatch z) x.rd,td:=gr b l (λz=>nomatch z) x.td}⟩
theorem lD.bp(h:lD cN cB H f g)(b:bU H H' p)(a:H p=some (.ins C dx [])):lD cN cB H' f g:=h.up (λ_ _ e=>gr b a (λz=>nomatch z) e) λ_ _ fs n e=>b _ _ (λz=>by rw[z,a] at e;cases e;exact n rfl) e
theorem iS {g:Type}{R:V->Rw->Prop}{S:Addr->g->Prop}{f:Rw->Option g}(h0:∀r,kd r≠k->f r=none)(h1:∀v r,kd r=k->R v r->∃a b,v=.ref a/\f r=some b/\S a b):∀{W:List Rw} {c:List V},Paired R c (fk k W)->∃as:List Addr,c=as.map V.ref/\Paired S as (W.filterMap f)
 |[],c,h=>by cases h;exact⟨[],rfl,.nil⟩
 |r::W,c,h=>by
  unfold fk at h
  by_cases e:kd r=k
  ·rw[Oy (by simpa using e)] at h
   cases h with
   |cons a t=>
    obtain⟨x,b,rfl,l,j⟩:=h1 _ _ e a
    obtain⟨as,rfl,d⟩:=iS h0 h1 t
    exact⟨x::as,rfl,by rw[Nr,l];exact .cons j d⟩
  ·rw[Oz (by simpa using e)] at h
   obtain⟨as,rfl,d⟩:=iS h0 h1 h
   exact⟨as,rfl,by rw[Nr,h0 r e];exact d⟩
theorem GP:∀(a:List P3) (ys:List V),ys.length=a.length->(∀(i:Nat) y,ys[i]?=some y->∃p b,a[i]?=some p/\y=.ref b/\A3 H b p)->∃as:List Addr,ys=as.map V.ref/\aX H as (a.map t3)
 |[],[],_,_=>⟨[],rfl,.nil⟩
 |[],_::_,h,_=>nomatch h
 |_::_,[],h,_=>nomatch h
 |p::a,y::ys,hl,h=>by
  obtain⟨g,b,e,rfl,c⟩:=h 0 y rfl
  cases e
  obtain⟨as,rfl,d⟩:=GP a ys (by simpa using hl) λi y f=>h (i+1) y (by simpa using f)
  exact⟨b::as,rfl,.cons c d⟩
theorem gX {c:Type}{R:V->c->Prop}{bs:List c}(h:Paired (λa b=>R (.ref a) b) as bs):Paired R (as.map V.ref) bs:=by
 induction h with
 |nil=>exact .nil
 |cons h t ih=>exact .cons h ih
theorem jA(S:Sz z)(h:In z p):jR p:=by
 obtain⟨_,_,_⟩:=h
 obtain⟨⟨_,_⟩,⟨_,_⟩,_,_⟩:=S
 exact⟨by lia,by lia,by lia⟩
theorem Ie(h:FV x W):W.length<=300:=by
 obtain⟨b,_,h1,_,_,_,h2⟩:=h
 have:=congrArg List.length h2
 rw[LK (as:=W)] at this
 have a:=OG (λc:List Str=>!c.isEmpty) (b.map (·.1))
 rw[LK] at a
 lia
theorem BV:(kd r=5\/kd r=6)↔∃g,uw r=some g:=by
 cases r<;>simp[kd,uw]
theorem kL(ty:gS K H x t)(e:Mf K t c=some b)(a:zd y c)(hx:Ev ta σ H x)(d:Ev tb σ H y):Ev (nM (λxs H Q=>∃x y c t b,xs=[x,y]/\zd y c/\gS K H x t/\Mf K t c=some b/\Q (.bl b) H) (a8 ta (a8 tb dw))) σ H (.bl b):=de (af hx (af d ao)) λQ q=>⟨x,y,c,t,b,rfl,a,ty,e,q⟩
def Kq (K:LO) (H:Hp) (a:Addr) (xs:List V):Prop:=aF K H a xs\/bW K H a xs
theorem BC(c:Ev ta σ H (.ref p))(b:Ev tb σ H (.int i))(d:Kq K H p xs)(a:jq xs i=some v):Ev (fv (Jt K) ta tb) σ H v:=λ_ q=>c _ (b _ (d.imp (λh=>⟨p,xs,i,v,rfl,rfl,h,a,q⟩) λh=>⟨p,xs,i,v,rfl,rfl,h,a,q⟩))
theorem qh(h:Ev ta σ H (.ref p))(e:Kq K H p xs):Ev (nM (λxs H Q=>∃x n,xs=[x]/\Cz K x H n/\Q (.int n) H) (a8 ta dw)) σ H (.int (xs.length:Nat)):=de (af h ao) λ_ a=>⟨_,_,rfl,e.imp (λh=>⟨_,h,rfl⟩) (λh=>⟨_,h,rfl⟩),a⟩
theorem En {n:Nat}{t:TA}{a:St}{H:Hp}{v w:V}(c:∀H1,ah H H1->nk t a H1 [v,w])(d:uk n H v w):C7 (zi (tB (dY (gH n) [] E0 t))) a H false:=λH1 s Q q=>c H1 s _ ⟨v,w,rfl,d.same s,λH2 b=>⟨true,rfl,q H2 b⟩⟩
theorem v7 {a:Type}{f:a->List Nat}{b:List a}(h:Paired (λv z=>v=sv (f z)) vs b):vs=(b.map f).map sv:=by
 induction h with
 |nil=>rfl
 |cons h _ ih=>rw[h,ih];rfl
theorem jJ {K:LO}{z:Str}{c:Nat}{l:Addr}{H:Hp}{ws:List (List Nat)}{Q:VK}(hz:z=⟨#[c]⟩)(e:WL H l ws)(h1:∀w∈ws,w.length<=1000)(f:ws.length<=1000)(q:Q (sv (jl c ws)) H):∃a b ts,V.str z=.str a/\[V.ref l]=[.ref b]/\aF K H b (ts.map V.str)/\JoinOk a ts=true/\Q (.str (Txt.join a ts)) H:=by
 refine⟨z,l,ws.map ss,rfl,rfl,aF.of (by rw[<-qK];exact e),tZ (λw g=>?_) (by rw[hz];show 1<=10;decide) (by rw[LK];exact f),?_⟩
 ·obtain⟨u,d,rfl⟩:=LN.mp g
  rw[<-cu,bY];exact h1 u d
 ·rw[show Txt.join z (ws.map ss)=ss (jl c ws) from hZ (by rw[hz,rT,LV];exact congrArg (jl c) ((My λw _=>bY w).trans (NU ws)))]
  exact q
theorem xi{rest:St}(ns:List Nat)(l:∀n∈ns,n<10^14)(f:ns.length<=1000)(d:(J=nL K t/\H t=some (.lst (ni ns)))\/(J=Ej K t/\H t=some (.tup (ni ns))))(j:H D=none)(q:∀H',ah H H'->WL H' D (ns.map dg)->Q H'):
  tW (none::rest) (cJ 0) k_ (nM (λxs H Q=>∃i:Int,xs=[.int i]/\i.natAbs.log2<1920/\Q (.str (Str.ofString (toString i))) H) (a8 (cR 0) dw)) J H D Q:=by
 refine lZ ns (λn=>V.int (n:Nat)) (λ_ v n=>v=sv (dg n)) (λh _ _=>h) d j f (λn a H' _ _ Qv e=>iC (af (aa rfl) ao) ⟨_,rfl,IX (by have:=l n a;lia),?_⟩) λvs H' g b c=>?_
 ·rw[qc];exact e _ H' (ah.refl H') rfl
 ·cases v7 c
  exact q H' g b
theorem mC:∀{as:List Addr} {ps:List P3},aX H as (ps.map t3)->∃zs:List (Addr×P3),as=zs.map (·.1)/\ps=zs.map (·.2)/\∀z∈zs,A3 H z.1 z.2:=by
 intro as ps
 induction ps generalizing as with
 |nil=>intro h;cases h;exact⟨[],rfl,rfl,λ_ h=>nomatch h⟩
 |cons p r ih=>
  intro h
  cases h with
  |cons a t=>
   obtain⟨zs,rfl,rfl,b⟩:=ih t
   refine⟨(_,p)::zs,rfl,rfl,λz hz=>?_⟩
   rcases LS.mp hz with rfl|hz
   ·exact a
   ·exact b z hz
theorem mP {K:LO}{J:It}{t D:Addr}{H:Hp}{rest:St}{te:TE}{Q:Hp->Prop}{as:List Addr}{ps:List P3}(f:P3->List Nat)(c:(J=nL K t/\H t=some (.lst (as.map V.ref)))\/(J=Ej K t/\H t=some (.tup (as.map V.ref))))(o:aX H as (ps.map t3))(u:H D=none)(d:ps.length<=1000)
  (e:∀a p H',p∈ps->A3 H' a p->∀Qv:VK,(∀H2,ah H' H2->Qv (sv (f p)) H2)->te (some (.ref a)::rest) H' Qv) (q:∀H',ah H H'->WL H' D (ps.map f)->Q H'):tW (none::rest) (cJ 0) k_ te J H D Q:=by
 obtain⟨zs,rfl,rfl,l⟩:=mC o
 rw[LV] at c
 rw[LK] at d
 refine lZ zs (λz=>V.ref z.1) (λ_ v z=>v=sv (f z.2)) (λh _ _=>h) c u d (λz b H' s _ Qv n=>e z.1 z.2 H' (LN.mpr ⟨z,b,rfl⟩) (s _ _ (l z b)) Qv λH2 m=>n _ H2 m rfl) λvs H' r g j=>?_
 cases v7 (f:=λz:Addr×P3=>f z.2) j
 exact q H' r (by unfold WL;rw[g];simp only[LV];rfl)
theorem Bt(c:σ[i]?=some (some (.ref a)))(g:σ[j]?=some (some (.ref b)))(e:A3 H a f)(d:A3 H b s):ic (jD (fv (JH K) (cR i) (cR j))) σ H (decide (f=s)):=by
 refine aB λQ q=>aa c _ (aa g _ ⟨_,_,Dp.ints (ns:=t3 f) (bW.of e),Dp.ints (ns:=t3 s) (bW.of d),LR (iF _) (by decide),?_⟩)
 rw[kz,show decide (t3 f=t3 s)=decide (f=s) from decide_eq_decide.mpr ⟨gh,congrArg t3⟩]
 exact q
theorem fV(h:Ev ta σ H (.int (n:Nat)))(a:n<10^14):Ev (nM (λxs H Q=>∃i:Int,xs=[.int i]/\i.natAbs.log2<1920/\Q (.str (Str.ofString (toString i))) H) (a8 ta dw)) σ H (sv (dg n)):=de (af h ao) λQ q=>⟨_,rfl,IX (by lia),by rw[qc];exact q⟩
theorem Eo (x:List Nat)(h r:Nat)(cs:List P3):(uT (.net x h r cs)).map sv=[.str (Str.ofString "net"),sv x,sv (dg h),sv (dg r)]++(cs.map dr).map sv:=by
 show sv (cp (kS 5))::_=_
 rw[rJ];rfl
theorem GE:sv (L "to")=.str (Str.ofString "to"):=congrArg V.str (hZ (FQ "to")).symm
theorem Ea (x:List Nat)(r:Nat)(cs a:List P3):(uT (.bun x r cs a)).map sv=[.str (Str.ofString "bundle"),sv x,sv (dg r)]++(cs.map dr).map sv++[.str (Str.ofString "to")]++(a.map dr).map sv:=by
 show sv (cp (kS 6))::sv x::sv (dg r)::(cs.map dr++L "to" ::a.map dr).map sv=_
 rw[rJ,LQ,L1,GE]
 show _=[V.str (kS 6),sv x,sv (dg r)]++(cs.map dr).map sv++[.str (Str.ofString "to")]++(a.map dr).map sv
 simp only[Mn,Og,NP]
def yn (w:List Nat):Prop:=(w≠[]/\w.length<=15)/\∀c∈w,33<=c/\c<128/\c≠59
theorem kP(h:n<10^14):yn (dg n):=⟨⟨Du n,LR (cj (k:=14) (by decide) h) (by decide)⟩,λc a=>by have:=mL n c a;lia⟩
theorem Iu(h:p.1<16/\p.2.1<16/\p.2.2<16):yn (dr p):=by
 have a:=jN h
 refine⟨⟨λe=>?_,by lia⟩,λc b=>by have:=a.2 c b;lia⟩
 unfold dr at e
 rw[Ki] at e
 simp at e
theorem F3(h:hV x=true):yn x:=by
 have a:=pf h
 exact⟨⟨λe=>by rw[e] at a;exact absurd a.2.1 (by decide),by lia⟩,λc b=>by have:=a.1 c b;lia⟩
theorem Jd:∀k,k<=6->(cp (kS k)).length<=15/\cp (kS k)≠[]/\(cp (kS k)).all (λc=>decide (33<=c/\c<128/\c≠59))=true:=by decide+kernel
theorem G8(h:gR r):(∀w∈lQ r,yn w)/\(lQ r).length<=22:=by
 have sp:∀{cs:List P3},Sm cs->∀w∈cs.map dr,yn w:=λsm w hw=>by
  obtain⟨p,e,rfl⟩:=LN.mp hw
  exact Iu (sm p e)
 cases r with
 |floor z=>
  obtain⟨h1,h2,c⟩:=h
  refine⟨λw hw=>?_,by show 3<=22;decide⟩
  simp only[lQ,LS,Md,or_false] at hw
  rcases hw with rfl|rfl|rfl<;>exact kP (by lia)
 |layer a b=>
  refine⟨λw hw=>?_,by show 2<=22;decide⟩
  simp only[lQ,LS,Md,or_false] at hw
  rcases hw with rfl|rfl
  ·exact kP h.1
  ·exact kP h.2
 |via a=>exact⟨λw hw=>by rw[LY.mp hw];exact kP h,by show 1<=22;decide⟩
 |rock cs=>exact⟨sp h.1,by show(cs.map dr).length<=22;rw[LK];have:=h.2;lia⟩
 |toll p cs=>
  obtain⟨h1,h2,c⟩:=h
  refine⟨λw hw=>?_,by show(dg p::cs.map dr).length<=22;rw[L5,LK];lia⟩
  rcases LS.mp hw with rfl|hw
  ·exact kP (by lia)
  ·exact sp h2 w hw
 |net x k r cs=>
  obtain⟨h1,h2,c,d,f⟩:=h
  refine⟨λw hw=>?_,by show(x::dg k::dg r::cs.map dr).length<=22;simp only[L5,LK];lia⟩
  rcases LS.mp hw with rfl|hw
  ·exact F3 c
  rcases LS.mp hw with rfl|hw
  ·exact kP (by lia)
  rcases LS.mp hw with rfl|hw
  ·exact kP (by lia)
  ·exact sp h1 w hw
 |bun x r cs ds=>
  obtain⟨h1,h2,c,d,f⟩:=h
  refine⟨λw hw=>?_,by show(x::dg r::(cs.map dr++L "to" ::ds.map dr)).length<=22;simp only[L5,LP,LK];lia⟩
  rcases LS.mp hw with rfl|hw
  ·exact F3 d
  rcases LS.mp hw with rfl|hw
  ·exact kP (by lia)
  rcases L_.mp hw with hw|hw
  ·exact sp h1 w hw
  rcases LS.mp hw with rfl|hw
  ·exact⟨by decide+kernel,by decide+kernel⟩
  ·exact sp h2 w hw
theorem qF(h:gR r):(∀w∈uT r,yn w)/\(uT r).length<=23:=by
 have a:=G8 h
 have k:=Jd (kd r) (sU r)
 refine⟨λw hw=>?_,by show(lQ r).length+1<=23;lia⟩
 rcases LS.mp hw with rfl|hw
 ·exact⟨⟨k.2.1,k.1⟩,λc b=>of_decide_eq_true (NB.mp k.2.2 c b)⟩
 ·exact a.1 w hw
theorem pM(h:iu g):gR (pC g):=by
 have sm:∀{cs:List P3},(∀p∈cs,p∈g.es)->Sm cs:=λb p a=>by have:=h.s4 p (b p a);unfold S4 at this;lia
 have c:=h.hh
 have rr:=h.rr
 unfold pC
 rcases h.sh with ⟨e,l⟩|⟨e,_,l⟩
 ·rw[if_pos e]
  exact⟨sm λp a=>MM _ a,by lia,h.gd,by lia,by lia⟩
 ·rw[if_neg e]
  exact⟨sm λp a=>MM _ a,sm λp a=>MC _ a,by lia,h.gd,by lia⟩
theorem iM {K:LO}{l:Addr}{H:Hp}{r:Rw}{Q:VK}(h:gR r)(c:H l=some (.lst ((uT r).map sv)))(q:Q (sv (rt r)) H):∃a b ts,V.str (Str.ofString " ")=.str a/\[V.ref l]=[.ref b]/\aF K H b (ts.map V.str)/\JoinOk a ts=true/\Q (.str (Txt.join a ts)) H:=jJ xA c (λw d=>LR ((qF h).1 w d).1.2 (by decide)) (LR (qF h).2 (by decide)) q
theorem A5 {a:Type}(xs:List a)(x:a):DO (xs++[x]).length (-1)=some xs.length:=by
 unfold DO
 rw[LP,List.length_singleton,if_neg (by lia),if_pos (by lia)]
 congr 1
 lia
theorem fM (kvs:Sv)(s:P3×V):cm (kvs++[s])=ot (cm kvs) s:=by unfold cm;rw[N9];rfl
theorem kf:∀(kvs:Sv),∀r∈cm kvs,r.1∈kvs.map (·.1)/\(r.2.1,r.2.2)∈kvs:=by
 intro kvs
 induction kvs using jx with
 |h0=>intro r h;cases h
 |h1 xs x ih=>
  intro r hr
  have up:∀r∈cm xs,r.1∈(xs++[x]).map (·.1)/\(r.2.1,r.2.2)∈xs++[x]:=λr h=>⟨by rw[LQ];exact MM _ (ih r h).1,MM _ (ih r h).2⟩
  have b:x.1∈(xs++[x]).map (·.1)/\(x.1,x.2)∈xs++[x]:=⟨LN.mpr ⟨x,by simp,rfl⟩,by simp⟩
  rw[fM] at hr
  have a:r∈cm xs++[(x.1,x.1,x.2)]->r.1∈(xs++[x]).map (·.1)/\(r.2.1,r.2.2)∈xs++[x]:=λhr=>by
   rcases L_.mp hr with hr|hr
   ·exact up r hr
   ·rw[LY.mp hr];exact b
  unfold ot at hr
  cases e:(cm xs).getLast? with
  |none=>rw[e] at hr;exact a hr
  |some r0=>
   rw[e] at hr
   dsimp only at hr
   split at hr
   ·rcases L_.mp hr with hr|hr
    ·exact up r ((List.dropLast_sublist _).subset hr)
    ·rw[LY.mp hr]
     exact⟨(up r0 (List.mem_of_getLast? e)).1,b.2⟩
   ·exact a hr
theorem ku (kvs:Sv):(cm kvs).length<=kvs.length:=by
 induction kvs using jx with
 |h0=>exact LL _
 |h1 xs x ih=>
  rw[fM,LP]
  show _<=xs.length+1
  unfold ot
  split
  ·rw[LP];show _+1<=_;lia
  ·split
   ·rw[LP,List.length_dropLast];show _ - 1+1<=_;lia
   ·rw[LP];show _+1<=_;lia
theorem dq(h:mU ps):ps.Nodup:=h.imp fun{a b} l e=>by rw[e,gL] at l;cases l
theorem gw(h:mU ps):om ps ps:=⟨List.Perm.refl _,h.imp λl=>kJ _ _ l⟩
theorem jk(h1:om a rs)(e:om b rs):a=b:=
 List.Perm.eq_of_pairwise (le:=λc d=>HT.lexLt (t3 d) (t3 c)=false) (λ_ _ _ _ f g=>gh (kN _ _ g f)) h1.2 e.2 (h1.1.trans e.1.symm)
theorem C3 {c:Type}{R:c->c->Prop}{l:List c}(h:l.Pairwise R){i:Nat}{a b:c}(h1:l[i]?=some a)(d:l[i+1]?=some b):R a b:=by
 obtain⟨e,rfl⟩:=Mo.mp h1
 obtain⟨b2,rfl⟩:=Mo.mp d
 exact OE.mp h _ _ _ _ (by lia)
theorem gv(h:mU ps):nN (ps.map t3):=⟨false,λi c d h1 h2=>kJ _ _ (C3 (R:=λc d=>HT.lexLt c d=true) (Mr.mpr h) h1 h2)⟩
theorem o7(h:mU ps):nN (ps.reverse.map t3):=⟨true,λi c d h1 h2=>C3 (R:=λc d=>HT.lexLt d c=true) (Mr.mpr (List.pairwise_reverse.mpr h)) h1 h2⟩
theorem ma (kvs:Sv):(eG kvs).map (·.1)=((kvs.map (·.1)).map t3).map λc=>c.map Sum.inl:=by unfold eG;simp only[LV];rfl
theorem Dq(h:(kvs.map (·.1)).Nodup):((eG kvs).map (·.1)).Nodup:=by
 unfold eG
 rw[LV]
 exact Mr.mpr ((Mr.mp h).imp λn e=>n (gh (kg e)))
theorem pQ(h:(kvs.map (·.1)).Nodup){p:P3}{v:V}(m:(p,v)∈kvs):bX (eG kvs) (iK (t3 p))=some v:=jF (Dq h) (p:=(iK (t3 p),v)) (LN.mpr ⟨(p,v),m,rfl⟩)
theorem Fx {l j:Type}{F:l->j->Prop}{us:List l}{g:List j}(h:Paired F us g){r:j}(e:g.getLast?=some r):∃f u d,us=f++[u]/\g=d++[r]/\Paired F f d/\F u r:=by
 induction h with
 |nil=>cases e
 | @cons a b as bs x t ih=>
  cases bs with
  |nil=>
   cases t
   cases e
   exact⟨[],a,[],rfl,rfl,.nil,x⟩
  |cons c cs=>
   rw[List.getLast?_cons_cons] at e
   obtain⟨f,u,d,h1,h2,n,m⟩:=ih e
   exact⟨a::f,u,b::d,by rw[h1];rfl,by rw[h2];rfl,.cons x n,m⟩
theorem fg{fs:List (Str×V)}(h:Ev ta σ H (.ref p))(e:H p=some (.ins C dx fs))(a:fs.lookup m=none)(q:sp [.ref p] H Q E0):sL C m sp [] E0 ta dw σ H Q:=h _ ⟨p,dx,fs,rfl,e,a,q⟩
theorem eT{n:Type}{l:List n}{R:V->n->Prop}(f:n->List Nat)(P:St->Prop)(p0:P σ0)(B:H a=some (.lst us))(o:Paired R us l)(w:H D=none)(hz:l.length<=1000)
  (x:∀u z j H',z∈l->R u z->ah H H'->P j->∀(X:St->V->Hp->Prop) (Y:St->Hp->Prop),(∀e H2,P e->ah H' H2->X e (sv (f z)) H2)->g u j H' λe H2=>k_ e H2 λb H3=>if b=true then te e H3 (X e) else Y e H3)
  (q:∀H',ah H H'->WL H' D (l.map f)->Q H'):tW σ0 g k_ te (nL K a) H D Q:=by
 have d:sizeLine=2^24:=rfl
 refine cL (K:=K) (xs:=us) (λi j H'=>P j/\ah H H'/\H' D=some (.lst (((l.take i).map f).map sv))) ⟨p0,(ah.refl H).upd w,ae⟩ (λi j H' _ ⟨_,s,_⟩=>aF.of (s _ _ B)) ?_ ?_
 ·rintro i u j H' A ⟨y,s,m⟩
  obtain⟨z,c,r⟩:=ba o A
  have hi:=bO c
  refine x u z j H' (L9 c) r s y (λe v H4=>∃h,H4 D=some (.lst h)/\h.length<sizeLine/\P e/\ah H (upd H4 D (.lst (h++[v])))/\upd H4 D (.lst (h++[v])) D=some (.lst (((l.take (i+1)).map f).map sv))) _ λe H2 p2 p=>⟨_,p _ _ m,by rw[LK,LK,Mg];lia,p2,bK (s.trans p) w,?_⟩
  rw[ae,bh c,LQ,LQ];rfl
 ·rintro j H' ⟨_,s,m⟩
  rw[Paired.length o,Mc] at m
  exact q H' s m
theorem F0(d:H a=some (.lst (as.map V.ref)))(l:aX H as (ps.map t3))(o:H D=none)(hz:ps.length<=1000)(q:∀H' es,ah H H'->H' D=some (.lst (es.map V.ref))->zF H' es (iH ps)->Q H'):tW [none] (cJ 0) k_ (nQ (a8 (cR 0) (a8 (tC (.bl true)) dw))) (nL K a) H D Q:=by
 obtain⟨zs,rfl,rfl,b⟩:=mC l
 rw[LV] at d
 rw[LK] at hz
 refine jg (K:=K) (rest:=[]) zs (λz=>V.ref z.1) (λH v z=>∃t,v=.ref t/\H t=some (.tup [.ref z.1,.bl true])/\A3 H z.1 z.2) (λ⟨t,e,h1,h2⟩ s j=>⟨t,e,j8 h1 s j,j8 h2 s j⟩) d o hz (λz f H' s _ Qv n=>eP (vs:=[.ref z.1,.bl true]) (af (aa rfl) (af ar ao)) (by show 2<=sizeLine;decide) λt g=>n _ _ ((ah.refl H').upd g) ⟨t,rfl,ae,((ah.refl H').upd g) _ _ (s _ _ (b z f))⟩) λvs H' s h m=>?_
 obtain⟨es,rfl,c⟩:∃es:List Addr,vs=es.map V.ref/\zF H' es (iH (zs.map (·.2))):=by
  clear h d hz b l q
  induction m with
  |nil=>exact⟨[],rfl,.nil⟩
  |cons r _ ih=>
   obtain⟨t,rfl,h1,h2⟩:=r
   obtain⟨es,rfl,c⟩:=ih
   exact⟨t::es,rfl,.cons ⟨_,h1,j5 h2⟩ c⟩
 exact q H' es s h c
theorem xJ(h:Sm [f,l]):Sm (cr f l)/\((cr f l).length=1\/(cr f l).length=2):=by
 unfold cr
 split
 ·exact⟨λp a=>h p (LS.mpr (.inl (LY.mp a))),.inl rfl⟩
 ·exact⟨h,.inr rfl⟩
theorem Gz(s:Sz z)(h:In z p):p.1<16/\p.2.1<16/\p.2.2<16:=by unfold Sz In at*;lia
theorem Cp(s:Sz z)(h1:In z f)(b:In z l):Sm [f,l]:=λp a=>by
 simp only[LS,Md,or_false] at a
 rcases a with rfl|rfl
 ·exact Gz s h1
 ·exact Gz s b
theorem DC (rks:List P3):eG (mj rks)=iH rks:=by unfold eG mj iH;rw[LV];rfl
theorem qA (rks:List P3):(mj rks).map (·.1)=rks:=by unfold mj;rw[LV];exact NU _
theorem sr.srt(h:sr g rks tls):om rks g.rs:=⟨by rcases h.r2 with e|e<;>rw[e];exact(List.reverse_perm _).symm,(gw h.r1).2⟩
theorem sr.mo(h:sr g rks tls):nN (g.rs.map t3):=by
 rcases h.r2 with e|e<;>rw[e]
 ·exact gv h.r1
 ·exact o7 h.r1
theorem sr.ln(h:sr g rks tls):g.rs.length<=1000:=by
 have:=h.srt.1.length_eq
 have:=h.rl
 lia
theorem sr.rk(h:sr g rks tls)(s:Sz g.z){r:Rn}(b:r∈cm (mj rks)):Sm [r.1,r.2.1]:=by
 have m:=kf _ r b
 rw[qA] at m
 have a:r.2.1∈(mj rks).map (·.1):=LN.mpr ⟨_,m.2,rfl⟩
 rw[qA] at a
 exact Cp s (h.r3 _ m.1) (h.r3 _ a)
theorem sr.tk(h:sr g rks tls)(s:Sz g.z){r:Rn}(a:r∈cm tls):Sm [r.1,r.2.1]/\∃n:Nat,r.2.2=.int (n:Nat)/\n<=1000000000000:=by
 have m:=kf _ r a
 obtain⟨q,b,e⟩:=LN.mp m.1
 have h2:=h.t4 _ m.2
 exact⟨Cp s (e▸(h.t4 q b).1) h2.1,h2.2⟩
theorem vy {r:Rn}(h:Sm [r.1,r.2.1]):gR (Gr r):=xJ h
theorem ve {r:Rn}(h:Sm [r.1,r.2.1]/\∃n:Nat,r.2.2=.int (n:Nat)/\n<=1000000000000):gR (GA r):=by
 obtain⟨h1,n,e,h2⟩:=h
 refine⟨?_,xJ h1⟩
 rw[e];exact h2
theorem Fh:∀{tls:Sv},Paired (IU H) bs (tls.map λp=>(t3 p.1,((e_ p.2:Nat):Int)))->(∀p∈tls,∃n:Nat,p.2=.int (n:Nat))->zF H bs (eG tls):=by
 induction bs with
 |nil=>
  intro tls h _
  cases tls with
  |nil=>exact .nil
  |cons _ _=>cases h
 |cons b bs ih=>
  intro tls h d
  cases tls with
  |nil=>cases h
  |cons p tls=>
   cases h with
   |cons a t=>
    obtain⟨c,h1,h2⟩:=a
    obtain⟨n,e⟩:=d p LX
    have h1:H b=some (.tup [.ref c,.int ((e_ p.2:Nat):Int)]):=h1
    rw[show V.int ((e_ p.2:Nat):Int)=p.2 by rw[e];rfl] at h1
    exact .cons ⟨c,h1,j5 h2⟩ (ih t λq f=>d q (LZ _ f))
theorem IF:∀{P:List (List Nat)},(∀p∈P,p.length<=k)->(jl c P).length<=(k+1)*P.length:=by
 intro P h
 refine LR (F_ c P) ?_
 clear c
 induction P with
 |nil=>exact LL _
 |cons p r ih=>
  have h1:=h p LX
  have h2:=ih λq a=>h q (LZ _ a)
  rw[L1,List.sum_cons,L5,Nat.mul_add,Nat.mul_one]
  lia
theorem qz(h:gR r):(rt r).length<=400:=by
 have a:=qF h
 exact LR (IF (k:=15) λw b=>(a.1 w b).1.2) (by lia)
theorem jS{ws:List (List Nat)}(a:List (List Nat))(nl:H0 l=none)(s:ah H0 H)(c:WL H l ws)(e:σ[n]?=some (some (.ref l)))(hz:ws.length+a.length<=1000)(f:∀Qv:VK,(∀b H',ah H H'->WL H' b a->Qv (.ref b) H')->te σ H Qv)(q:∀H',ah H0 H'->WL H' l (ws++a)->u D σ H'):eU (mO (Gc K "list" xD (cR n) (a8 te dw))) u D σ H:=by
 refine fZ (eo (aa e) (.inl ⟨rfl,_,aF.of c⟩) (aG (f _ λb H' s' d=>⟨l,b,_,_,rfl,rfl,s' _ _ c,d,?_,q _ (bK (s.trans s') nl) ?_⟩)))
 ·rw[LK,LK];exact LR hz (by decide)
 ·unfold WL;rw[ae,LQ]
theorem zX(h:nZ g){p:Nat×Nat}(a:p∈g.ps):gR (DS p):=by
 have:=h.pp p a
 unfold Pr at this
 exact⟨by lia,by lia⟩
theorem Br(h:nZ g){n:Nat}(a:n∈g.vs):gR (.via n):=by
 have:=h.vv n a
 unfold Pr at this
 show n<10^14
 lia
theorem JN(h:nZ g)(fs:sr g rks tls)(b:∀t∈gs,iu t):∀r∈wr g rks tls gs,gR r:=by
 intro r hr
 unfold wr at hr
 rcases LS.mp hr with rfl|hr
 ·exact h.z
 rcases L_.mp hr with hr|hr
 ·obtain⟨p,a,rfl⟩:=LN.mp hr;exact zX h a
 rcases L_.mp hr with hr|hr
 ·obtain⟨p,a,rfl⟩:=LN.mp hr;exact Br h a
 rcases L_.mp hr with hr|hr
 ·obtain⟨p,a,rfl⟩:=LN.mp hr;exact vy (fs.rk h.z a)
 rcases L_.mp hr with hr|hr
 ·obtain⟨p,a,rfl⟩:=LN.mp hr;exact ve (fs.tk h.z a)
 ·obtain⟨p,a,rfl⟩:=LN.mp hr;exact pM (b p a)
theorem p6:∀ns:List Nat,Paired (λ(u:V) (n:Nat)=>u=.int (n:Nat)) (ni ns) ns
 |[]=> .nil
 |_::r=> .cons rfl (p6 r)
theorem HS (x y:List Nat):ss x++ss y=ss (x++y):=hZ (by rw[fB,bY,bY])
def GM (te:TE) (a:St) (H:Hp) (x:List Nat):Prop:=∀H1,ah H H1->∀Q:VK,(∀H2,ah H1 H2->Q (sv x) H2)->te a H1 Q
theorem qX(h:∀H1,ah H H1->Ev te σ H1 (sv x)):GM te σ H x:=λH1 s _ q=>h H1 s _ (q H1 (ah.refl H1))
theorem gO(h1:GM ta σ H x)(c:GM tb σ H y)(h:x.length+y.length<=1000):GM (fv (λx y H Q=>∃i j,x=.str i/\y=.str j/\i.length+j.length<=sizeLine/\Q (.str (i++j)) H) ta tb) σ H (x++y):=λH1 s Q q=>h1 H1 s _ λH2 a=>c H2 (s.trans a) _ λH3 b=>⟨ss x,ss y,rfl,rfl,by rw[<-cu,<-cu,bY,bY];exact LR h (by decide),by rw[HS];exact q H3 (a.trans b)⟩
theorem kr(h:cp z=x):GM (tC (.str z)) σ H x:=qX λ_ _=>aY ar (congrArg V.str (hZ h))
theorem mn(h:GM te σ H x)(q:∀H2,ah H H2->Q (sv x) H2):te σ H Q:=h H (ah.refl H) Q q
theorem l1:cp (Str.ofString " ")=[32]:=by decide+kernel
theorem wU(b:σ[n]?=some (some (.ref a)))(d:A3 H a p)(c:p.1<16/\p.2.1<16/\p.2.2<16):GM (dY nr [] E0 (a8 (cR n) dw)) σ H (dr p):=λH1 s Q q=>aP (af (aa b) ao) ⟨a,p,rfl,c,.inl (s _ _ d),q⟩
theorem fL {H:Hp}{bs:List Addr}{ps:List P3}(h:aX H bs (ps.map t3)):(bs.map V.ref).isEmpty=ps.isEmpty:=by cases ps<;>cases h<;>rfl
theorem wC(h:ps.isEmpty=true):ps=[]:=List.isEmpty_iff.mp h
theorem wI(h:ps.isEmpty=false):ps≠[]:=λe=>by rw[e] at h;cases h
theorem gT{ws us:List (List Nat)}(e:WL H l ws)(a:WL H b us)(hz:ws.length+us.length<=1000)(q:∀c H',ah H H'->WL H' c (ws++us)->Q (.ref c) H'):Hk (.ref l) (.ref b) H Q:=⟨l,b,_,_,rfl,rfl,e,a,by rw[LK,LK];exact LR hz (by decide),λc d=>q c _ ((ah.refl H).upd d) (by unfold WL;rw[ae,LQ])⟩
theorem vz (x:Str):V.str x=sv (cp x):=by unfold sv;rw[wd]
theorem KB:V.str (Str.ofString "net")=sv (cp (kS 5)):=vz (kS 5)
theorem K_:V.str (Str.ofString "bundle")=sv (cp (kS 6)):=vz (kS 6)
theorem gD(h:t σ H λvs H1=>∀x dx,H1 x=none->H1 dx=none->dx≠x->sp (.ref x::(vs++dvs)) (upd (upd H1 dx (.own x)) x (.ins C dx [])) (λv H2=>v=.non/\Q (.ref x) H2) E0):nK C sp dvs E0 t σ H Q:=h
theorem iY{Q:List V->Hp->Prop}(b:σ[n]?=some (some (.ref a)))(c:AL H a ps)(q:∀l H',ah H H'->H l=none->AL H' l ps->tr σ H' λxs H2=>Q (.ref l::xs) H2):a8 (nM (λxs H Q=>∃p ys,xs=[.ref p]/\(aF K H p ys\/bW K H p ys)/\∀l,H l=none->Q (.ref l) (upd H l (.lst ys))) (a8 (cR n) dw)) tr σ H Q:=by
 obtain⟨as,h1,h2⟩:=c
 exact aG (iC (af (aa b) ao) ⟨a,_,rfl,.inl (aF.of h1),λl nl=>q l _ ((ah.refl H).upd nl) nl ⟨as,ae,aX.same h2 ((ah.refl H).upd nl)⟩⟩)
theorem iu.ln(h:iu g):g.ss.length+g.gs.length<=18:=by
 rcases h.sh with ⟨e,l⟩|⟨_,_,l⟩
 ·rw[e];show g.ss.length+0<=18;lia
 ·lia
theorem jh(h:ta σ H λvs H1=>sp (vs++[]) H1 (λv H2=>∃b,v=.bl b/\Q (!b) H2) E0):zi (tB (dY sp [] E0 ta)) σ H Q:=h
theorem zT{Q:List V->Hp->Prop}(b:σ[n]?=some (some (.ref a)))(c:AL H a ps)(q:∀l H',ah H H'->yg H' l ps->tr σ H' λxs H2=>Q (.ref l::xs) H2):a8 (nM (λxs H Q=>∃p ys,xs=[.ref p]/\((aF K H p ys/\∀l,H l=none->Q (.ref l) (upd H l (.tup ys)))\/(bW K H p ys/\Q (.ref p) H))) (a8 (cR n) dw)) tr σ H Q:=by
 obtain⟨as,h1,h2⟩:=c
 exact aG (iC (af (aa b) ao) ⟨a,_,rfl,.inl ⟨aF.of h1,λl nl=>q l _ ((ah.refl H).upd nl) ⟨as,ae,aX.same h2 ((ah.refl H).upd nl)⟩⟩⟩)
theorem ID(h:yg H t ps)(h':yg H u ps)(d:ps.length<=1000):uk (n+3) H (.ref t) (.ref u):=by
 obtain⟨as,b,a⟩:=h
 obtain⟨bs,c,b2⟩:=h'
 exact .inr (.inr ⟨t,u,_,_,rfl,rfl,.inr ⟨b,c⟩,by rw[LK,Paired.length a,LK];exact d,Cd a b2⟩)
theorem ux(g:Ev t σ H (.ref p))(m:σ[j]?=some (some (.ref a)))(c:yg H p ps)(h:AL H a ps)(f:ps.length<=1000)(q:∀H',ah H H'->Q (.bl true) H'):
  dY (gH 5) [] E0 (a8 t (a8 (nM (λxs H Q=>∃p ys,xs=[.ref p]/\((aF K H p ys/\∀l,H l=none->Q (.ref l) (upd H l (.tup ys)))\/(bW K H p ys/\Q (.ref p) H))) (a8 (cR j) dw)) dw)) σ H Q:=
 bI (a_ g (zT (K:=K) m h λl H' s b=>⟨_,_,rfl,ID (c.up λ_ _ e=>s _ _ e) b f,λH2 d=>q H2 (s.trans d)⟩))
theorem Hg{ps:List (Nat×Nat)}(h:lH H l ps)(h':lH H m ps)(c:ps.length<=1000):uk (n+3) H (.ref l) (.ref m):=by
 obtain⟨as,a,e⟩:=h
 obtain⟨bs,b,b2⟩:=h'
 refine .inr (.inr ⟨l,m,_,_,rfl,rfl,.inl ⟨a,b⟩,by rw[LK,Paired.length e];exact c,?_⟩)
 clear a b c
 induction e generalizing bs with
 |nil=>cases b2;exact .nil
 |cons x _ ih=>cases b2 with|cons y u=>exact .cons (Ck x y (λv d=>by simp only[LS,Md,or_false] at d;rcases d with rfl|rfl<;>exact⟨_,rfl⟩) (by show 2<=1000;decide)) (ih _ u)
theorem Ia{qs:List (T3×Int)}(h:PL H l qs)(h':PL H m qs)(e:qs.length<=1000)(f:∀q∈qs,q.1.length<=1000):uk (n+4) H (.ref l) (.ref m):=by
 obtain⟨as,a,g⟩:=h
 obtain⟨bs,b,b2⟩:=h'
 refine .inr (.inr ⟨l,m,_,_,rfl,rfl,.inl ⟨a,b⟩,by rw[LK,Paired.length g];exact e,?_⟩)
 clear a b e
 induction g generalizing bs with
 |nil=>cases b2;exact .nil
 |cons x _ ih=>
  cases b2 with
  |cons y u=>
   obtain⟨c,w,r⟩:=x
   obtain⟨d,j,s⟩:=y
   exact .cons (.inr (.inr ⟨_,_,_,_,rfl,rfl,.inr ⟨w,j⟩,by show 2<=1000;decide,.cons (Ck r s (λv o=>by obtain⟨i,_,rfl⟩:=LN.mp o;exact⟨i,rfl⟩) (by rw[LK];exact f _ LX)) (.cons xX .nil)⟩)) (ih (λq p=>f q (LZ _ p)) _ u)
noncomputable def IT (a:Sv) (c:T3):Int:=match bX (eG a) (iK c) with
 |some (.int i)=>i
 |_=>0
theorem An(c:(tls.map (·.1)).Nodup){p:P3×V}(b:p∈tls)(a:∃n:Nat,p.2=.int (n:Nat)):bX (eG tls) (iK (t3 p.1))=some (.int (IT tls (t3 p.1)))/\IT tls (t3 p.1)=((e_ p.2:Nat):Int):=by
 have e:bX (eG tls) (iK (t3 p.1))=some p.2:=pQ c (p:=p.1) (v:=p.2) b
 obtain⟨n,d⟩:=a
 unfold IT
 rw[e,d]
 exact⟨rfl,rfl⟩
theorem wB {M:Type} [DecidableEq M]{rk:M}{tl:Int->M}{z:P3}{n:Nat}{c:Int}{cs:List Int}(h:n+(c%4).toNat<z.1*z.2.1*z.2.2):gP rk tl z n (c::cs)=(kh rk z (n+(c%4).toNat) c++(gP rk tl z (qV z (n+(c%4).toNat) c) cs).1,iU tl z (n+(c%4).toNat) c++(oh tl z (n+(c%4).toNat) c++(gP rk tl z (qV z (n+(c%4).toNat) c) cs).2)):=by
 rw[gP,if_pos h]
theorem wu {M:Type} [DecidableEq M]{rk:M}{tl:Int->M}{z:P3}{n:Nat}{c:Int}{cs:List Int}(h:¬n+(c%4).toNat<z.1*z.2.1*z.2.2):gP rk tl z n (c::cs)=([],[]):=by rw[gP,if_neg h]
theorem uG(h:p∈bG (eV z a,k,m)):a<=gG z p/\gG z p<=a+k:=by
 obtain⟨i,hi,rfl⟩:=LN.mp h
 have:=ME.mp hi
 have hi:i<k+1:=this
 show a<=gG z (fQ (eV z a) i)/\gG z (fQ (eV z a) i)<=a+k
 rw[jE,iQ]
 lia
theorem Jw (t:g_ V):(bG t).Nodup:=by
 refine Mr.mpr (List.pairwise_lt_range.imp λl e=>?_)
 have:t.1.2.2+_=t.1.2.2+_:=congrArg (λp:P3=>p.2.2) e
 lia
theorem iE (t:g_ V):(bG t).length=t.2.1+1:=by unfold bG;rw[LK,Oh]
theorem ur (t:g_ V):(bu t).map (·.1)=bG t:=by unfold bu;rw[LV];exact NU _
theorem qp {t:g_ V}{m:P3×V}(h:m∈bu t):m.1∈bG t:=by rw[<-ur];exact LN.mpr ⟨m,h,rfl⟩
theorem jO:∀(ps:List P3) (kvs:Sv),ps.Nodup->(∀p∈ps,p∉kvs.map (·.1))->ps.foldl (kj m) (eG kvs)=eG (kvs++ps.map λp=>(p,m))
 |[],kvs,_,_=>by rw[MV,Mb];rfl
 |p::r,kvs,nd,h=>by
  rw[MG] at nd
  have e:kj m (eG kvs) p=eG (kvs++[(p,m)]):=by
   unfold kj
   rw[C_,nJ]
   cases ev:bX kvs p with
   |none=>rfl
   |some v=>exact absurd (fD.mp (by rw[ev];rfl)) (h p LX)
  rw[Mx,e,jO r _ nd.2 λq a=>?_,L1,Mn]
  ·rfl
  ·rw[LQ,L_]
   rintro(z|z)
   ·exact h q (LZ _ a) z
   ·have e:q=p:=LY.mp z
    exact nd.1 (e▸a)
theorem JW (c:Nat)(a b:List Nat)(r:List (List Nat)):jl c (jl c [a,b]::r)=jl c (a::b::r):=by
 cases r with
 |nil=>rfl
 |cons x r=>
  rw[dG (by simp),Kx,dG (r:=b::x::r) (by simp),dG (p:=b) (by simp)]
  simp
theorem JV (n:Nat):cp (Str.ofString "toll ")++dg n=jl 32 [cp (kS 4),dg n]:=by
 rw[Kx,show cp (Str.ofString "toll ")=cp (kS 4)++[32] by decide+kernel,Mn];rfl
inductive kZ (H0 H:Hp) (ra td rl r0 r1:Addr) (ps:List P3) (W0:List (List Nat)) (kvs:Sv) (W1:List (List Nat)):Prop
 |mk (s:ah H0 H) (h1:AL H ra ps) (h2:H td=some (.dT (eG kvs))) (h3:H rl=some (.lst [.ref r0,.ref r1])) (h4:WL H r0 W0) (h5:WL H r1 W1)
structure JZ (H0:Hp) (ra td rl r0 r1:Addr):Prop where
 n1:H0 ra=none
 n2:H0 td=none
 n3:H0 rl=none
 n4:H0 r0=none
 n5:H0 r1=none
 d1:ra≠rl
 d2:ra≠r0
 d3:ra≠r1
 d4:r0≠rl
 d5:r1≠rl
 d6:r0≠r1
section
variable {H0 H H':Hp} {ra td rl r0 r1:Addr} {ps qs:List P3} {W0 W1:List (List Nat)} {kvs kvs':Sv}
theorem kZ.sm (h:kZ H0 H ra td rl r0 r1 ps W0 kvs W1):ah H0 H:=by obtain⟨s,_⟩:=h;exact s
theorem kZ.same (h:kZ H0 H ra td rl r0 r1 ps W0 kvs W1)(s:ah H H'):kZ H0 H' ra td rl r0 r1 ps W0 kvs W1:=by
 obtain⟨c,h1,h2,b,a,d⟩:=h
 exact⟨c.trans s,h1.same s,s _ _ h2,s _ _ b,s _ _ a,s _ _ d⟩
theorem AL.put(h:AL H l ps)(n:l≠m)(a:H m=some (.lst us)):AL (upd H m (.lst vs)) l ps:=by
 obtain⟨as,h1,h2⟩:=h
 exact⟨as,by rw[ak n];exact h1,cA h2 λ_ _ e=>by rw[ak (cQ e a (λz=>nomatch z))];exact e⟩
theorem kZ.pR (h:kZ H0 H ra td rl r0 r1 ps W0 kvs W1)(n:JZ H0 ra td rl r0 r1){as bs:List Addr}(d:H ra=some (.lst (as.map V.ref)))(l:aX H bs (qs.map t3)):kZ H0 (upd H ra (.lst (as.map V.ref++bs.map V.ref))) ra td rl r0 r1 (ps++qs) W0 kvs W1:=by
 obtain⟨o,⟨a,h1,c⟩,h2,m,g,j⟩:=h
 rw[d] at h1
 have e:as.map V.ref=a.map V.ref:=by injection h1 with h1;injection h1
 have f:∀b xs,H b=some (.tup xs)->upd H ra (.lst (as.map V.ref++bs.map V.ref)) b=some (.tup xs):=λb xs z=>by rw[ak (cQ z d (λw=>nomatch w))];exact z
 refine⟨bK o n.n1,⟨a++bs,by rw[ae,e,LQ],?_⟩,by rw[ak (cQ h2 d (λw=>nomatch w))];exact h2,by rw[ak n.d1.symm];exact m,by show upd H ra _ r0=_;rw[ak n.d2.symm];exact g,by show upd H ra _ r1=_;rw[ak n.d3.symm];exact j⟩
 rw[LQ]
 exact dX (cA c f) (cA l f)
theorem kZ.p0 (h:kZ H0 H ra td rl r0 r1 ps W0 kvs W1)(n:JZ H0 ra td rl r0 r1)(w:List Nat):kZ H0 (upd H r0 (.lst (W0.map sv++[sv w]))) ra td rl r0 r1 ps (W0++[w]) kvs W1:=by
 obtain⟨c,h1,h2,b,a,d⟩:=h
 exact⟨bK c n.n4,h1.put n.d2 a,by rw[ak (cQ h2 a (λw=>nomatch w))];exact h2,by rw[ak n.d4.symm];exact b,by unfold WL;rw[ae,LQ];rfl,by show upd H r0 _ r1=_;rw[ak n.d6.symm];exact d⟩
theorem kZ.p1 (h:kZ H0 H ra td rl r0 r1 ps W0 kvs W1)(n:JZ H0 ra td rl r0 r1)(w:List Nat):kZ H0 (upd H r1 (.lst (W1.map sv++[sv w]))) ra td rl r0 r1 ps W0 kvs (W1++[w]):=by
 obtain⟨d,h1,h2,c,b,a⟩:=h
 exact⟨bK d n.n5,h1.put n.d3 a,by rw[ak (cQ h2 a (λw=>nomatch w))];exact h2,by rw[ak n.d5.symm];exact c,by show upd H r1 _ r0=_;rw[ak n.d6];exact b,by unfold WL;rw[ae,LQ];rfl⟩
theorem kZ.pD (h:kZ H0 H ra td rl r0 r1 ps W0 kvs W1)(n:JZ H0 ra td rl r0 r1)(sb:Sb td H H')(hd:H' td=some (.dT (eG kvs'))):kZ H0 H' ra td rl r0 r1 ps W0 kvs' W1:=by
 obtain⟨j,⟨as,h1,a⟩,h2,g,d,f⟩:=h
 have k:∀b o,H b=some o->o≠.dT (eG kvs)->H' b=some o:=λb o e c=>sb _ _ (cQ e h2 c) e
 exact⟨λb o e=>sb _ _ (ax e n.n2) (j _ _ e),⟨as,k _ _ h1 (λw=>nomatch w),cA a λb xs e=>k _ _ e (λw=>nomatch w)⟩,hd,k _ _ g (λw=>nomatch w),k _ _ d (λw=>nomatch w),k _ _ f (λw=>nomatch w)⟩
end
theorem vQ{t:g_ V}(h:AL H l (bG t)):∃(as:List Addr) (a b:Addr),H l=some (.lst (as.map V.ref))/\jq (as.map V.ref) 0=some (.ref a)/\jq (as.map V.ref) (-1)=some (.ref b)/\A3 H a t.1/\A3 H b (fQ t.1 t.2.1):=by
 obtain⟨as,h1,h2⟩:=h
 have f:as.length=t.2.1+1:=by rw[Paired.length h2,LK,iE]
 have g:∀i,i<t.2.1+1->∃a,as[i]?=some a/\A3 H a (fQ t.1 i):=λi hi=>by
  have e:as[i]?=some (as[i]'(by lia)):=Mi _
  obtain⟨c,d,r⟩:=fj h2 e
  rw[L7] at d
  unfold bG at d
  rw[L7,OD hi] at d
  cases d
  exact⟨_,e,r⟩
 obtain⟨a,o,ha⟩:=g 0 (by lia)
 obtain⟨b,n,p⟩:=g t.2.1 (by lia)
 refine⟨as,a,b,h1,bS (j:=0) (by rw[L7,o];rfl),?_,ha,p⟩
 have m:as≠[]:=λz=>by rw[z] at f;simp at f
 obtain⟨xs,x,rfl⟩:∃xs x,as=xs++[x]:=⟨as.dropLast,as.getLast m,(List.dropLast_concat_getLast m).symm⟩
 have:b=x:=by
  rw[LP] at f
  have q:xs.length=t.2.1:=by simpa using f
  rw[<-q,Ny (LL _),Nat.sub_self] at n
  exact(Option.some.inj n).symm
 rw[this,LQ]
 exact r_
theorem oO(hz:Sz z){a k:Nat}(b:a<z.1*z.2.1*z.2.2)(d:a%z.2.2+k<z.2.2){i:Nat}(c:i<=k):In z (fQ (eV z a) i):=by
 have:=Bl hz b
 exact⟨this.1,this.2.1,by show a%z.2.2+i<z.2.2;lia⟩
theorem qL {a b:Type}{f:a->List b}{l:List a}{t:a}:(l++[t]).flatMap f=l.flatMap f++f t:=by rw[MT,MJ]
theorem p9 {a b:Type}{f:a->b}{l:List a}{t:a}:(l++[t]).map f=l.map f++[f t]:=by rw[LQ];rfl
theorem Gn (c:Int):∃n:Nat,Kn c=(n:Nat)/\1<=n/\n+1<=1000000000000:=by
 unfold Kn
 have a:=Na (c*7919) (show((10:Int)^12 - 1)≠0 by decide)
 have h1:=Nb (c*7919) (show(0:Int)<10^12 - 1 by decide)
 exact⟨(1+c*7919%(10^12 - 1)).toNat,by lia,by lia,by lia⟩
def Hh (t:g_ V):List Nat:=rt (Gr (jn t))
def DT (t:g_ V):List Nat:=rt (GA (jn t))
inductive Kr (z:P3) (H0:Hp) (ra td rl r0 r1:Addr) (cs:List Int) (i n:Nat) (H:Hp):Prop
 |mk (A B:List (g_ V)) (h:kZ H0 H ra td rl r0 r1 (A.flatMap bG) (A.map Hh) (B.flatMap bu) (B.map DT)) (e1:(kX z cs).1=A++(gP (.bl true) V.int z n (cs.drop i)).1) (e2:(kX z cs).2=B++(gP (.bl true) V.int z n (cs.drop i)).2) (lt:∀m∈B.flatMap bu,gG z m.1<n) (l1:(A.flatMap bG).length<=3*i) (l2:A.length<=i) (l3:(B.flatMap bu).length<=4*i) (l4:B.length<=2*i)
theorem Kr.sm(h:Kr z H0 ra td rl r0 r1 cs i n H):ah H0 H:=by cases h with|mk A B h=>exact h.sm
theorem qU{W:List (List Nat)}(o:σ[4]?=some (some (.ref rl)))(n:H rl=some (.lst us))(u:jq us k=some (.ref rk))(d:WL H rk W)(p:W.length<=900)(m:Ev th σ H (sv h))(j:Ev t1 σ H (.ref a))(l:Ev t2 σ H (.ref b))(r:A3 H a f)(g:A3 H b s)(sm:Sm [f,s])(e:h.length<=100)
  (q:∀H',ah H H'->D.nx σ (upd H' rk (.lst (W.map sv++[sv (jl 32 (h::(cr f s).map dr))])))):mO (Gc K "list" lK (fv (ow K) (cR 4) (tC (.int k))) (a8 (dY i5 [] E0 (a8 th (a8 t1 (a8 t2 dw)))) dw)) D σ H:=
 iX (eo (cM (aa o) ar (aF.of n) u) (.inl ⟨rfl,_,aF.of d⟩) (aG (aP (af m (af j (af l ao))) ⟨h,a,b,f,s,rfl,r,g,sm,e,λH1 c=>⟨rk,_,_,rfl,rfl,c _ _ d,by rw[LK];exact N4 p (by decide),q H1 c⟩⟩)))
theorem Hz {K:LO}{th g e:TE}{k:Int}{u:TS}{c:St}{H:Hp}{D:fX}{d rk:Addr}{us:List V}{W:List (List Nat)}{h:List Nat}{a b:Addr}{f s:P3}(m:c[4]?=some (some (.ref d)))(y:H d=some (.lst us))(z:jq us k=some (.ref rk))(p:WL H rk W)(o:W.length<=900)(n:Ev th c H (sv h))(j:Ev g c H (.ref a))(x:Ev e c H (.ref b))(l:A3 H a f)(w:A3 H b s)(sm:Sm [f,s])(r:h.length<=100)
  (q:∀H',ah H H'->u D c (upd H' rk (.lst (W.map sv++[sv (jl 32 (h::(cr f s).map dr))])))):eU (mO (Gc K "list" lK (fv (ow K) (cR 4) (tC (.int k))) (a8 (dY i5 [] E0 (a8 th (a8 g (a8 e dw)))) dw))) u D c H:=qU (D:={D with nx:=u D}) m y z p o n j x l w sm r q
theorem F4(h:Ev te σ H (.int (n:Nat)))(a:n<=1000000000000):Ev (fv (λx y H Q=>∃i j,x=.str i/\y=.str j/\i.length+j.length<=sizeLine/\Q (.str (i++j)) H) (tC (.str (Str.ofString "toll "))) (nM (λxs H Q=>∃i:Int,xs=[.int i]/\i.natAbs.log2<1920/\Q (.str (Str.ofString (toString i))) H) (a8 te dw))) σ H (sv (jl 32 [cp (kS 4),dg n])):=by
 have l:=cj (k:=14) (n:=n) (by decide) (by lia)
 refine aY (wN ar (fV h (by lia)) (y:=ss (dg n)) ?_) (congrArg V.str (hZ ?_))
 ·rw[show(Str.ofString "toll ").length=5 by decide+kernel,<-cu,bY]
  exact LR (show 5+(dg n).length<=100 by lia) (by decide)
 ·rw[fB,bY];exact JV n
theorem zV(a:n<=1000000000000):(jl 32 [cp (kS 4),dg n]).length<=100:=by
 have l:=cj (k:=14) (n:=n) (by decide) (by lia)
 rw[<-JV,LP,show(cp (Str.ofString "toll ")).length=5 by decide+kernel]
 lia
theorem Ai (p:P3)(k n:Nat):jl 32 (jl 32 [cp (kS 4),dg n]::(cr p (fQ p k)).map dr)=DT (p,k,.int (n:Nat)):=JW ..
theorem Jv (ns:List Int)(i j:Nat)(h:i<=j):∃cs:List Int,fu (ns.map V.int) (some (i:Int)) (some (j:Int))=cs.map V.int/\cs.length<=j - i:=by
 unfold fu
 rw[HT.sIx_nat,HT.sIx_nat,<-List.map_drop,<-M_]
 exact⟨_,rfl,by rw[Mg];lia⟩
theorem sj(h0:Ev t0 σ H (.int v0))(h1:Ev t1 σ H (.int v1))(a:∀H',Ev ti σ H' (.int (k%2)))(q:∀H',ah H H'->Q (.int (if k%2=0 then v0 else v1)) H'):fv (ow K) (yS (a8 t0 (a8 t1 dw))) ti σ H Q:=by
 refine dW (dM (vs:=[.int v0,.int v1]) (af h0 (af h1 ao)) (by show 2<=sizeLine;decide) λp b=>cZ (a _) ⟨p,_,k%2,_,rfl,rfl,aF.of ae,?_,q _ ((ah.refl H).upd b)⟩)
 have:k%2=0\/k%2=1:=by lia
 rcases this with e|e<;>rw[e]<;>rfl
noncomputable def xc (a:List Tn):List Lg:=a.flatMap λg=>g.es.map λp=>(p,g.h,g.r)
theorem G4(f:K6 z (iH rks) p h):E5 z rks p h:=by
 have a:=(f 0 0 (by lia) (by lia)).1
 have b:=(f (2*h) (2*h) (by lia) (by lia)).1
 refine⟨by lia,λq d j g e=>?_⟩
 have c:=(f (q.2.1+h - p.2.1) (q.2.2+h - p.2.2) (by lia) (by lia)).2
 rw[show((p.2.1:Int) - (h:Nat)+((q.2.1+h - p.2.1:Nat):Int))=(q.2.1:Nat) by lia,show((p.2.2:Int) - (h:Nat)+((q.2.2+h - p.2.2:Nat):Int))=(q.2.2:Nat) by lia,<-d] at c
 have v:=wD rks q
 rw[decide_eq_true e,show iK (t3 q)=iK [((q.1:Nat):Int),(q.2.1:Nat),(q.2.2:Nat)] from rfl,c] at v
 cases v
theorem F2 {a b:Tn}(h:a.st=b.st):a.nm=b.nm:=vF h
theorem EE {z:P3}{j:List P3}{l:List Tn}{g:Tn}(ok:kG z j l)(w:g.nm∉l.map Tn.nm)(few:l.length<12)(ln:g.ss.length+g.gs.length<=18)(m:∀c∈g.es,In z c/\E5 z j c g.h)(n:∀c∈g.es,(xc l).any (gc c g.h g.r)=false):kG z j (l++[g]) where
 nm:=by
  rw[p9]
  refine MQ.mpr ⟨ok.nm,by simp,λa ha b p e=>?_⟩
  obtain⟨o,f,rfl⟩:=LN.mp ha
  rw[LY.mp p] at e
  exact w (F2 e▸LN.mpr ⟨o,f,rfl⟩)
 few:=by rw[LP];exact few
 ln:=λt ht=>by
  rcases L_.mp ht with ht|ht
  ·exact ok.ln t ht
  ·rw[LY.mp ht];exact ln
 ok:=λt ht=>by
  rcases L_.mp ht with ht|ht
  ·exact ok.ok t ht
  ·rw[LY.mp ht];exact m
 cr:=by
  refine List.pairwise_append.mpr ⟨ok.cr,List.pairwise_singleton _ _,λt ht u s c q d hd=>?_⟩
  rw[LY.mp s] at hd|-
  have:=n d hd
  rw[NY] at this
  exact Bool.eq_false_iff.mpr (this (c,t.h,t.r) (NK.mpr ⟨t,ht,LN.mpr ⟨c,q,rfl⟩⟩))
theorem EG(h:∀g∈gs,g.ss.length+g.gs.length<=18):(xc gs).length<=18*gs.length:=by
 induction gs with
 |nil=>exact LL _
 |cons g r ih=>
  have h1:=h g LX
  have h2:=ih λt a=>h t (LZ _ a)
  unfold xc at h2|-
  rw[MP,LP,LK,LP,L5]
  lia
def yC (x y:Addr) (H:Hp) (v:V) (g:Tn):Prop:=∃t a b,v=.ref t/\H t=some (.tup [sv g.nm,.int (g.h:Nat),.int (g.r:Nat),.ref a,.ref b])/\AL H a g.ss/\AL H b g.gs/\(a≠x/\b≠x)/\a≠y/\b≠y
theorem yC.same(h:yC x y H v g)(s:ah H H'):yC x y H' v g:=by
 obtain⟨t,a,b,e,h1,h2,d,c⟩:=h
 exact⟨t,a,b,e,s _ _ h1,h2.same s,d.same s,c⟩
theorem yC.put(h:yC x y H v g)(c:H m=some (.lst us))(e:m=x\/m=y):yC x y (upd H m (.lst vs)) v g:=by
 obtain⟨t,a,b,o,h1,h2,p,⟨f,j⟩,n,l⟩:=h
 have d:a≠m/\b≠m:=by rcases e with rfl|rfl;exact⟨f,j⟩;exact⟨n,l⟩
 exact⟨t,a,b,o,by rw[ak (cQ h1 c (λw=>nomatch w))];exact h1,h2.put d.1 c,p.put d.2 c,⟨f,j⟩,n,l⟩
theorem Ly.put{g:Lg}(h:Ly H v g)(b:H m=some (.lst us)):Ly (upd H m (.lst vs)) v g:=by
 obtain⟨t,a,e,h1,h2⟩:=h
 exact⟨t,a,e,by rw[ak (cQ h1 b (λw=>nomatch w))];exact h1,by show upd H m _ a=_;rw[ak (cQ h2 b (λw=>nomatch w))];exact h2⟩
inductive Ll (z:P3) (rks:List P3) (cs:List Int) (H0:Hp) (tl ly:Addr) (m n:Nat) (H:Hp):Prop
 |mk (us vs:List V) (gs:List Tn) (em:m=cs.length - n) (s:ah H0 H) (h1:H tl=some (.lst us)) (h2:Paired (yC tl ly H) us gs) (h3:H ly=some (.lst vs)) (h4:Paired (Ly H) vs (xc gs)) (ok:kG z rks gs) (tn:∀g∈gs,iu g)
theorem jY {H:Hp}{e:Addr}{as:List Addr}{ps:List P3}{k:Nat}(h:aX H as (ps.map t3)):aX H (as.take k) ((ps.take k).map t3)/\aX H (as.drop k) ((ps.drop k).map t3):=by
 rw[M_,List.map_drop]
 exact⟨iT h k,oE h k⟩
theorem EL(p:In z a)(q:In z b)(h:gG z a<gG z b):HT.lexLt (t3 a) (t3 b)=true:=by
 obtain⟨a1,a2,r⟩:=a
 obtain⟨n,b2,o⟩:=b
 obtain⟨_,c,g⟩:=p
 obtain⟨_,m,j⟩:=q
 unfold gG at h
 simp only at*
 show HT.lexLt [(a1:Int),(a2:Int),(r:Int)] [(n:Int),(b2:Int),(o:Int)]=true
 have f:¬n<a1:=λl=>by
  have h1:n*z.2.1+b2<a1*z.2.1:=Me (show n*z.2.1+b2<(n+1)*z.2.1 by rw[Nat.add_mul,Nat.one_mul];lia) (Od _ l)
  have h2:(n*z.2.1+b2)*z.2.2+o<(a1*z.2.1)*z.2.2:=Me (show _<(n*z.2.1+b2+1)*z.2.2 by rw[Nat.add_mul _ 1,Nat.one_mul];lia) (Od _ h1)
  have s:(a1*z.2.1)*z.2.2<=(a1*z.2.1+a2)*z.2.2:=Od _ (by lia)
  lia
 rw[HT.lexLt_cons]
 by_cases e:a1=n
 ·subst e
  rw[if_pos rfl,HT.lexLt_cons]
  have d:¬b2<a2:=λl=>by
   have h2:(a1*z.2.1+b2+1)*z.2.2<=(a1*z.2.1+a2)*z.2.2:=Od _ (by lia)
   rw[Nat.add_mul _ 1,Nat.one_mul] at h2
   lia
  by_cases e2:a2=b2
  ·subst e2
   rw[if_pos rfl,HT.lexLt_cons,if_neg (by lia)]
   exact decide_eq_true (by lia)
  ·rw[if_neg (by lia)]
   exact decide_eq_true (by lia)
 ·rw[if_neg (by lia)]
  exact decide_eq_true (by lia)
structure Lb (z:P3) (k:Nat) (S:List (g_ V)×List (g_ V)):Prop where
 r:∀t∈S.1,t.2.2=.bl true/\t.2.1<=2/\In z t.1/\In z (fQ t.1 t.2.1)
 t:∀t∈S.2,(∃n:Nat,t.2.2=.int (n:Nat)/\1<=n/\n<=1000000000000)/\t.2.1<=2/\In z t.1/\In z (fQ t.1 t.2.1)
 l:S.1.length<=k/\S.2.length<=2*k
theorem F6(hz:Sz z):∀(cs:List Int) (n:Nat),Lb z cs.length (gP (.bl true) V.int z n cs)
 |[],_=>⟨(λ_ h=>nomatch h),(λ_ h=>nomatch h),LL _,LL _⟩
 |c::cs,n=>by
  by_cases h:n+(c%4).toNat<z.1*z.2.1*z.2.2
  ·rw[wB h]
   obtain⟨l,it,o⟩:=F6 hz cs (qV z (n+(c%4).toNat) c)
   obtain⟨a,q⟩:∃a,a=n+(c%4).toNat:=⟨_,rfl⟩
   rw[<-q] at h l it o|-
   obtain⟨⟨u,D⟩,⟨y,A⟩,C,s⟩:=id hz
   have m:=md (show 0<z.2.2 by lia) a c
   have x:iW z a c<=3:=by unfold iW;lia
   obtain⟨f,b,e,p⟩:=Gn c
   have j:=oO hz h (k:=iW z a c - 1) (by lia) (i:=0) (by lia)
   have g:∀i,i<=iW z a c - 1->In z (fQ (eV z a) i):=λi hi=>oO hz h (k:=iW z a c - 1) (by lia) hi
   refine⟨λt ht=>?_,λt ht=>?_,?_⟩
   ·rcases L_.mp ht with ht|ht
    ·unfold kh at ht
     split at ht
     ·rw[LY.mp ht]
      exact⟨rfl,by show iW z a c - 1<=2;lia,j,g _ (LL _)⟩
     ·cases ht
    ·exact l t ht
   ·rcases L_.mp ht with ht|ht
    ·unfold iU at ht
     split at ht
     ·cases ht
     ·rw[LY.mp ht,b]
      exact⟨⟨f,rfl,e,by lia⟩,by show(if knd c=4 then 0 else iW z a c - 1)<=2;split<;>lia,j,g _ (by show(if knd c=4 then 0 else iW z a c - 1)<=_;split<;>lia)⟩
    rcases L_.mp ht with ht|ht
    ·unfold oh at ht
     split at ht
     ·next tw=>
      have r:=tw.2
      have d:In z (eV z (a+iW z a c)):=by rw[pZ (by lia)];exact oO hz h (k:=iW z a c) (by lia) (LL _)
      rw[LY.mp ht,b]
      exact⟨⟨f+1,rfl,by lia,by lia⟩,L0 _,d,d⟩
     ·cases ht
    ·exact it t ht
   ·have r1:(kh (V.bl true) z a c).length<=1:=by unfold kh;split<;>simp
    have B:(iU V.int z a c).length<=1:=by unfold iU;split<;>simp
    have w:(oh V.int z a c).length<=1:=by unfold oh;split<;>simp
    simp only[LP,L5]
    lia
  ·rw[wu h]
   exact⟨(λ_ h=>nomatch h),(λ_ h=>nomatch h),L0 _,L0 _⟩
theorem Ah {a c:Type}{g:a->List c}:∀{xs:List a},(∀x∈xs,(g x).length<=k)->(xs.flatMap g).length<=k*xs.length
 |[],_=>L0 _
 |x::r,h=>by
  have h1:=h x LX
  have h2:=Ah (xs:=r) λy b=>h y (LZ _ b)
  rw[MP,LP,L5,Nat.mul_add,Nat.mul_one]
  lia
theorem qq{t:g_ V}(h1:In z t.1)(b:In z (fQ t.1 t.2.1)){p:P3}(a:p∈bG t):In z p:=by
 obtain⟨i,hi,rfl⟩:=LN.mp a
 have hi:i<t.2.1+1:=ME.mp hi
 have c:t.1.2.2+t.2.1<z.2.2:=b.2.2
 exact⟨h1.1,h1.2.1,by show t.1.2.2+i<z.2.2;lia⟩
theorem m7 (ts:List (g_ V)):(ts.flatMap bu).map (·.1)=ts.flatMap bG:=by
 rw[List.map_flatMap]
 exact congrArg (λf=>ts.flatMap f) (funext ur)
theorem s_{ts:List (g_ V)}(h:vE z n ts)(c:∀t∈ts,In z t.1/\In z (fQ t.1 t.2.1)):mU (ts.flatMap bG):=by
 have a:=(vE.rise h).1
 rw[<-m7]
 refine Mr.mpr ((Mr.mp a).imp_of_mem fun{x y} f e l=>EL ?_ ?_ l)
 ·obtain⟨t,b,d⟩:=NK.mp f
  exact qq (c t b).1 (c t b).2 (qp d)
 ·obtain⟨t,b,d⟩:=NK.mp e
  exact qq (c t b).1 (c t b).2 (qp d)
theorem BM {ts:List (g_ V)}(h:∀t∈ts,t.2.2=.bl true):mj (ts.flatMap bG)=ts.flatMap bu:=by
 unfold mj
 rw[List.map_flatMap]
 induction ts with
 |nil=>rfl
 |cons t r ih=>
  rw[MP,MP,ih λx a=>h x (LZ _ a)]
  unfold bu
  rw[h t LX]
structure t8 (z:P3) (A B:List (g_ V)) (rks:List P3) (tls:Sv):Prop where
 er:rks=A.flatMap bG
 et:tls=B.flatMap bu
 r1:mU rks
 r2:∀p∈rks,In z p
 t1:mU (tls.map (·.1))
 t2:∀p∈tls,In z p.1/\∃n:Nat,p.2=.int (n:Nat)/\1<=n/\n<=1000000000000
 rr:cm (mj rks)=A.map jn
 rt:cm tls=B.map jn
 l:(rks.length<=200/\tls.length<=400)/\A.length+B.length<=189
 a:∀t∈A,t.2.2=.bl true/\In z t.1/\In z (fQ t.1 t.2.1)
 b:∀t∈B,(∃n:Nat,t.2.2=.int (n:Nat)/\1<=n/\n<=1000000000000)/\In z t.1/\In z (fQ t.1 t.2.1)
theorem KF(hz:Sz z){cs:List Int}(d:cs.length<=63):t8 z (kX z cs).1 (kX z cs).2 ((kX z cs).1.flatMap bG) ((kX z cs).2.flatMap bu):=by
 have p:0<z.2.2:=by have:=hz.2.2;lia
 obtain⟨h1,h2,f⟩:=F6 hz cs 0
 have f:(kX z cs).1.length<=cs.length/\(kX z cs).2.length<=2*cs.length:=f
 obtain⟨j,l⟩:=sq (rk:=V.bl true) (tl:=V.int) p cs 0
 refine⟨rfl,rfl,s_ j λt a=>(h1 t a).2.2,λq b=>?_,?_,λq b=>?_,?_,?_,⟨⟨?_,?_⟩,by lia⟩,λt a=>⟨(h1 t a).1,(h1 t a).2.2⟩,λt a=>⟨(h2 t a).1,(h2 t a).2.2⟩⟩
 ·obtain⟨t,a,b⟩:=NK.mp b
  exact qq (h1 t a).2.2.1 (h1 t a).2.2.2 b
 ·rw[m7];exact s_ l λt a=>(h2 t a).2.2
 ·obtain⟨t,a,b⟩:=NK.mp b
  obtain⟨c,d,rfl⟩:=LN.mp b
  exact⟨qq (h2 t a).2.2.1 (h2 t a).2.2.2 d,(h2 t a).1⟩
 ·rw[BM λt a=>(h1 t a).1]
  exact wz (j_ p cs 0 none λ_ h=>nomatch h)
 ·exact wz (iR (λi e=>by injection e with e;lia) p cs 0 none λ_ h=>nomatch h)
 ·have:=Ah (g:=bG) (k:=3) (xs:=(kX z cs).1) λt a=>by rw[iE];have:=(h1 t a).2.1;lia
  lia
 ·have:=Ah (g:=bu) (k:=3) (xs:=(kX z cs).2) λt a=>by unfold bu;rw[LK,iE];have:=(h2 t a).2.1;lia
  lia
noncomputable def jb (ps:List (Nat×Nat)) (ns:List Nat) (A B:List (g_ V)) (a:List Tn):List Rw:=ps.map DS++(ns.map Rw.via++(A.map (λt=>Gr (jn t))++(B.map (λt=>GA (jn t))++a.map pC)))
theorem GO{A B:List (g_ V)}(m:t8 g.z A B rks tls):wr g rks tls gs=.floor g.z::jb g.ps g.vs A B gs:=by
 unfold wr jb
 rw[m.rr,m.rt,LV,LV];rfl
theorem cX {b c:Type}{f:Rw->Option c}{g:b->Rw}(h:∀a,f (g a)=none)(l:List b):(l.map g).filterMap f=[]:=List.filterMap_eq_nil_iff.mpr λr hr=>by
 obtain⟨a,_,rfl⟩:=LN.mp hr
 exact h a
theorem i8 {c e d:Type}{f:e->Option d}{g:c->e}{u:c->d}:∀{l:List c},(∀a∈l,f (g a)=some (u a))->(l.map g).filterMap f=l.map u
 |[],_=>rfl
 |a::t,h=>by rw[L1,Nr,h a LX,i8 (λb j=>h b (LZ _ j))];rfl
theorem xR {a:Type}{f:Rw->Option a}(h1:∀x h r cs,f (.net x h r cs)=none)(b:∀x r cs ds,f (.bun x r cs ds)=none)(g:Tn):f (pC g)=none:=by
 unfold pC
 split
 ·exact h1 ..
 ·exact b ..
theorem zZ (f l:P3):hd (cr f l)=f:=by unfold cr;split<;>rfl
theorem C2 (f l:P3):ls (cr f l)=l:=by
 unfold cr
 split
 ·next e=>rw[<-e];rfl
 ·rfl
section
variable {z:P3} {ps:List (Nat×Nat)} {ns:List Nat} {A B:List (g_ V)} {gs:List Tn} {rks:List P3} {tls:Sv}
theorem AW:(jb ps ns A B gs).filterMap FE=ps:=by
 unfold jb
 rw[Mj,Mj,Mj,Mj,i8 (f:=FE) (g:=DS) (u:=id) (λ_ _=>rfl),cX (λ_=>rfl),cX (λ_=>rfl),cX (λ_=>rfl),cX (xR (λ_ _ _ _=>rfl) λ_ _ _ _=>rfl)]
 simp
theorem CY:(jb ps ns A B gs).filterMap BE=ns:=by
 unfold jb
 rw[Mj,Mj,Mj,Mj,cX (λ_=>rfl),i8 (f:=BE) (g:=Rw.via) (u:=id) (λ_ _=>rfl),cX (λ_=>rfl),cX (λ_=>rfl),cX (xR (λ_ _ _ _=>rfl) λ_ _ _ _=>rfl)]
 simp
theorem Jb (h:∀t∈A,t.2.2=.bl true):(jb ps ns A B gs).filterMap g9=A.map λt=>(t.2.2,t.1,fQ t.1 t.2.1):=by
 unfold jb
 rw[Mj,Mj,Mj,Mj,cX (λ_=>rfl),cX (λ_=>rfl),i8 (f:=g9) (u:=λt=>(t.2.2,t.1,fQ t.1 t.2.1)) (λt a=>by show some (V.bl true,hd (cr _ _),ls (cr _ _))=_;rw[zZ,C2,h t a];rfl),cX (λ_=>rfl),cX (xR (λ_ _ _ _=>rfl) λ_ _ _ _=>rfl)]
 simp
theorem JG (h:∀t∈B,∃n:Nat,t.2.2=.int (n:Nat)):(jb ps ns A B gs).filterMap iG=B.map λt=>(t.2.2,t.1,fQ t.1 t.2.1):=by
 unfold jb
 rw[Mj,Mj,Mj,Mj,cX (λ_=>rfl),cX (λ_=>rfl),cX (λ_=>rfl),i8 (f:=iG) (u:=λt=>(t.2.2,t.1,fQ t.1 t.2.1)) (λt a=>by show some (V.int (e_ t.2.2:Nat),hd (cr _ _),ls (cr _ _))=_;obtain⟨n,e⟩:=h t a;rw[zZ,C2,e];rfl),cX (xR (λ_ _ _ _=>rfl) λ_ _ _ _=>rfl)]
 simp
theorem C4 (h:∀g∈gs,iu g):(jb ps ns A B gs).filterMap uw=gs:=by
 unfold jb
 rw[Mj,Mj,Mj,Mj,cX (λ_=>rfl),cX (λ_=>rfl),cX (λ_=>rfl),cX (λ_=>rfl),i8 (f:=uw) (g:=pC) (u:=id) (λg hg=>?_)]
 ·simp
 ·obtain⟨c,b,r,ss,gs⟩:=g
  rcases(h _ hg).sh with ⟨e,_⟩|⟨e,a,_⟩
  ·have e:gs=[]:=e
   subst e
   rfl
  ·have a:b=0:=a
   subst a
   show uw (if gs=[] then _ else _)=_
   rw[if_neg e];rfl
theorem uj(h:r∈jb ps ns A B gs):(∃p∈ps,r=DS p)\/(∃n∈ns,r=.via n)\/(∃t∈A,r=Gr (jn t))\/(∃t∈B,r=GA (jn t))\/∃g∈gs,r=pC g:=by
 unfold jb at h
 simp only[L_,LN] at h
 rcases h with ⟨p,a,e⟩|⟨p,a,e⟩|⟨p,a,e⟩|⟨p,a,e⟩|⟨p,a,e⟩
 ·exact .inl ⟨p,a,e.symm⟩
 ·exact .inr (.inl ⟨p,a,e.symm⟩)
 ·exact .inr (.inr (.inl ⟨p,a,e.symm⟩))
 ·exact .inr (.inr (.inr (.inl ⟨p,a,e.symm⟩)))
 ·exact .inr (.inr (.inr (.inr ⟨p,a,e.symm⟩)))
end
theorem xy (a:Nat):qO a a=[a]:=by unfold qO;simp
theorem JM (f:P3)(n:Nat)(v:V):bx f (fQ f n)=bG (f,n,v):=by
 unfold bx
 rw[show(fQ f n).1=f.1 from rfl,xy,MJ]
 unfold zR
 rw[show(fQ f n).2.1=f.2.1 from rfl,xy,MJ]
 unfold vw qO bG
 rw[show(fQ f n).2.2=f.2.2+n from rfl,M9 (by lia),Nat.max_eq_right (by lia),Nat.add_sub_cancel_left,List.range'_eq_map_range,LV]
 rfl
theorem tF:∀(ps:List P3) (k:Sv),(k.map (·.1)++ps).Nodup->ps.foldl (λk p=>c6 k p m) k=k++ps.map λp=>(p,m)
 |[],k,_=>(Mb k).symm
 |p::r,k,nd=>by
  have e:c6 k p m=k++[(p,m)]:=by
   rw[nJ]
   cases ev:bX k p with
   |none=>rfl
   |some v=>exact absurd rfl ((MQ.mp nd).2.2 p (fD.mp (by rw[ev];rfl)) p LX)
  rw[Mx,e,tF r _ (by rw[LQ,Mn];exact nd),L1,Mn]
  rfl
theorem qD:∀(ts:List (g_ V)) (k:Sv),(k.map (·.1)++ts.flatMap bG).Nodup->(ts.map λt=>(t.2.2,t.1,fQ t.1 t.2.1)).foldl uC k=k++ts.flatMap bu
 |[],k,_=>(Mb k).symm
 |t::r,k,nd=>by
  rw[MP,<-Mn] at nd
  have e:uC k (t.2.2,t.1,fQ t.1 t.2.1)=k++bu t:=by
   unfold uC
   show(bx t.1 (fQ t.1 t.2.1)).foldl _ k=_
   rw[JM t.1 t.2.1 t.2.2,tF _ _ (MQ.mp nd).1];rfl
  rw[L1,Mx,e,qD r _ (by rw[LQ,ur];exact nd),MP,Mn]
structure IV (z:P3) (ps:List (Nat×Nat)) (ns:List Nat) (rks:List P3) (gs:List Tn):Prop where
 sz:Sz z
 pl:ps.length=z.1
 pp:∀p∈ps,Pr p.1/\Pr p.2
 nl:ns.length+1=z.1
 np:∀n∈ns,Pr n
 gk:kG z rks gs
 gt:∀g∈gs,iu g
section
variable {z:P3} {ps:List (Nat×Nat)} {ns:List Nat} {A B:List (g_ V)} {gs:List Tn} {rks:List P3} {tls:Sv}
theorem A8 (m:t8 z A B rks tls):GL (jb ps ns A B gs)=A.flatMap bu/\Hq (jb ps ns A B gs)=tls:=by
 constructor
 ·unfold GL IR
  rw[Jb λt c=>(m.a t c).1,qD _ _ (by rw[MV,NP,<-m.er];exact dq m.r1)];rfl
 ·unfold Hq IR
  rw[JG λt c=>let ⟨n,e,_⟩:=(m.b t c).1;⟨n,e⟩,qD _ _ (by rw[MV,NP,<-m7,<-m.et];exact dq m.t1),m.et];rfl
noncomputable def Gm (z:P3) (ps:List (Nat×Nat)) (ns:List Nat) (a:List P3) (b:Sv):Fd:=⟨z,ps,ns,a,b.map λp=>(p.1,e_ p.2)⟩
theorem AD (m:t8 z A B rks tls):t9 z (jb ps ns A B gs)=Gm z ps ns rks tls:=by
 unfold t9 Gm
 rw[(A8 m).1,(A8 m).2,AW,CY,m7,m.er]
theorem wq (p:IV z ps ns rks gs)(m:t8 z A B rks tls){r:Rw}(h:r∈jb ps ns A B gs):gR r/\kd r≠0:=by
 rcases uj h with ⟨q,c,rfl⟩|⟨q,c,rfl⟩|⟨t,d,rfl⟩|⟨t,d,rfl⟩|⟨g,hg,rfl⟩
 ·have:=p.pp q c
  unfold Pr at this
  exact⟨⟨by lia,by lia⟩,by show(1:Nat)≠0;decide⟩
 ·have:=p.np q c
  unfold Pr at this
  exact⟨by show q<10^14;lia,by show(2:Nat)≠0;decide⟩
 ·have a:=m.a t d
  exact⟨vy (Cp p.sz a.2.1 a.2.2),by show(3:Nat)≠0;decide⟩
 ·obtain⟨⟨n,e,_,f⟩,b⟩:=m.b t d
  exact⟨ve ⟨Cp p.sz b.1 b.2,n,e,f⟩,by show(4:Nat)≠0;decide⟩
 ·refine⟨pM (p.gt g hg),?_⟩
  unfold pC
  split
  ·show(5:Nat)≠0;decide
  ·show(6:Nat)≠0;decide
theorem Jo (p:IV z ps ns rks gs)(m:t8 z A B rks tls):BI z (jb ps ns A B gs) where
 sz:=p.sz
 ok:=λr hr=>wq p m hr
 bx:=λr hr c d=>by
  have j:∀{f l c:P3},In z f->In z l->c∈[hd (cr f l),ls (cr f l)]->In z c:=λh1 h2 h=>by
   rw[zZ,C2] at h
   simp only[LS,Md,or_false] at h
   rcases h with rfl|rfl
   ·exact h1
   ·exact h2
  rcases uj hr with ⟨q,o,rfl⟩|⟨q,o,rfl⟩|⟨t,e,rfl⟩|⟨t,e,rfl⟩|⟨g,hg,rfl⟩
  ·cases d
  ·cases d
  ·exact j (m.a t e).2.1 (m.a t e).2.2 d
  ·exact j (m.b t e).2.1 (m.b t e).2.2 d
  ·unfold pC at d
   split at d<;>cases d
 rl:=by
  rw[(A8 m).1]
  have:=congrArg List.length (m7 A)
  rw[LK,<-m.er] at this
  have:=m.l.1.1
  lia
 ly:=by rw[AW];exact p.pl
 lp:=by rw[AW];exact p.pp
 va:=by rw[CY];exact p.nl
 vp:=by rw[CY];exact p.np
 tl:=λn cs h=>(wq p m h).1.1
theorem Js (r:Rw)(h:r∈jb ps ns A B gs):∀x k cs ds,r=.bun x k cs ds->ds≠[]:=λx k cs ds e=>by
 rcases uj h with ⟨q,a,rfl⟩|⟨q,a,rfl⟩|⟨t,b,rfl⟩|⟨t,b,rfl⟩|⟨g,hg,rfl⟩
 ·cases e
 ·cases e
 ·cases e
 ·cases e
 ·unfold pC at e
  split at e
  ·cases e
  ·next n=>cases e;exact n
end
theorem Ja {ws:List (List Nat)}(h:∀w∈ws,w≠[]/\32∉w)(b:ws≠[]):wf (jl 32 ws)=ws:=by
 unfold wf
 rw[vo b λw a=>(h w a).2]
 refine OH.mpr λw a=>?_
 have:=(h w a).1
 cases w with
 |nil=>exact absurd rfl this
 |cons _ _=>rfl
theorem JP(h:∀r∈W,gR r)(l:W≠[])(m:W.length<=300):FV (ss (DN W)) W:=by
 have b:∀r∈W,IM ((uT r).map ss) (ss (rt r)):=λr hr=>by
  have a:=qF (h r hr)
  have g:∀c∈rt r,c≠10/\c<128/\c≠59:=λc f=>by
   rcases vx f with e|⟨w,d,hd⟩
   ·lia
   ·have:=(a.1 w d).2 c hd;lia
  refine⟨rt r,[],by rw[bY,Mb],?_,λz=>(g 59 z).2.2 rfl,.inl rfl,λc f=>by rw[bY] at f;exact⟨(g c f).1,(g c f).2.1⟩,by rw[bY];exact qz (h r hr)⟩
  unfold rt
  rw[Ja (λw d=>⟨(a.1 w d).1.1,λz=>by have:=(a.1 w d).2 32 z;lia⟩) (by unfold uT;simp),LV]
  exact((My λw _=>bY w).trans (NU _)).symm
 refine⟨W.map λr=>((uT r).map ss,ss (rt r)),by simpa using l,by rw[LK];exact m,?_,λp j=>?_,?_,?_⟩
 ·rw[bY,LV]
  unfold DN
  exact congrArg (jl 10) (My λr _=>(bY _).symm)
 ·obtain⟨r,hr,rfl⟩:=LN.mp j
  exact b r hr
 ·rw[bY]
  refine LR (IF (k:=400) λw d=>?_) (by rw[LK];lia)
  obtain⟨r,hr,rfl⟩:=LN.mp d
  exact qz (h r hr)
 ·rw[LV]
  exact OH.mpr λn d=>by
   obtain⟨r,_,rfl⟩:=LN.mp d
   rfl
theorem mq {a:Type}{l:List a}(h:l.Nodup):l.reverse.Nodup:=(List.reverse_perm l).nodup_iff.mpr h
theorem qP {ts:List (P3×Nat)}(b:(ts.map (·.1)).Nodup){p:P3}{n:Nat}(h:(p,n)∈ts):zE ts (t3 p)=(n:Nat):=by
 have a:((j7 ts).map (·.1)).Nodup:=by
  unfold j7
  rw[LV]
  exact Mr.mpr ((Mr.mp b).imp λx e=>x (gh (kg e)))
 have:bX (j7 ts) (iK (t3 p))=some (.int (n:Nat)):=jF a (p:=(iK (t3 p),.int (n:Nat))) (LN.mpr ⟨(p,n),h,rfl⟩)
 unfold zE
 rw[this]
theorem BL {ts:List (P3×Nat)}(f:(ts.map (·.1)).Nodup){a:Sv}{pre:List P3}(g:∀p∈pre,(p,0)∈ts)(e:∀q∈a,(q.1,e_ q.2)∈ts/\e_ q.2≠0):Kw ts (pre++a.map (·.1))=a.map λp=>(t3 p.1,((e_ p.2:Nat):Int)):=by
 unfold Kw
 rw[LQ,NV,List.filter_eq_nil_iff.mpr,NP,OH.mpr,LV,LV]
 ·refine My λq b=>?_
  show(t3 q.1,zE ts (t3 q.1))=_
  rw[qP f (e q b).1]
 ·intro c d
  rw[LV] at d
  obtain⟨q,b,rfl⟩:=LN.mp d
  have h2:=(e q b).2
  show decide (zE ts (t3 q.1)≠0)=true
  rw[qP f (e q b).1]
  exact decide_eq_true (by lia)
 ·intro c d
  obtain⟨q,b,rfl⟩:=LN.mp d
  rw[qP f (g q b)]
  simp
theorem Fk(h:∀p∈tls,∃n:Nat,p.2=.int (n:Nat)):eG tls=j7 (tls.map λp=>(p.1,e_ p.2)):=by
 unfold eG j7
 rw[LV]
 refine My λp a=>?_
 obtain⟨n,e⟩:=h p a
 show(iK (t3 p.1),p.2)=(iK (t3 p.1),V.int (e_ p.2:Nat))
 rw[e];rfl
section
variable {z:P3} {ps:List (Nat×Nat)} {ns:List Nat} {A B:List (g_ V)} {gs:List Tn} {rks:List P3} {tls:Sv}
theorem t8.i (m:t8 z A B rks tls):∀p∈tls,∃n:Nat,p.2=.int (n:Nat):=λp a=>let ⟨n,e,_⟩:=(m.t2 p a).2;⟨n,e⟩
theorem t8.v (m:t8 z A B rks tls){p:P3×V}(a:p∈tls):1<=e_ p.2/\e_ p.2<=1000000000000:=by
 obtain⟨n,e,h⟩:=(m.t2 p a).2
 rw[e];exact h
theorem js (a:Sv):(a.map λp=>(p.1,e_ p.2)).map (·.1)=a.map (·.1):=by rw[LV];rfl
theorem KU (m:t8 z A B rks tls):sr (Gm z ps ns rks tls) rks tls where
 r1:=m.r1
 r2:=.inl rfl
 r3:=m.r2
 rl:=by have:=m.l.1.1;lia
 t1:=m.t1
 t2:=by
  show nN (((tls.map λp=>(p.1,e_ p.2)).map (·.1)).map t3)
  rw[js];exact gv m.t1
 tq:=λss a=>by
  have a:om ss ((tls.map λp=>(p.1,e_ p.2)).map (·.1)):=a
  have d:((tls.map λp=>(p.1,e_ p.2)).map (·.1)).Nodup:=by rw[js];exact dq m.t1
  rw[js] at a
  rw[jk a (gw m.t1)]
  exact BL d (pre:=[]) (λ_ h=>nomatch h) λq b=>⟨LN.mpr ⟨q,b,rfl⟩,by have:=m.v b;lia⟩
 t4:=λp c=>let ⟨h1,n,e,_,h2⟩:=m.t2 p c;⟨h1,n,e,h2⟩
 tl:=⟨by have:=m.l.1.2;lia,by show(tls.map _).length<=1000;rw[LK];have:=m.l.1.2;lia⟩
theorem KD (m:t8 z A B rks tls)(p:IV z ps ns rks gs):nZ (Gm z ps ns rks tls) where
 z:=p.sz
 pl:=p.pl
 pp:=p.pp
 vl:=p.nl
 vv:=p.np
 ri:=m.r2
 rn:=dq m.r1
 ti:=λq b=>by
  obtain⟨x,a,rfl⟩:=LN.mp b
  exact⟨(m.t2 x a).1,(m.v a).2⟩
 tn:=by show((tls.map _).map _).Nodup;rw[js];exact dq m.t1
noncomputable def zU (a:Sv):List P3:=if (0,0,0)∈a.map (·.1) then [] else [(0,0,0)]
noncomputable def nU (a:Sv):List (P3×Nat):=(a.reverse.map λp=>(p.1,e_ p.2))++(zU a).map λp=>(p,0)
noncomputable def Ij (z:P3) (ps:List (Nat×Nat)) (ns:List Nat) (a:List P3) (b:Sv):Fd:=⟨z,ps,ns,a.reverse,nU b⟩
theorem La(h:p≠(0,0,0)):HT.lexLt (t3 (0,0,0)) (t3 p)=true:=by
 obtain⟨a,b,c⟩:=p
 show HT.lexLt [(0:Int),0,0] [(a:Int),(b:Int),(c:Int)]=true
 rw[HT.lexLt_cons]
 by_cases e1:a=0
 ·subst e1
  rw[if_pos (show(0:Int)=((0:Nat):Int) from rfl),HT.lexLt_cons]
  by_cases e2:b=0
  ·subst e2
   have d:c≠0:=λz=>h (by rw[z])
   rw[if_pos (show(0:Int)=((0:Nat):Int) from rfl),HT.lexLt_cons,if_neg (by lia)]
   exact decide_eq_true (by lia)
  ·rw[if_neg (by lia)]
   exact decide_eq_true (by lia)
 ·rw[if_neg (by lia)]
  exact decide_eq_true (by lia)
theorem j4 (m:t8 z A B rks tls):mU (zU tls++tls.map (·.1)):=by
 unfold zU
 split
 ·exact m.t1
 ·next h=>exact List.pairwise_cons.mpr ⟨λp a=>La λe=>h (e▸a),m.t1⟩
theorem jr (a:Sv):(nU a).map (·.1)=(zU a++a.map (·.1)).reverse:=by
 unfold nU
 rw[LQ,js,NL,List.reverse_append,LV]
 congr 1
 unfold zU
 split<;>rfl
theorem KA (m:t8 z A B rks tls)(hz:Sz z):sr (Ij z ps ns rks tls) rks tls where
 r1:=m.r1
 r2:=.inr rfl
 r3:=m.r2
 rl:=by have:=m.l.1.1;lia
 t1:=m.t1
 t2:=by
  show nN (((nU tls).map (·.1)).map t3)
  rw[jr];exact o7 (j4 m)
 tq:=λss a=>by
  have a:om ss ((nU tls).map (·.1)):=a
  have d:((nU tls).map (·.1)).Nodup:=by rw[jr];exact mq (dq (j4 m))
  rw[jr] at a
  rw[jk a ⟨(List.reverse_perm _).symm,(gw (j4 m)).2⟩]
  exact BL d (λp b=>MC _ (LN.mpr ⟨p,b,rfl⟩)) λq c=>⟨MM _ (LN.mpr ⟨q,MR.mpr c,rfl⟩),by have:=m.v c;lia⟩
 t4:=λp b=>let ⟨h1,n,e,_,h2⟩:=m.t2 p b;⟨h1,n,e,h2⟩
 tl:=⟨by have:=m.l.1.2;lia,by
  show((tls.reverse.map _)++(zU tls).map _).length<=1000
  rw[LP,LK,LK,NR]
  have:(zU tls).length<=1:=by unfold zU;split<;>simp
  have:=m.l.1.2
  lia⟩
theorem K1 (m:t8 z A B rks tls)(p:IV z ps ns rks gs):nZ (Ij z ps ns rks tls) where
 z:=p.sz
 pl:=p.pl
 pp:=p.pp
 vl:=p.nl
 vv:=p.np
 ri:=λq hq=>m.r2 q (MR.mp hq)
 rn:=mq (dq m.r1)
 ti:=λq hq=>by
  rcases L_.mp hq with hq|hq
  ·obtain⟨x,a,rfl⟩:=LN.mp hq
   have a:=MR.mp a
   exact⟨(m.t2 x a).1,(m.v a).2⟩
  ·obtain⟨x,a,rfl⟩:=LN.mp hq
   unfold zU at a
   split at a
   ·cases a
   ·rw[LY.mp a]
    have s:=p.sz
    unfold Sz at s
    exact⟨⟨by show 0<z.1;lia,by show 0<z.2.1;lia,by show 0<z.2.2;lia⟩,L0 _⟩
 tn:=by show((nU tls).map (·.1)).Nodup;rw[jr];exact mq (dq (j4 m))
theorem kG.rev (h:kG z rks gs):kG z rks.reverse gs:=⟨h.nm,h.few,h.ln,λg hg c a=>⟨(h.ok g hg c a).1,(h.ok g hg c a).2.1,λq d e b f=>(h.ok g hg c a).2.2 q d e b (MR.mp f)⟩,h.cr⟩
theorem C8 {kvs:Kv}{k:List cS}{v:V}(a:(kvs.map (·.1)).Nodup)(h:(k,v)∈kvs):c6 kvs k v=kvs:=by
 have e:bX kvs k=some v:=jF a (p:=(k,v)) h
 unfold c6
 rw[dB,e,if_pos (show(some v).isSome=true from rfl)]
 refine(My λp b=>?_).trans (NU _)
 by_cases z:p.1=k
 ·rw[if_pos z]
  have:=jF a b
  rw[z,e] at this
  exact Prod.ext rfl (Option.some.inj this)
 ·rw[if_neg z];rfl
theorem Hy (a:rks.Nodup):DQ (iH (rks.reverse++rks.take 1))=iH rks.reverse:=by
 have r:=uU (mq a)
 cases rks with
 |nil=>rfl
 |cons p l=>
  show DQ (iH ((p::l).reverse++[p]))=_
  unfold iH
  rw[LQ]
  show DQ (iH (p::l).reverse++[(iK (t3 p),.bl true)])=_
  unfold DQ;rw[jB,u4 _ r]
  exact C8 r (LN.mpr ⟨p,MR.mpr LX,rfl⟩)
end
abbrev rr (a:Addr):Option V:=some (.ref a)
theorem G0(n:Nat){D:fX}{c:St}{H:Hp}(J:St->Hp->Prop)(e:∃t,nV X (l.drop n) t/\∀c H,J c H->t D c H)(h1:∀d,nV X (l.drop n) d->(∀c H,J c H->d D c H)->∃t,nV X l t/\t D c H):∃t,nV X l t/\t D c H:=by
 obtain⟨d,a,b⟩:=e
 exact h1 d a b
abbrev wS (x0 x1:Option V) (sa pr vi:Addr) (x5:Option V) (ra td:Addr) (x8 x9 x10:Option V) (th:Addr) (pg:List Nat) (x13 x14 x15 x16 x17:Option V):St:=[x0,x1,rr sa,rr pr,rr vi,x5,rr ra,rr td,x8,x9,x10,rr th,some (sv pg),x13,x14,x15,x16,x17]
inductive Le:St->Hp->Prop
 |mk {H':Hp} (x0 x1 x5 x8 x9 x10:Option V) (sa pr vi ra td th:Addr) (z:P3) (ps:List (Nat×Nat)) (ns:List Nat) (A B:List (g_ V)) (rks:List P3) (tls:Sv) (us:List V) (gs:List Tn) (hs:A3 H' sa z) (hp:lH H' pr ps) (hv:H' vi=some (.lst (ni ns))) (hr:AL H' ra rks) (ht:H' td=some (.dT (eG tls))) (hth:H' th=some (.lst us)) (htw:Paired (zH H') us gs) (m:t8 z A B rks tls) (p:IV z ps ns rks gs):Le (wS x0 x1 sa pr vi x5 ra td x8 x9 x10 th (DN (.floor z::jb ps ns A B gs)) none none none none none) H'
theorem DU{d:Type}{b:List d}{R0:V->d->Prop}(R:Hp->V->d->Prop)(up:∀{H H' v z},R H v z->Sb D H H'->(∃xs,H D=some (.lst xs))->R H' v z)(m:H a=some (.lst us))(h0:Paired R0 us b)(p:H D=none)(j:b.length<=1000)
  (l:∀u g H',g∈b->R0 u g->ah H H'->∀Qv:VK,(∀v H2,ah H' H2->R H2 v g->Qv v H2)->te [some u] H' Qv) (q:∀vs H',ah H H'->H' D=some (.lst vs)->Paired (R H') vs b->Q H'):tW [none] (cJ 0) k_ te (nL K a) H D Q:=by
 obtain⟨zs,rfl,rfl,f⟩:∃zs:List (V×d),us=zs.map (·.1)/\b=zs.map (·.2)/\∀z∈zs,R0 z.1 z.2:=by
  clear j l q m
  induction h0 with
  |nil=>exact⟨[],rfl,rfl,λ_ h=>nomatch h⟩
  |cons r _ ih=>
   obtain⟨zs,rfl,rfl,h⟩:=ih
   exact⟨(_,_)::zs,rfl,rfl,λz f=>(LS.mp f).elim (λe=>e▸r) (h z)⟩
 rw[LK] at j
 exact jg (K:=K) (rest:=[]) zs (·.1) (λH v z=>R H v z.2) up m p j (λz c H' s _ Qv o=>l z.1 z.2 H' (LN.mpr ⟨z,c,rfl⟩) (f z c) s Qv o) λvs H' s e n=>q vs H' s e (ub n)
theorem Cv{Q:List V->Hp->Prop}(b:σ[n]?=some (some (.ref a)))(c:H a=some (.lst xs))(q:∀l H',ah H H'->H l=none->H' l=some (.lst xs)->tr σ H' λvs H2=>Q (.ref l::vs) H2):a8 (nM (λxs H Q=>∃p ys,xs=[.ref p]/\(aF K H p ys\/bW K H p ys)/\∀l,H l=none->Q (.ref l) (upd H l (.lst ys))) (a8 (cR n) dw)) tr σ H Q:=
 aG (iC (af (aa b) ao) ⟨a,_,rfl,.inl (aF.of c),λl nl=>q l _ ((ah.refl H).upd nl) nl ae⟩)
theorem Ec (bs:List Addr):fu (bs.map V.ref) none (some 1)=(bs.take 1).map V.ref:=by
 unfold fu
 rw[HT.sIx_none,show(some (1:Int))=some ((1:Nat):Int) from rfl,HT.sIx_nat,LK,List.drop_zero,Nat.sub_zero,M_]
 by_cases h:1<=bs.length
 ·rw[M9 h]
 ·rw[OF (by rw[LK];lia),OF (by rw[LK];lia)]
theorem G7(h:Paired (λv g=>∃q,v=.ref q/\lD cN cB H q g) vs gs):∃qs:List Addr,vs=qs.map V.ref/\oa cN cB H qs gs:=by
 induction h with
 |nil=>exact⟨[],rfl,.nil⟩
 |cons r _ ih=>
  obtain⟨q,rfl,t⟩:=r
  obtain⟨qs,rfl,h⟩:=ih
  exact⟨q::qs,rfl,.cons t h⟩
theorem Bm{ns:List Int}(f:σ[n]?=some (some (.ref a)))(j:k≠0)(g:aF K H a (ns.map V.int))(q:∀p (cs:List Int),H p=none->cs.length<=ns.length->Q (.ref p) (upd H p (.lst (cs.map V.int)))):JL K (cR n) (ij (tC (.int i))) (ij (tC (.int k))) σ H Q:=by
 refine aa f _ ⟨i,rfl,k,rfl,λe=>j (Option.some.inj e),a,_,rfl,g,λp ys l d b=>?_⟩
 obtain⟨cs,rfl⟩:∃cs:List Int,ys=cs.map V.int:=by
  clear b
  induction ys with
  |nil=>exact⟨[],rfl⟩
  |cons y r ih=>
   obtain⟨c,_,e⟩:=LN.mp (d y LX)
   obtain⟨cs,rfl⟩:=ih λx h=>d x (LZ _ h)
   exact⟨c::cs,by rw[L1,e]⟩
 rw[LK,LK] at b
 exact q p cs l b
theorem tS(h:aX H as cs):aX H as.reverse cs.reverse:=by
 induction h with
 |nil=>exact .nil
 |cons r _ ih=>rw[Ou,Ou];exact dX ih (.cons r .nil)
variable {cThing cNet cBundle cFloor cBoard cMS:Addr} (T:Txt K mg cThing cNet cBundle cFloor cBoard cMS)
include T
theorem DB:eO P w K mg base 1 "_law_name" BN ["head", "names", "place"] wX:=by
 refine rd ["head", "names", "place", "some", "step", "name"] λa _ _ _ _ _ H vs Q E hr h=>?_
 obtain⟨h,l,ns,place,rfl,G,B,O,q⟩:=h
 refine⟨_,(ai (bc 3 a aL) (ai (bM (bB oK (aj 2) ag) (bc 3 a (au bE (aj 3) aL))) (aN (dH (qT T.range_ (az ag)) (aT 4 a) (aN (bc 5 a (au bE (au bE (au D5 aL (aj 2)) (aR u7 (aj 3) (au cf (au aS (aj 0) (aj 4)) (br jX T.len_ (az (aj 3)))))) (aR aV (bg (aw aL (aC aL aL))) (au cf (au dz (aj 0) ag) ag)))) (bM (gI (AJ (K:=K) rfl) (aj 5) (aj 1) (by with_unfolding_all rfl)) (ay (aj 5))))) (ay aL)))),?_⟩
 refine c8 ar ?_
 refine kE (λσ H'=>σ=[some (.int h),some (.ref l),some (.int (place:Nat)),some (.str (zG place)),none,none]/\H'=H) (λR d=>?_) ?_
 ·refine gF (aB (rS (aa rfl) ar)) (λe=>?_) (λe=>?_)
  ·have e:¬place=0:=λz=>by rw[z] at e;exact absurd e (by decide)
   refine qJ (wN (aa rfl) ar (by decide+kernel)) (d _ _ ⟨?_,rfl⟩)
   unfold zG
   rw[if_neg e]
   rfl
  ·have e:place=0:=by have:=of_decide_eq_false e;lia
   refine d _ _ ⟨?_,rfl⟩
   unfold zG
   rw[if_pos e]
   rfl
 rintro σ H' ⟨rfl,rfl⟩
 refine qy (af ar ao) (by decide) (by decide) ?_
 refine dC (λi σ H2=>∃g n:Option V,σ=[some (.int h),some (.ref l),some (.int (place:Nat)),some (.str (zG place)),g,n]/\ah H' H2/\∀j<i,qw place h j∈ns) ⟨none,none,rfl,ah.refl _,λ_ h=>absurd h (by lia)⟩ ?_ ?_
 ·rintro i σ H2 hi ⟨g,n,rfl,s,all⟩
  refine gn ?_
  refine fY λR d=>?_
  refine⟨_,rfl,Str.ofString "t",(place:Nat),rfl,rfl,by lia,by lia,by decide,λr hr=>?_⟩
  have y:0<ua place/\ua place<=36:=by unfold ua;split<;>lia
  have I:=Na (h+(0+(i:Nat))) (show((ua place:Nat):Int)≠0 by lia)
  have S:=Nb (h+(0+(i:Nat))) (show(0:Int)<((ua place:Nat):Int) by lia)
  obtain⟨j,u⟩:=Int.eq_ofNat_of_zero_le I
  have b:=E_ place
  refine qx (c:=pF j) (aa rfl) (cz (aQ (aa rfl) (aa rfl)) (pP (aa rfl) ?_) ?_) ?_ ?_ _ ?_
  ·show(zG place).length<=sizeLine
   rw[b];exact LR y.2 (by decide)
  ·show(0:Int)<((zG place).length:Nat)
   rw[b];lia
  ·show(zG place).length<=sizeLine
   rw[b];exact LR y.2 (by decide)
  ·show jq (cp (zG place)) ((h+(0+(i:Nat)))%((zG place).length:Nat))=some (pF j)
   rw[b,u,Cc]
   exact bS (HX j (by lia))
  have rl:r.length=place:=by
   rw[<-cu,hr,show cp (Str.ofString "t")=[116] by decide+kernel,List.flatten_replicate_singleton,Nz];rfl
  refine⟨r,⟨#[pF j]⟩,rfl,rfl,?_,?_⟩
  ·rw[rl];show place+1<=sizeLine;exact LR (show place+1<=10 by lia) (by decide)
  refine dM (af ar (af ar (af ar ao))) (by show 3<=sizeLine;decide) λp C=>?_
  refine cz (cz (aa rfl) ar ⟨by decide,by decide⟩) ar (by decide) _ ?_
  refine⟨p,_,h/36%3,sv (pK h),rfl,rfl,aF.of ae,D3 h,?_⟩
  have f:=s.upd (o:=.lst [V.str (Str.ofString ""),V.str (Str.ofString "o"),V.str (Str.ofString "9z")]) C
  have D:r++(⟨#[pF j]⟩:Str)++ss (pK h)=ss (qw place h i):=hZ (by
   rw[fB,fB,bY,hr,show cp (Str.ofString "t")=[116] by decide+kernel,List.flatten_replicate_singleton]
   unfold qw
   rw[show h+((i:Nat):Int)=h+(0+(i:Nat)) by lia,u]
   show(List.replicate place 116++[pF j])++pK h=List.replicate place 116++pF j::pK h
   rw[Mn];rfl)
  refine⟨_,_,rfl,rfl,?_,?_⟩
  ·have M:(pK h).length<=2:=by rcases Dx h with e|e|e<;>rw[e]<;>decide
   have F:(r++(⟨#[pF j]⟩:Str)).length=place+1:=by rw[<-cu,fB,LP,cu,rl];rfl
   rw[F,<-cu,bY]
   exact LR (show place+1+(pK h).length<=13 by lia) (by decide)
  rw[D]
  refine d _ _ ?_
  refine gF (aB (ED (w:=ss (qw place h i)) (ws:=ns.map ss) (aa rfl) (aa rfl) (aF.of ?_))) (λe=>?_) (λe=>?_)
  ·rw[LV]
   exact f _ _ G
  ·refine cU (aa rfl) (q i _ (λm=>?_) f)
   rw[decide_eq_true (LN.mpr ⟨_,m,rfl⟩)] at e
   cases e
  ·refine⟨_,_,rfl,f,λk N=>?_⟩
   by_cases ek:k=i
   ·subst ek
    have m:ss (qw place h k)∈ns.map ss:=Classical.byContradiction λm=>by
     rw[decide_eq_false m] at e
     cases e
    obtain⟨x,J,ex⟩:=LN.mp m
    have:=congrArg cp ex
    rw[bY,bY] at this
    exact this▸J
   ·exact all k (by lia)
 ·rintro σ H2 ⟨g,n,rfl,s,all⟩
  obtain⟨i,hi,A⟩:=BO (place:=place) (h:=h) B
  exact absurd (all i hi) A
theorem BB:eO P w K mg base 1 "_law_near" CU ["spot", "half", "room", "lying"] vX:=by
 refine rd ["spot", "half", "room", "lying", "place", "reach", "gap"] λu _ _ _ _ _ H vs Q E hr h=>?_
 obtain⟨b,l,p,h,r,D,ys,rfl,s,I,G,q⟩:=h
 refine⟨_,(aN (dH (aD (aj 3)) (cV rfl (aq (aT 4 u) (aq (aT 5 u) (aq (aT 6 u) bq)))) (aE (bM (bB di (aR aI (aj 4) ag) (aR aI (aj 0) ag)) (bM (bB dv (br (eM rfl) T.max_ (aC (br jL T.abs_ (az (au dO (aR aI (aj 4) ag) (aR aI (aj 0) ag)))) (br jL T.abs_ (az (au dO (aR aI (aj 4) ag) (aR aI (aj 0) ag)))))) (au aS (au aS (aj 1) (aj 5)) (br (eM rfl) T.max_ (aC (aj 2) (aj 6))))) (ay c_))))) (ay c_)),?_⟩
 refine l_ ⟨_,rfl,⟨l,rfl,⟨_,aF.of I⟩,?_⟩⟩
 refine bN (K:=K) (xs:=D) (λi σ H'=>∃A B C:Option V,σ=[some (.ref b),some (.int (h:Nat)),some (.int (r:Nat)),some (.ref l),A,B,C]/\H'=H/\((ys.take i).any (gc p h r))=false) ⟨none,none,none,rfl,rfl,rfl⟩ (λi σ H' _ ⟨_,_,_,_,e,_⟩=>e▸aF.of I) ?_ ?_
 ·rintro i v σ H2 hi ⟨A,B,C,rfl,rfl,o⟩
  obtain⟨y,x,t,a,rfl,h1,h2⟩:=ba G hi
  refine⟨t,_,rfl,bW.of h1,rfl,_,_,rfl,_,_,rfl,_,_,rfl,rfl,?_⟩
  have f:∀{σ:St} {n:Nat} {c:Addr} {g:P3} (k:Int) (z:Nat),σ[n]?=some (some (.ref c))->A3 H2 c g->jq ((t3 g).map V.int) k=some (.int (z:Nat))->Ev (fv (nW K) (cR n) (tC (.int k))) σ H2 (.int (z:Nat)):=λk z J hg O=>fc (aa J) ar (bW.of hg) O
  refine gF (aB (fU (f 0 y.1.1 rfl h2 rfl) (f 0 p.1 rfl s rfl))) (λe=>?_) (λe=>?_)
  ·have e:=Int.ofNat.inj (of_decide_eq_true e)
   refine gF (aB (Jq (i:=(Nat.max (ko y.1.2.1 p.2.1) (ko y.1.2.2 p.2.2):Nat)) (j:=(h+y.2.1+Nat.max r y.2.2:Nat)) ?_ ?_)) (λd=>?_) (λd=>?_)
   ·have F:∀{ta tb:TE} {σ:St} (m n:Nat),Ev ta σ H2 (.int (m:Nat))->Ev tb σ H2 (.int (n:Nat))->Ev (nM (λxs H Q=>∃i,xs=[.int i]/\Q (.int (if i<0 then -i else i)) H) (a8 (fv (r8 λi j=> .int (i - j)) ta tb) dw)) σ H2 (.int (ko m n:Nat)):=λm n ha s=>de (af (aQ ha s) ao) λQ q=>⟨_,rfl,by
     rw[show(if (m:Int) - (n:Nat)<0 then -((m:Int) - (n:Nat)) else (m:Int) - (n:Nat))=((ko m n:Nat):Int) by unfold ko;split<;>lia]
     exact q⟩
    refine de (af (F _ _ (f 1 y.1.2.1 rfl h2 rfl) (f 1 p.2.1 rfl s rfl)) (af (F _ _ (f 2 y.1.2.2 rfl h2 rfl) (f 2 p.2.2 rfl s rfl)) ao)) λQ q=>⟨_,_,rfl,?_⟩
    rw[show(if ((ko y.1.2.2 p.2.2:Nat):Int)>(ko y.1.2.1 p.2.1:Nat) then ((ko y.1.2.2 p.2.2:Nat):Int) else (ko y.1.2.1 p.2.1:Nat))=((Nat.max (ko y.1.2.1 p.2.1) (ko y.1.2.2 p.2.2):Nat):Int) by
     show _=((max (ko y.1.2.1 p.2.1) (ko y.1.2.2 p.2.2):Nat):Int)
     split<;>lia]
    exact q
   ·refine aY (aQ (i:=(h:Int)+(y.2.1:Nat)) (j:=((Nat.max r y.2.2:Nat):Int)) (g:=λi j=>V.int (i+j)) (aQ (g:=λi j=>V.int (i+j)) (aa rfl) (aa rfl)) (de (af (aa rfl) (af (aa rfl) ao)) λQ q=>⟨_,_,rfl,?_⟩)) (by simp only[MK])
    rw[show(if ((y.2.2:Nat):Int)>(r:Nat) then ((y.2.2:Nat):Int) else (r:Nat))=((Nat.max r y.2.2:Nat):Int) by
     show _=((max r y.2.2:Nat):Int)
     split<;>lia]
    exact q
   ·refine cU ar ?_
    have:ys.any (gc p h r)=true:=List.any_eq_true.mpr ⟨y,L9 x,by
     have d:=of_decide_eq_true d
     unfold gc
     rw[decide_eq_true e,decide_eq_true]
     ·rfl
     ·have:=Nat.le_max_left (ko y.1.2.1 p.2.1) (ko y.1.2.2 p.2.2)
      have:=Nat.le_max_right (ko y.1.2.1 p.2.1) (ko y.1.2.2 p.2.2)
      have d:max (ko y.1.2.1 p.2.1) (ko y.1.2.2 p.2.2)<=h+y.2.1+Nat.max r y.2.2:=Int.ofNat_le.mp d
      lia⟩
    rw[this] at q
    exact q
   ·refine⟨_,_,_,rfl,rfl,rj o x ?_⟩
    have d:=of_decide_eq_false d
    unfold gc
    rw[decide_eq_false (p:=_/\_),Bool.and_false]
    rintro⟨M,N⟩
    exact d (Int.ofNat_le.mpr (Nat.max_le.mpr ⟨M,N⟩))
  ·refine⟨_,_,_,rfl,rfl,rj o x ?_⟩
   unfold gc
   rw[decide_eq_false (λz=>absurd e (by rw[z];simp)),Bool.false_and]
 ·rintro σ H2 ⟨A,B,C,rfl,rfl,o⟩
  rw[show D.length=ys.length from Paired.length G,Mc] at o
  show Q (.bl false) H2
  rw[<-o]
  exact q
theorem Dy:eO P w K mg base 1 "_law_fits" Bc ["sizes", "rocks", "spot", "half"] yb:=by
 refine rd ["sizes", "rocks", "spot", "half", "row", "column"] λU _ _ _ _ _ H vs Q E hr h=>?_
 obtain⟨a,d,b,z,p,h,l,rfl,ha,hd,J,h2,hz,hp,q⟩:=h
 refine⟨_,(aN (dH (iO (by rfl) T.range_ (aC (au dO (aR aI (aj 2) ag) (aj 3)) (au aS (au aS (aR aI (aj 2) ag) (aj 3)) ag))) (aT 4 U) (aE (dH (iO (by rfl) T.range_ (aC (au dO (aR aI (aj 2) ag) (aj 3)) (au aS (au aS (aR aI (aj 2) ag) (aj 3)) ag))) (aT 5 U) (aE (bM (eL (bB jV (aj 4) ag) (eL (bB xx (aj 4) (aR aI (aj 0) ag)) (eL (bB jV (aj 5) ag) (eL (bB xx (aj 5) (aR aI (aj 0) ag)) (dN (CI (uV (bL.one hr) (bZ (aw (aR aI (aj 2) ag) (aC (aj 4) (aj 5)))) (aj 1)))))))).pt (ay c_)))))) (ay c_)),?_⟩
 unfold Sz In at*
 have A:∀{σ:St} {H':Hp} {n:Nat} {c:Addr} {g:P3} (k:Int) (z:Nat),σ[n]?=some (some (.ref c))->A3 H' c g->jq ((t3 g).map V.int) k=some (.int (z:Nat))->Ev (fv (nW K) (cR n) (tC (.int k))) σ H' (.int (z:Nat)):=λk z Y hg he=>fc (aa Y) ar (bW.of hg) he
 refine Er (i:=(p.2.1:Int) - (h:Nat)) (j:=(p.2.1:Int)+(h:Nat)+1) (af (aQ (A 1 p.2.1 rfl J rfl) (aa rfl)) (af (aQ (aQ (g:=λi j=>V.int (i+j)) (A 1 p.2.1 rfl J rfl) (aa rfl)) ar) ao)) ⟨by lia,by lia,by lia,by lia⟩ ?_
 rw[show((p.2.1:Int)+(h:Nat)+1 - ((p.2.1:Int) - (h:Nat))).toNat=2*h+1 by lia]
 refine dC (λi σ H'=>∃M D:Option V,σ=[some (.ref a),some (.ref d),some (.ref b),some (.int (h:Nat)),M,D]/\ah H H'/\∀F<i,∀j,j<2*h+1->Cl z l (p.1:Nat) ((p.2.1:Int) - (h:Nat)+(F:Nat)) ((p.2.2:Int) - (h:Nat)+(j:Nat))) ⟨none,none,rfl,ah.refl H,λ_ h=>absurd h (by lia)⟩ ?_ ?_
 ·rintro i σ H2 hi ⟨M,D,rfl,G,ok⟩
  refine gn ?_
  have r:=G _ _ J
  refine E1 (i:=(p.2.2:Int) - (h:Nat)) (j:=(p.2.2:Int)+(h:Nat)+1) (af (aQ (A 2 p.2.2 rfl r rfl) (aa rfl)) (af (aQ (aQ (g:=λi j=>V.int (i+j)) (A 2 p.2.2 rfl r rfl) (aa rfl)) ar) ao)) ⟨by lia,by lia,by lia,by lia⟩ ?_
  rw[show((p.2.2:Int)+(h:Nat)+1 - ((p.2.2:Int) - (h:Nat))).toNat=2*h+1 by lia]
  refine dC (λj σ H'=>∃D:Option V,σ=[some (.ref a),some (.ref d),some (.ref b),some (.int (h:Nat)),some (.int ((p.2.1:Int) - (h:Nat)+(i:Nat))),D]/\ah H H'/\∀I<j,Cl z l (p.1:Nat) ((p.2.1:Int) - (h:Nat)+(i:Nat)) ((p.2.2:Int) - (h:Nat)+(I:Nat))) ⟨_,rfl,G,λ_ h=>absurd h (by lia)⟩ ?_ ?_
  ·rintro j σ H3 B ⟨x,rfl,y,m⟩
   refine gn ?_
   have o:=y _ _ ha
   have C:∀H',ah H H'->¬Cl z l (p.1:Nat) ((p.2.1:Int) - (h:Nat)+(i:Nat)) ((p.2.2:Int) - (h:Nat)+(j:Nat))->Q (.bl false) H':=λH' s n=>q H' false s ⟨λz=>absurd z (by simp),λf=>absurd (f i j hi B) n⟩
   refine jH (qC (aB (rF (aa rfl) ar)) (λe=>i_ (cU ar (C _ y λc=>?_))) λO=>qC (aB (wR (aa rfl) (A 1 z.2.1 rfl o rfl))) (λe=>i_ (cU ar (C _ y λc=>?_))) λW=>qC (aB (rF (aa rfl) ar)) (λe=>i_ (cU ar (C _ y λc=>?_))) λR=>qC (aB (wR (aa rfl) (A 2 z.2.2 rfl o rfl))) (λe=>i_ (cU ar (C _ y λc=>?_))) λS=>?_)
   ·have:=of_decide_eq_true e;have:=c.1;lia
   ·have:=of_decide_eq_true e;have:=c.1;lia
   ·have:=of_decide_eq_true e;have:=c.1;lia
   ·have:=of_decide_eq_true e;have:=c.1;lia
   have O:=of_decide_eq_false O
   have W:=of_decide_eq_false W
   have R:=of_decide_eq_false R
   have S:=of_decide_eq_false S
   refine Fs (K:=K) (eP (vs:=([(p.1:Int),(p.2.1:Int) - (h:Nat)+(i:Nat),(p.2.2:Int) - (h:Nat)+(j:Nat)]:T3).map V.int) (af (A 0 p.1 rfl (y _ _ J) rfl) (af (aa rfl) (af (aa rfl) ao))) (by show 3<=sizeLine;decide) λt X=>?_)
   have N:ah H (upd H3 t (.tup (([(p.1:Int),(p.2.1:Int) - (h:Nat)+(i:Nat),(p.2.2:Int) - (h:Nat)+(j:Nat)]:T3).map V.int))):=y.upd X
   refine⟨_,rfl,d,bX l (iK [(p.1:Int),(p.2.1:Int) - (h:Nat)+(i:Nat),(p.2.2:Int) - (h:Nat)+(j:Nat)]),rfl,.inr ⟨l,_,t,.inl (N _ _ hd),rfl,j5 ae,rfl⟩,_,rfl,?_⟩
   cases ev:bX l (iK [(p.1:Int),(p.2.1:Int) - (h:Nat)+(i:Nat),(p.2.2:Int) - (h:Nat)+(j:Nat)]) with
   |some u=>exact i_ (cU ar (C _ N λc=>nomatch ev.symm.trans c.2))
   |none=>
    refine eF ⟨_,rfl,N,λI Z=>?_⟩
    by_cases ej:I=j
    ·subst ej
     exact⟨⟨by lia,by lia,by lia,by lia⟩,ev⟩
    ·exact m I (by lia)
  ·rintro σ H3 ⟨x,rfl,y,m⟩
   refine⟨_,_,rfl,y,λF ab j B=>?_⟩
   by_cases ei:F=i
   ·subst ei
    exact m j B
   ·exact ok F (by lia) j B
 ·rintro σ H2 ⟨M,D,rfl,G,ok⟩
  exact q H2 true G ⟨λ_ i j hi B=>ok i hi j B,λ_=>rfl⟩
theorem yf:eO P w K mg base 1 "_law_spot_at" yc ["sizes", "number"] m6:=by
 refine rd ["sizes", "number"] λj _ _ _ _ _ H vs Q E hr h=>?_
 obtain⟨a,z,n,rfl,ha,⟨l,c,d⟩,q⟩:=h
 refine⟨_,(aE (ay (bZ (aw (au dz (aj 1) (au gW (aR aI (aj 0) ag) (aR aI (aj 0) ag))) (aC (au cf (au dz (aj 1) (aR aI (aj 0) ag)) (aR aI (aj 0) ag)) (au cf (aj 1) (aR aI (aj 0) ag))))))),?_⟩
 have f:0<z.2.2:=by lia
 have g:0<z.2.1:=by lia
 refine zN (vs:=[.int ((n/(z.2.1*z.2.2):Nat):Int),.int ((n/z.2.2%z.2.1:Nat):Int),.int ((n%z.2.2:Nat):Int)]) (af (aY (cz (aa rfl) (cz (fP rfl ha rfl) (fP rfl ha rfl) (DV (by lia) (by lia))) (Lm ?_ ?_)) (by push_cast;rfl)) (af (aY (cz (cz (aa rfl) (fP rfl ha rfl) (Lm (by lia) (by lia))) (fP rfl ha rfl) (by show(0:Int)<_;lia)) (by push_cast;rfl)) (af (aY (cz (aa rfl) (fP rfl ha rfl) (by show(0:Int)<_;lia)) (by push_cast;rfl)) ao))) (by show 3<=sizeLine;decide) λt b=>?_
 ·exact_mod_cast Nat.mul_pos g f
 ·have:z.2.1*z.2.2<=16*16:=Nat.mul_le_mul c.2 d.2
  have:((z.2.1*z.2.2:Nat):Int)<=256:=by lia
  have e:((z.2.1:Nat):Int)*((z.2.2:Nat):Int)=((z.2.1*z.2.2:Nat):Int):=by push_cast;rfl
  rw[e];lia
 ·exact q t _ ((ah.refl H).upd b) b ae
theorem Ab (U:aA P w K mg base "_law_spot_at" 1 ["sizes", "number"] m6)(Y:aA P w K mg base "_law_fits" 1 ["sizes", "rocks", "spot", "half"] yb)(Z:aA P w K mg base "_law_near" 1 ["spot", "half", "room", "lying"] vX):eO P w K mg base 2 "_law_ends" BZ ["cells", "sizes", "rocks", "half", "room", "lying"] ya:=by
 refine rd ["cells", "sizes", "rocks", "half", "room", "lying", "ends", "cell", "step", "spot"] λnd _ _ _ _ _ H vs Q E hr h=>?_
 obtain⟨c,a,d,l,cs,z,J,h,r,us,ys,rfl,hc,ha,hd,hl,hy,h2,hz,S,q⟩:=h
 refine⟨_,(ai (bc 6 nd (bg dj)) (aN (dH (aD (aj 0)) (aT 7 nd) (aE (dH (qT T.range_ (az ag)) (aT 8 nd) (aN (bc 9 nd (aH U hr (aC (aj 1) (au cf (au aS (aj 7) (au gW ag (aj 8))) (au gW (au gW (aR aI (aj 1) ag) (aR aI (aj 1) ag)) (aR aI (aj 1) ag)))))) (jc (ie (gI (uM (K:=K) rfl (by exact hr)) (aj 9) (aj 6) (by with_unfolding_all rfl)) (ie (cx (aH Y hr (aw (aj 1) (aw (aj 2) (aC (aj 9) (aj 3)))))) (iP (cg (cx (aH Z hr (aw (aj 9) (aw (aj 3) (aC (aj 4) (aj 5)))))))))).pt (aN (aO (dh Mm Nk Nl dD (aj 6) (az (aj 9)))) sO) fH))))) (ay (aj 6)))),?_⟩
 refine gj (vs:=[]) ao (by show 0<=sizeLine;decide) λg ng=>?_
 have s1:ah H (upd H g (.lst [])):=(ah.refl H).upd ng
 have hg:upd H g (.lst []) g=some (.lst (([]:List Addr).map V.ref)):=ae
 revert s1 hg
 generalize upd H g (.lst [])=H1
 intro s1 hg
 have N:=hz
 obtain⟨⟨z0,z1⟩,⟨z2,z3⟩,z4,z5⟩:=N
 refine l_ ⟨_,rfl,⟨c,rfl,⟨_,aF.of (s1 _ _ hc)⟩,?_⟩⟩
 refine bN (K:=K) (xs:=cs.map V.int) (λi σ H'=>∃(x7 x8 x9:Option V) (as:List Addr) (ps:List P3),σ=[some (.ref c),some (.ref a),some (.ref d),some (.int (h:Nat)),some (.int (r:Nat)),some (.ref l),some (.ref g),x7,x8,x9]/\ah H H'/\H' g=some (.lst (as.map V.ref))/\aX H' as (ps.map t3)/\B2 z J h r ys ps/\ps.length<=i)
  ⟨none,none,none,[],[],rfl,s1,hg,.nil,⟨NN,λ_ h=>nomatch h⟩,LL _⟩ (λi σ H' _ ⟨_,_,_,_,_,_,s,_⟩=>aF.of (s _ _ hc)) ?_ ?_
 ·rintro i v σ H2 hi ⟨x7,x8,x9,as,ps,rfl,s2,C,F,ok,hn⟩
  have il:i<cs.length:=by have:=(Mo.mp hi).1;rwa [LK] at this
  obtain⟨k,_,rfl⟩:∃k,cs[i]?=some k/\V.int k=v:=by rw[L7] at hi;exact MY.mp hi
  refine gn ?_
  refine lX (af ar ao) (by decide) (by decide) ?_
  refine dC (λj σ H'=>∃(x8 x9:Option V) (as:List Addr),σ=[some (.ref c),some (.ref a),some (.ref d),some (.int (h:Nat)),some (.int (r:Nat)),some (.ref l),some (.ref g),some (.int k),x8,x9]/\ah H H'/\H' g=some (.lst (as.map V.ref))/\aX H' as (ps.map t3)) ⟨_,_,as,rfl,s2,C,F⟩ ?_ ?_
  ·rintro j σ H3 hj ⟨M,R,f,rfl,s3,D,A⟩
   refine gn ?_
   have G:=s3 _ _ ha
   have ip:∀{σ:St} (n:Int) (y:Nat),σ[1]?=some (some (.ref a))->jq ((t3 z).map V.int) n=some (.int (y:Nat))->Ev (fv (nW K) (cR 1) (tC (.int n))) σ H3 (.int (y:Nat)):=λn y hv he=>fc (aa hv) ar (bW.of G) he
   have tp:0<z.1*z.2.1*z.2.2:=Nat.mul_pos (Nat.mul_pos (by lia) (by lia)) (by lia)
   have te:((z.1:Int)*(z.2.1:Nat)*(z.2.2:Nat))=((z.1*z.2.1*z.2.2:Nat):Int):=by push_cast;rfl
   have m0:=Na (k+37*(0+(j:Nat))) (show((z.1*z.2.1*z.2.2:Nat):Int)≠0 by lia)
   have m1:=Nb (k+37*(0+(j:Nat))) (show(0:Int)<((z.1*z.2.1*z.2.2:Nat):Int) by lia)
   obtain⟨n,en⟩:=Int.eq_ofNat_of_zero_le m0
   rw[en] at m1
   have I:=Bl hz (show n<z.1*z.2.1*z.2.2 by lia)
   refine bJ (aP (vs:=[.ref a,.int (n:Nat)]) (af (aa rfl) (af (aY (cz (aQ (g:=λi j=>V.int (i+j)) (aa rfl) (cz ar (aa rfl) (DV ?_ ?_))) (cz (cz (ip 0 z.1 rfl rfl) (ip 1 z.2.1 rfl rfl) (DV (by lia) (by lia))) (ip 2 z.2.2 rfl rfl) (DV (by lia) (by lia))) ?_) ?_) ao)) ⟨a,z,n,rfl,G,hz,λt H4 s4 nt X=>?_⟩)
   ·have hj:j<5:=hj
    lia
   ·have hj:j<5:=hj
    lia
   ·show(0:Int)<(z.1:Int)*(z.2.1:Nat)*(z.2.2:Nat)
    rw[te];lia
   ·show V.int ((k+37*(0+(j:Nat)))%((z.1:Int)*(z.2.1:Nat)*(z.2.2:Nat)))=_
    rw[te,en]
   have o:=s3.trans s4
   have x:=s4 _ _ D
   have u:=aX.same A s4
   have on:∀H',ah H4 H'->∃(x8 x9:Option V) (as:List Addr),[some (V.ref c),some (.ref a),some (.ref d),some (.int (h:Nat)),some (.int (r:Nat)),some (.ref l),some (.ref g),some (.int k),some (.int (0+(j:Nat))),some (.ref t)]=[some (.ref c),some (.ref a),some (.ref d),some (.int (h:Nat)),some (.int (r:Nat)),some (.ref l),some (.ref g),some (.int k),x8,x9]/\ah H H'/\H' g=some (.lst (as.map V.ref))/\aX H' as (ps.map t3):=λH' s=>⟨_,_,f,rfl,o.trans s,s _ _ x,aX.same u s⟩
   refine jH (xI (aB (yv (c:=t3 (eV z n)) (aa rfl) (aa rfl) X (aF.of x) u)) (λ_=>eF (on _ (ah.refl _))) λe1=>?_)
   refine FC (vs:=[.ref a,.ref d,.ref t,.int (h:Nat)]) (af (aa rfl) (af (aa rfl) (af (aa rfl) (af (aa rfl) ao)))) ⟨a,d,t,z,eV z n,h,J,rfl,o _ _ ha,o _ _ hd,X,h2,hz,I,λH5 b W hf=>⟨b,rfl,?_⟩⟩
   cases b with
   |false=>exact eF (eF (on _ W))
   |true=>
    refine i_ (E3 (vs:=[.ref t,.int (h:Nat),.int (r:Nat),.ref l]) (af (aa rfl) (af (aa rfl) (af (aa rfl) (af (aa rfl) ao)))) ⟨t,l,eV z n,h,r,us,ys,rfl,W _ _ X,W _ _ (o _ _ hl),Paired.mapP hy λ_ _ z=>z.same (o.trans W),⟨_,rfl,?_⟩⟩)
    cases en:ys.any (gc (eV z n) h r) with
    |true=>exact eF (on _ W)
    |false=>
     refine i_ ?_
     have B:=W _ _ x
     have O:=aX.same u W
     have la:f.length=ps.length:=by rw[Paired.length u,LK]
     refine fZ (eo (aa rfl) (.inl ⟨rfl,_,aF.of B⟩) (a_ (aa rfl) ⟨g,_,_,rfl,rfl,B,by rw[LK];exact Me (show f.length<1001 by lia) (by decide),?_⟩))
     have up:∀b xs,H5 b=some (.tup xs)->upd H5 g (.lst (f.map V.ref++[.ref t])) b=some (.tup xs):=λb xs e=>by rw[ak (cQ e B (λz=>nomatch z))];exact e
     have e1:eV z n∉ps:=λm=>by
      rw[decide_eq_true (He.mpr m)] at e1
      cases e1
     refine⟨_,_,_,f++[t],ps++[eV z n],rfl,bK (o.trans W) ng,by rw[ae,LQ];rfl,?_,⟨?_,λp hp=>?_⟩,by rw[LP];show ps.length+1<=i+1;lia⟩
     ·rw[LQ]
      exact dX (cA O up) (.cons (up _ _ (W _ _ X)) .nil)
     ·refine MQ.mpr ⟨ok.nd,MG.mpr ⟨Md,NN⟩,λa ha b hb e=>e1 ?_⟩
      rw[LY.mp hb] at e
      exact e▸ha
     ·rcases L_.mp hp with hp|hp
      ·exact ok.ok p hp
      ·rw[LY.mp hp]
       exact⟨I,hf.mp rfl,en⟩
  ·rintro σ H3 ⟨M,R,f,rfl,s3,D,A⟩
   exact⟨_,_,_,f,ps,rfl,s3,D,A,ok,by lia⟩
 ·rintro σ H2 ⟨x7,x8,x9,as,ps,rfl,s2,C,F,ok,hn⟩
  rw[LK] at hn
  exact⟨_,rfl,q g ps H2 s2 ng ⟨as,C,F⟩ ok hn⟩
theorem zt:eO P w K mg base 1 "goes_on" wy ["run", "spot", "mark"] sy:=by
 refine rd ["run", "spot", "mark", "first", "last", "alike"] λc _ _ _ _ _ H vs Q E hr h=>?_
 obtain⟨j,b,s,n,f,l,p,m,v,x,rfl,h1,h2,g,o,r,q⟩:=h
 refine⟨_,(aN (eY (aj 0) (cV rfl (aq (aT 3 c) (aq (aT 4 c) (aq (aT 5 c) bq))))) (ay (gJ (q_ di (aj 2) (aj 5)) (h9 (q_ (vI hr) (aj 1) (bZ (aw (aR aI (aj 4) ag) (aC (aR aI (aj 4) ag) (au aS (aR aI (aj 4) ag) ag))))))))),?_⟩
 refine⟨_,rfl,j,_,rfl,bW.of h1,rfl,_,_,rfl,_,_,rfl,_,_,rfl,rfl,?_⟩
 refine⟨_,rfl,_,rfl,Il o r,_,rfl,?_⟩
 by_cases e:v=m
 ·rw[decide_eq_true e,if_pos rfl]
  have a:∀(k:Int) (y:Nat),jq ((t3 l).map V.int) k=some (.int (y:Nat))->Ev (fv (nW K) (cR 4) (tC (.int k))) [some (.ref j),some (.ref b),some v,some (.ref s),some (.ref n),some m] H (.int (y:Nat)):=λk y u=>fc (aa rfl) ar (bW.of h2) u
  refine⟨_,rfl,eP (vs:=(t3 (fQ l 1)).map V.int) (af (a 0 l.1 rfl) (af (a 1 l.2.1 rfl) (af (aQ (a 2 l.2.2 rfl) ar) ao))) (by show 3<=sizeLine;decide) λt d=>?_⟩
  refine⟨_,_,Dp.ints (ns:=t3 p) (bW.of (by rw[ak (ax g d)];exact g)),Dp.ints (ns:=t3 (fQ l 1)) (bW.of ae),LR (iF _) (by decide),?_⟩
  rw[kz,show decide (t3 p=t3 (fQ l 1))=decide (lC (f,l,m) (p,v)) from decide_eq_decide.mpr ⟨λh=>⟨e,gh h⟩,λh=>congrArg t3 h.2⟩]
  exact q _ ((ah.refl H).upd d)
 ·rw[decide_eq_false e,if_neg (by simp)]
  have:=q H (ah.refl H)
  rw[decide_eq_false (λh=>e h.1)] at this
  exact this
theorem Fj:eO P w K mg base 1 "_law_cell_at" Gh ["script", "k"] (CA K):=by
 refine rd ["script", "k"] λg _ _ _ _ _ H vs Q E hr h=>?_
 obtain⟨a,ns,i,rfl,ha,d,q⟩:=h
 refine⟨_,(aN (bM (bB jV (aj 1) (br aU T.len_ (az (aj 0)))) (ay (aR aV (aj 0) (aj 1)))) (ay ag)),?_⟩
 refine gF (aB (aQ (aa rfl) (de (af (aa rfl) ao) λQ' c=>⟨_,_,rfl,by first|exact .inl ⟨_,by assumption,rfl⟩|exact .inl ⟨_,aF.of (by assumption),rfl⟩|exact .inr ⟨_,by assumption,rfl⟩|exact .inr ⟨_,bW.of (by assumption),rfl⟩,c⟩))) (λe=>?_) (λ_=>?_)
 ·have b:i<((ns.map V.int).length:Int):=of_decide_eq_true e
  rw[LK] at b
  obtain⟨j,rfl⟩:=Int.eq_ofNat_of_zero_le d
  have f:j<ns.length:=by omega
  exact cU (cM (v:=.int ns[j]) (aa rfl) (aa rfl) ha (bS (by simp[f]))) (q _)
 ·exact q 0
theorem AA:eO P w K mg base 1 "number_in" B9 ["word"] lN:=by
 refine rd ["word"] λI _ _ _ _ _ H vs Q E hr h=>?_
 obtain⟨w,rfl,r,q⟩:=h
 refine⟨_,(ai (bM (eL (cg (d_ dv dv ag (br aU T.len_ (az (aj 0))) (cY (by rfl) (by exact T.g_MOST_FIGURES)))) (dN (cx (br (nz rfl) T.any_ (az (eI ["sign"] [] [] (BJ (aj 0)) (cv 0) bj (lV jC (aj 0) (cY (by rfl) (by exact T.g_FIGURES)) (by with_unfolding_all rfl)))))))).pt (ay b_)) (aN (bM (ie (bB di (aR u7 (aj 0) ag) aL) (iP (bB oK (br aU T.len_ (az (aj 0))) ag))).pt (ay b_)) (ay (cK yt T.int_ (az (aj 0)))))),?_⟩
 have f:=r.sz
 refine qf ?_
 by_cases hl:1<=w.length/\w.length<=18
 ·refine JS (jo (aB (cP ar (lO (aa rfl) f) ar))) (by simp;omega) ?_
  refine⟨_,rfl,w,rfl,r.as,λD C=>?_⟩
  refine Dm (λi o H'=>∃n,o=[n]/\H'=upd H D (.lst ((((cp w).map λc=>!decide (c∈jU)).take i).map V.bl))) ⟨none,rfl,rfl⟩ ?_ ?_
  ·rintro i c o H' e ⟨n,rfl,rfl⟩
   refine gn (dQ ?_)
   refine Fe (b:=!decide (c∈jU)) (by rw[Cq]) (pA (aa rfl) ar) _ ?_
   refine⟨_,ae,?_,_,rfl,?_⟩
   ·rw[LK,Mg]
    exact N4 (Nat.min_le_right _ _) (by rw[LK,cu];exact fI r.ln)
   ·rw[gU,NH,L7,e,LQ];rfl
  ·rintro o H' ⟨n,rfl,rfl⟩
   have x:((cp w).map λc=>!decide (c∈jU)).take w.length=(cp w).map λc=>!decide (c∈jU):=OF (by rw[LK,cu];exact LL _)
   rw[x]
   have s:ah H (upd H D (.lst (((cp w).map λc=>!decide (c∈jU)).map V.bl))):=(ah.refl H).upd C
   refine⟨D,_,rfl,aF.of ae,_,rfl,?_⟩
   have y:(((cp w).map λc=>!decide (c∈jU)).any id)=decide (∃c∈cp w,¬(48<=c/\c<=57)):=by
    rw[Nv,List.any_eq_true,decide_eq_true_iff]
    constructor
    ·rintro⟨b,l,m⟩
     obtain⟨c,e,rfl⟩:=LN.mp l
     exact⟨c,e,λz=>by rw[id,decide_eq_true (oM.mpr z)] at m;cases m⟩
    ·rintro⟨c,e,p⟩
     exact⟨_,LN.mpr ⟨c,e,rfl⟩,by rw[id,decide_eq_false λz=>p (oM.mp z)];rfl⟩
   rw[y]
   have d:(cp w).length=w.length:=cu w
   rcases q with ⟨g,q⟩|⟨b,q⟩
   ·obtain⟨A,F,u,G⟩:=g
    rw[decide_eq_false λ⟨c,e,p⟩=>p (u c e)]
    refine eF ?_
    refine c9 (vk (aB (kx (qx (c:=(cp w)[0]'(by omega)) (aa rfl) ar f (bS (j:=0) (by simp))) ar)) λ_=>aB (aQ (lO (aa rfl) f) ar)) ?_ ?_
    ·by_cases h0:(cp w)[0]?=some 48
     ·have:=G h0
      simp;intro _;omega
     ·have:¬(⟨#[(cp w)[0]'(by omega)]⟩:Str)=Str.ofString "0" :=λz=>by
       have a:Str.ofString "0" =⟨#[48]⟩:=by decide+kernel
       rw[a] at z
       injection z with z
       have z:=congrArg Array.toList z
       simp only[List.cons.injEq,and_true] at z
       exact h0 (by rw[Mi (by omega),z])
      rw[decide_eq_false this,Bool.false_and]
    ·refine⟨_,rfl,w,_,rfl,intText_digits u (λz=>by have J:(cp w).length=0:=congrArg List.length z;omega) (by omega),by omega,q _ s⟩
   ·by_cases l:∃c∈cp w,¬(48<=c/\c<=57)
    ·rw[decide_eq_true l]
     exact i_ (q _ s)
    ·rw[decide_eq_false l]
     refine eF ?_
     have B:(cp w)[0]?=some 48/\1<(cp w).length:=by
      rcases b with b|b|b|b
      ·omega
      ·omega
      ·exact absurd b l
      ·exact b
     have a:Str.ofString "0" =⟨#[48]⟩:=by decide+kernel
     refine eX (vk (aB (kx (qx (c:=48) (aa rfl) ar f (bS (j:=0) B.1)) ar)) λ_=>aB (aQ (lO (aa rfl) f) ar)) (λ_=>q _ s) (λz=>?_)
     rw[a] at z
     simp at z
     omega
 ·have l:HJ (cp w):=by
   unfold HJ
   rw[cu]
   omega
  have d:(cp w).length=w.length:=cu w
  refine jo (aB (cP ar (lO (aa rfl) f) ar)) _ ?_
  rw[show(!(decide ((1:Int)<=(w.length:Nat))&&decide (((w.length:Nat):Int)<=18)))=true by
   rw[Bool.not_eq_true',Bool.and_eq_false_iff,decide_eq_false_iff_not,decide_eq_false_iff_not]
   omega,if_pos rfl]
  refine i_ ?_
  rcases q with ⟨g,q⟩|⟨b,q⟩
  ·obtain⟨A,F,_⟩:=g
   omega
  ·exact q _ (ah.refl H)
theorem yy (e:aA P w K mg base "number_in" 1 ["word"] lN):eO P w K mg base 2 "spot_in" wY ["word"] sX:=by
 refine rd ["word", "numbers"] λz _ _ _ _ _ H vs Q E hr h=>?_
 obtain⟨p,rfl,x,q⟩:=h
 refine⟨_,(ai (m9 1 ["part"] [] [] z (aD (dh Om PySem.F.slot_str_split PySem.F.type_str_split mT (aj 0) (az aL))) (cv 0) bj (aH (by exact e) (by exact hr) (az (aj 0)))) (aN (bM (eL (bB f_ (br aU T.len_ (az (aj 1))) ag) (dN (gI oH b_ (aj 1) (by with_unfolding_all rfl)))).pt (ay b_)) (ay (cK cG T.tuple_ (az (aj 1)))))),?_⟩
 have d:sizeLine=2^24:=rfl
 have g:=jN x
 have c:(ss (dr p)).length<=9:=by rw[<-cu,bY];exact g.1
 have ep:Txt.split (ss (dr p)) (Str.ofString ".")=[dg p.1,dg p.2.1,dg p.2.2].map ss:=by
  refine mX ?_
  rw[KY,sf,bY,LV]
  unfold dr
  rw[vo (by simp) λw g=>?_]
  ·show _=[cp (ss _),cp (ss _),cp (ss _)];rw[bY,bY,bY]
  ·simp only[LS,Md,or_false] at g
   rcases g with rfl|rfl|rfl<;>exact IK _
 refine⟨_,rfl,rfl,_,_,rfl,rfl,(by decide+kernel),(by lia),λl C=>⟨l,rfl,⟨_,aF.of ae⟩,λD f=>?_⟩⟩
 rw[ep] at f|-
 have m:ah H (upd H l (.lst (([dg p.1,dg p.2.1,dg p.2.2].map ss).map V.str))):=(ah.refl H).upd C
 have r:upd H l (.lst (([dg p.1,dg p.2.1,dg p.2.2].map ss).map V.str)) l=some (.lst (([p.1,p.2.1,p.2.2]:List Nat).map λn=>sv (dg n))):=ae
 revert m r f
 generalize upd H l _=H0
 intro f m r
 refine jg (K:=K) [p.1,p.2.1,p.2.2] (λn=>sv (dg n)) (λ_ v n=>v=.int (n:Nat)) (λh _ _=>h) r f (show 3<=1000 by decide) (λn s H' _ _ Qv B=>aP (af (aa rfl) ao) (Ct ?_ λH2 A=>B _ H2 A rfl)) λvs H' G j y=>?_
 ·simp only[LS,Md,or_false] at s
  rcases s with rfl|rfl|rfl<;>lia
 cases xQ y
 refine st ?_
 refine c9 (fR (a:=false) (b:=false) (cH (aB (iz (de (af (aa rfl) ao) λQ' o=>⟨_,_,rfl,.inl ⟨_,aF.of j,rfl⟩,o⟩) ar)) rfl) λ_=>aB λQ' o=>⟨_,rfl,D,_,rfl,.inl (aF.of j),rfl,rfl,o⟩) rfl ?_
 refine⟨_,rfl,D,_,rfl,.inl ⟨aF.of j,λt u=>?_⟩⟩
 exact q t _ ((m.trans G).upd u) ae
theorem u5 (e:aA P w K mg base "number_in" 1 ["word"] lN):eO P w K mg base 2 "numbers_told" sZ ["words", "many"] (gE K):=by
 refine rd ["words", "many", "numbers"] λs _ _ _ _ _ H vs Q E hr h=>?_
 obtain⟨l,ns,k,rfl,f,p,rfl,b,q⟩:=h
 refine⟨_,(aN (m9 2 ["word"] [] [] s (aD (aj 0)) (cv 0) bj (aH (by exact e) (by exact hr) (az (aj 0)))) (ay (fw (eL (bB f_ (br aU T.len_ (az (aj 2))) (aj 1)) (dN (gI oH b_ (aj 2) (by with_unfolding_all rfl)))).pt b_ (cK cG T.tuple_ (az (aj 2)))))),?_⟩
 have d:sizeLine=2^24:=rfl
 refine⟨_,rfl,l,rfl,⟨_,aF.of f⟩,λD x=>?_⟩
 have f:H l=some (.lst (ns.map λn=>sv (dg n))):=by rw[f,LV];rfl
 refine jg (K:=K) ns (λn=>sv (dg n)) (λ_ v n=>v=.int (n:Nat)) (λh _ _=>h) f x (by lia) (λn j H' _ _ Qv y=>aP (af (aa rfl) ao) (Ct (p n j) λH2 u=>y _ H2 u rfl)) λvs H' A g r=>?_
 cases xQ r
 refine st ?_
 have z:(ns.map λn=>V.int (n:Nat)).all jv=true:=by rw[List.all_map,NB];exact λ_ _=>rfl
 have a:Ks .non (ns.map λn=>V.int (n:Nat))=false:=by unfold Ks;rw[List.any_map,NY];exact λ_ _=>by simp[FS]
 refine bR (gN (cH (c:=false) (fR (aB (iz (de (af (aa rfl) ao) λQ' m=>⟨_,_,rfl,.inl ⟨_,aF.of g,rfl⟩,m⟩) (aa rfl))) (λ_=>aB λQ' m=>⟨_,rfl,D,_,rfl,.inl (aF.of g),rfl,z,m⟩)) (by rw[a,LK];simp)) (eF ?_))
 refine⟨_,rfl,D,_,rfl,.inl ⟨aF.of g,λt o=>?_⟩⟩
 exact q t _ (A.upd o) ae
theorem yA (f:aA P w K mg base "spot_in" 2 ["word"] sX):eO P w K mg base 3 "spots_told" xf ["words"] (jQ K):=by
 refine rd ["words", "spots"] λA _ _ _ _ _ H vs Q E hr h=>?_
 obtain⟨l,ps,rfl,j,F,a,q⟩:=h
 refine⟨_,(aN (m9 1 ["word"] [] [] A (aD (aj 0)) (cv 0) bj (aH (by exact f) (by exact hr) (az (aj 0)))) (ay (fw (gI (IJ hr) b_ (aj 1) (by with_unfolding_all rfl)) b_ (aj 1)))),?_⟩
 have d:sizeLine=2^24:=rfl
 refine⟨_,rfl,l,rfl,⟨_,aF.of j⟩,λD o=>?_⟩
 have j:H l=some (.lst (ps.map λp=>sv (dr p))):=by rw[j,LV];rfl
 refine jg (K:=K) ps (λp=>sv (dr p)) (λH v p=>∃t,v=.ref t/\A3 H t p) (λ⟨t,e,h⟩ s I=>⟨t,e,j8 h s I⟩) j o (by omega) (λp m H' _ _ Qv C=>aP (af (aa rfl) ao) ⟨p,rfl,by have:=F p m;omega,λt H2 B g=>C _ H2 B ⟨t,rfl,g⟩⟩) λvs H' M n u=>?_
 obtain⟨as,rfl,g⟩:=xp u
 refine st ?_
 refine bR (gN (aB (b:=false) λQ' J=>⟨_,rfl,D,_,rfl,rfl,aF.of n,λz y=>?_,?_⟩) (eF ?_))
 ·obtain⟨x,G,rfl⟩:=LN.mp y
  obtain⟨i,hi⟩:=List.getElem?_of_mem G
  obtain⟨c,N,r⟩:=ba g hi
  exact⟨_,bW.of r⟩
 ·rw[show((as.map V.ref).any λx=>decide (x=V.non))=false by rw[List.any_map,NY];simp];exact J
 exact(aa rfl:Ev (cR 1) _ _ _) _ (q D H' M o ⟨as,n,g⟩)
theorem uO (e:aA P w K mg base "spots_told" 3 ["words"] (jQ K)):eO P w K mg base 4 "corners_told" tM ["words"] kK:=by
 refine rd ["words", "spots"] λm _ _ _ _ _ H vs Q E hr h=>?_
 obtain⟨l,ps,rfl,r,j,c,q⟩:=h
 refine⟨_,(ai (bc 1 m (aH e hr (az (aj 0)))) (aN (bM (eL (bB fN (aj 1) b_) (dN (cg (d_ dv dv ag (br aU T.len_ (az (aj 1))) ag)))).pt (ay b_)) (ay (bZ (aC (aR aV (aj 1) ag) (aR aV (aj 1) (oG j9 ag))))))),?_⟩
 refine bJ (aP (af (aa rfl) ao) ⟨l,ps,rfl,r,j,by omega,λp H1 s u al=>?_⟩)
 try dsimp only
 refine fF (σ':=[_,_]) rfl ?_
 obtain⟨vs,a,b,g,d,o,h1,ha,n⟩:=JR al c
 refine c9 (b:=false) (cH (fR (a:=false) (b:=false) (iD (aa rfl)) λ_=>fh (cH (aB (cP ar (dJ (K:=K) (aa rfl) g) ar)) (by rw[d,decide_eq_true (by omega),decide_eq_true (by omega)];rfl))) rfl) rfl ?_
 refine zN (vs:=[.ref a,.ref b]) (af (cM (v:=.ref a) (aa rfl) ar (aF.of g) o) (af (cM (v:=.ref b) (aa rfl) (EI ar) (aF.of g) h1) ao)) (by show 2<=sizeLine;decide) λt f=>?_
 exact q _ _ (s.trans ((ah.refl H1).upd f)) ⟨t,a,b,rfl,ae,((ah.refl H1).upd f) _ _ ha,((ah.refl H1).upd f) _ _ n⟩
theorem Cj (m:aA P w K mg base "numbers_told" 2 ["words", "many"] (gE K))(j:aA P w K mg base "corners_told" 4 ["words"] kK):eO P w K mg base 5 "toll_told" AO ["words"] wF:=by
 refine rd ["words", "price", "corners"] λs _ _ _ _ _ H vs Q E hr h=>?_
 obtain⟨l,r,rfl,G,x,ok,q⟩:=h
 refine⟨_,(ai (bc 1 s (aH m hr (aC (cD cW (aj 0) eB (bT ag)) ag))) (aN (bc 2 s (aH j hr (az (cD cW (aj 0) (bT ag) eB)))) (ay (fw (eL (bB fN (aj 1) b_) (dN (bB fN (aj 2) b_))).pt b_ (au wb (aj 1) (aj 2)))))),?_⟩
 cases r with
 |toll p cs=>
  obtain⟨g,sm,len⟩:=ok
  refine bJ (bI (aG (gf [dg p] (aa rfl) uz Dz x (by exact DW _ 1 (by simp[lQ])) λl1 H1 M A=>a_ ar ⟨l1,[p],1,rfl,A,by simpa using (by omega:p<10^18),rfl,show 1<=10 by decide,λI H2 B d=>?_⟩)))
  try dsimp only
  refine fF (σ':=[_,_,_]) rfl ?_
  have e:=M.trans B
  refine bJ (bI (aG (gf (cs.map dr) (aa rfl) Dz uz (e _ _ x) (by exact jI _ 1 (by simp[lQ])) λD H3 o C=>⟨D,cs,rfl,C,sm,len,λv H4 u pt=>?_⟩)))
  obtain⟨y,a,b,rfl,f,ha,J⟩:=pt
  try dsimp only
  refine fF (σ':=[_,_,_]) rfl ?_
  have d:=u _ _ (o _ _ d)
  refine bR (gN (cH (c:=false) (fR (iD (aa rfl)) λ_=>iD (aa rfl)) rfl) (eF ?_))
  refine dW (cZ (aa rfl) (cZ (aa rfl) ⟨I,y,_,_,rfl,rfl,d,f,by show 1+2<=sizeLine;decide,λt H5 n F=>?_⟩))
  exact q _ _ (e.trans (o.trans (u.trans n))) ⟨t,a,b,rfl,F,n _ _ ha,n _ _ J⟩ λz=>nomatch z
 |_=>cases G
theorem F1 (f:aA P w K mg base "numbers_told" 2 ["words", "many"] (gE K))(g:aA P w K mg base "spots_told" 3 ["words"] (jQ K)):eO P w K mg base 4 "net_told" Gj ["words"] By:=by
 refine rd ["words", "numbers", "pins"] λs _ _ _ _ _ H vs Q E hr h=>?_
 obtain⟨l,r,rfl,G,m,ok,q⟩:=h
 refine⟨_,(ai (bc 1 s (aH f hr (aC (cD cW (aj 0) (bT ag) (bT ag)) ag))) (aN (bc 2 s (aH g hr (az (cD cW (aj 0) (bT ag) eB)))) (ay (fw (eL (bB fN (aj 1) b_) (dN (bB fN (aj 2) b_))).pt b_ (bZ (aw (aR aV (aj 0) ag) (aw (aR aI (aj 1) ag) (aC (aR aI (aj 1) ag) (aj 2))))))))),?_⟩
 cases r with
 |net x hf ro cs=>
  obtain⟨sm,len,N,h1,h2⟩:=ok
  have y:fu ((lQ (.net x hf ro cs)).map sv) (some 1) (some 3)=([dg hf,dg ro]:List (List Nat)).map sv:=Hu _ 1 3 (by decide) (by simp[lQ])
  refine bJ (bI (aG (gf [dg hf,dg ro] (aa rfl) Dz Dz m y λl1 H1 J A=>a_ ar ⟨l1,[hf,ro],2,rfl,A,λn F=>by simp only[LS,Md,or_false] at F;omega,rfl,show 2<=10 by decide,λM H2 B a=>?_⟩)))
  try dsimp only
  refine fF (σ':=[_,_,_]) rfl ?_
  have b:=J.trans B
  refine bJ (bI (aG (gf (cs.map dr) (aa rfl) Dz uz (b _ _ m) (by exact jI _ 3 (by simp[lQ])) λD H3 j C=>⟨D,cs,rfl,C,sm,by omega,λp H4 u I al=>?_⟩)))
  try dsimp only
  refine fF (σ':=[_,_,_]) rfl ?_
  have a:=u _ _ (j _ _ a)
  have d:=b.trans (j.trans u)
  have e:=d _ _ m
  refine bR (gN (cH (c:=false) (fR (iD (aa rfl)) λ_=>iD (aa rfl)) rfl) (eF ?_))
  refine eP (vs:=[sv x,.int (hf:Nat),.int (ro:Nat),.ref p]) (af (cM (aa rfl) ar (aF.of e) GN) (af (fc (aa rfl) ar (bW.of a) rfl) (af (fc (aa rfl) ar (bW.of a) rfl) (af (aa rfl) ao)))) (by show 4<=sizeLine;decide) λt o=>?_
  exact q _ _ (d.trans ((ah.refl H4).upd o)) ⟨t,p,rfl,ae,al.same ((ah.refl H4).upd o),vP (b.trans j) I⟩ λz=>nomatch z
 |_=>cases G
theorem Fv (C:aA P w K mg base "numbers_told" 2 ["words", "many"] (gE K))(B:aA P w K mg base "spots_told" 3 ["words"] (jQ K)):eO P w K mg base 4 "bundle_told" Ge ["words"] Bp:=by
 refine rd ["words", "room", "place", "starts", "goals"] λG _ _ _ _ _ H vs Q E hr h=>?_
 obtain⟨l,r,rfl,hk,D,ok,q⟩:=h
 refine⟨_,(ai (bc 1 G (aH C hr (aC (cD cW (aj 0) (bT ag) (bT ag)) ag))) (ai (bM (eL (bB fN (aj 1) b_) (dN (bB f_ (dh Mm PySem.F.slot_list_count PySem.F.type_list_count zc (cD cW (aj 0) (bT ag) eB) (az aL)) ag))).pt (ay b_)) (ai (bc 2 G (au aS (dh Mm PySem.F.slot_list_index PySem.F.type_list_index yp (cD cW (aj 0) (bT ag) eB) (az aL)) ag)) (ai (bc 3 G (aH B hr (az (cD cW (aj 0) (bT ag) (bT (aj 2)))))) (aN (bc 4 G (aH B hr (az (cD cW (aj 0) (bT (au aS (aj 2) ag)) eB)))) (ay (fw (eL (bB fN (aj 3) b_) (dN (bB fN (aj 4) b_))).pt b_ (bZ (aw (aR aV (aj 0) ag) (aw (aR aI (aj 1) ag) (aC (aj 3) (aj 4)))))))))))),?_⟩
 cases r with
 |bun x ro cs ds=>
  obtain⟨sm,Cp,len,hx,h1⟩:=ok
  have Z:fu ((lQ (.bun x ro cs ds)).map sv) (some 1) (some 2)=([dg ro]:List (List Nat)).map sv:=Hu _ 1 2 (by decide) (by simp[lQ])
  refine bJ (bI (aG (gf [dg ro] (aa rfl) Dz Dz D Z λl1 H1 s1 w1=>a_ ar ⟨l1,[ro],1,rfl,w1,λn hn=>by simp only[LS,Md,or_false] at hn;omega,rfl,show 1<=10 by decide,λt1 H2 s2 a=>?_⟩)))
  try dsimp only
  refine fF (σ':=[_,_,_,_,_]) rfl ?_
  have m:=s1.trans s2
  have W:fu ((lQ (.bun x ro cs ds)).map sv) (some 2) none=(cs.map dr++L "to" ::ds.map dr).map sv:=jI _ 2 (by simp[lQ])
  have f:ss (L "to")=Str.ofString "to" :=(hZ (FQ "to")).symm
  refine qf (JS (iD (aa rfl)) rfl (IE (dW (Dw (gf _ (aa rfl) Dz uz (m _ _ D) W λl2 H3 R U=>⟨.inl ⟨rfl,_,aF.of U⟩,a_ ar ⟨l2,_,_,rfl,rfl,by rw[<-qK];exact U,cZ ar ⟨rfl,_,rfl,?_⟩⟩⟩)))))
  rw[HM sm Cp]
  refine eF ?_
  have o:=m.trans R
  have e3:(cs.map dr++L "to" ::ds.map dr).map sv=(((cs.map dr).map ss)++Str.ofString "to" ::((ds.map dr).map ss)).map V.str:=by rw[qK,LQ,L1,f]
  refine bJ (dW (Dw (gf _ (aa rfl) Dz uz (o _ _ D) W λl3 H4 X S=>⟨.inl ⟨rfl,_,aF.of S⟩,a_ ar ⟨l3,(cs.map dr).map ss,(ds.map dr).map ss,_,rfl,rfl,by rw[<-e3];exact S,λhm=>?_,by rw[LK,LK];omega,cZ ar ⟨_,_,rfl,rfl,?_⟩⟩⟩)))
  ·obtain⟨w,hw,e⟩:=LN.mp hm
   obtain⟨p,y,rfl⟩:=LN.mp hw
   exact A1 (JK sm p y) (vF (e.trans f.symm))
  rw[LK,LK]
  have d:=o.trans X
  try dsimp only
  refine fF (σ':=[_,_,_,_,_]) rfl ?_
  have e4:fu ((lQ (.bun x ro cs ds)).map sv) (some 2) (some ((cs.length+2:Nat):Int))=(cs.map dr).map sv:=by
   rw[show(2:Int)=((2:Nat):Int) from rfl,Hu _ 2 (cs.length+2) (by omega) (by simp[lQ])]
   simp[lQ]
  refine bJ (bI (aG (gf (cs.map dr) (aa rfl) Dz (Lu rfl) (d _ _ D) e4 λl4 H5 N w5=>⟨l4,cs,rfl,w5,sm,by omega,λp H6 T np al=>?_⟩)))
  try dsimp only
  refine fF (σ':=[_,_,_,_,_]) rfl ?_
  have b:=d.trans (N.trans T)
  have e5:fu ((lQ (.bun x ro cs ds)).map sv) (some (((cs.length+2:Nat):Int)+1)) none=(ds.map dr).map sv:=by
   rw[show((cs.length+2:Nat):Int)+1=((cs.length+3:Nat):Int) by omega,jI _ _ (by simp[lQ])]
   simp[lQ,List.drop_append]
  refine bJ (bI (aG (gf (ds.map dr) (aa rfl) (LC λH=>aQ (g:=λi j=> .int (i+j)) (aa rfl) ar) uz (b _ _ D) e5 λl5 H7 I w7=>⟨l5,ds,rfl,w7,Cp,by omega,λu H8 M Y O=>?_⟩)))
  try dsimp only
  refine fF (σ':=[_,_,_,_,_]) rfl ?_
  have s:=b.trans (I.trans M)
  have a:=(R.trans (X.trans (N.trans (T.trans (I.trans M))))) _ _ a
  have A:=s _ _ D
  refine bR (gN (cH (c:=false) (fR (iD (aa rfl)) λ_=>iD (aa rfl)) rfl) (eF ?_))
  refine eP (vs:=[sv x,.int (ro:Nat),.ref p,.ref u]) (af (cM (aa rfl) ar (aF.of A) GN) (af (fc (aa rfl) ar (bW.of a) rfl) (af (aa rfl) (af (aa rfl) ao)))) (by show 4<=sizeLine;decide) λt J=>?_
  exact q _ _ (s.trans ((ah.refl H8).upd J)) ⟨t,p,u,rfl,ae,(al.same (I.trans M)).same ((ah.refl H8).upd J),O.same ((ah.refl H8).upd J),vP (d.trans N) np,vP (b.trans I) Y⟩ λz=>nomatch z
 |_=>cases hk
theorem EC (c:aA P w K mg base "numbers_told" 2 ["words", "many"] (gE K))(d:aA P w K mg base "corners_told" 4 ["words"] kK)(f:aA P w K mg base "toll_told" 5 ["words"] wF)(g:aA P w K mg base "net_told" 4 ["words"] By)(m:aA P w K mg base "bundle_told" 4 ["words"] Bp):eO P w K mg base 6 "row_told" Gq ["kind", "words"] CS:=by
 refine rd ["kind", "words"] λI _ _ _ _ _ H vs Q E hr h=>?_
 obtain⟨l,r,rfl,o,ok,q⟩:=h
 refine⟨_,(ai (bM (bB di (aj 0) aL) (ay (aH c hr (aC (aj 1) ag)))) (ai (bM (bB di (aj 0) aL) (ay (aH c hr (aC (aj 1) ag)))) (ai (bM (bB di (aj 0) aL) (ay (aH c hr (aC (aj 1) ag)))) (ai (bM (bB di (aj 0) aL) (ay (aH d hr (az (aj 1))))) (ai (bM (bB di (aj 0) aL) (ay (aH f hr (az (aj 1))))) (ai (bM (bB di (aj 0) aL) (ay (aH g hr (az (aj 1))))) (aN (bM (bB di (aj 0) aL) (ay (aH m hr (az (aj 1))))) (ay b_)))))))),?_⟩
 refine eX (jd (j:=0) (aa rfl) (by decide)) (λe=>?_) λF=>?_
 ·cases r with
  |floor z=>
   obtain⟨x,b2,J⟩:=ok
   exact bR (aP (af (aa rfl) (af ar ao)) ⟨l,[z.1,z.2.1,z.2.2],3,rfl,o,λn u=>by simp only[LS,Md,or_false] at u;lia,rfl,show 3<=10 by decide,λt H' s p=>q _ H' s ⟨t,rfl,p⟩ λz=>nomatch z⟩)
  |_=>cases e
 refine eX (jd (j:=1) (aa rfl) (by decide)) (λe=>?_) λy=>?_
 ·cases r with
  |layer a b=>
   obtain⟨x,b2⟩:=ok
   exact bR (aP (af (aa rfl) (af ar ao)) ⟨l,[a,b],2,rfl,o,λn u=>by simp only[LS,Md,or_false] at u;lia,rfl,show 2<=10 by decide,λt H' s p=>q _ H' s ⟨t,rfl,p⟩ λz=>nomatch z⟩)
  |_=>cases e
 refine eX (jd (j:=2) (aa rfl) (by decide)) (λe=>?_) λC=>?_
 ·cases r with
  |via a=>
   have x:a<10^14:=ok
   exact bR (aP (af (aa rfl) (af ar ao)) ⟨l,[a],1,rfl,o,λn u=>by simp only[LS,Md,or_false] at u;lia,rfl,show 1<=10 by decide,λt H' s p=>q _ H' s ⟨t,rfl,p⟩ λz=>nomatch z⟩)
  |_=>cases e
 refine eX (jd (j:=3) (aa rfl) (by decide)) (λe=>?_) λA=>?_
 ·cases r with
  |rock cs=>exact bR (aP (af (aa rfl) ao) ⟨l,cs,rfl,o,ok.1,ok.2,λv H' s pt=>q v H' s pt λz=>by obtain⟨t,_,_,e,_⟩:=pt;rw[z] at e;cases e⟩)
  |_=>cases e
 refine eX (jd (j:=4) (aa rfl) (by decide)) (λe=>bR (aP (af (aa rfl) ao) ⟨l,r,rfl,e,o,ok,q⟩)) λB=>?_
 refine eX (jd (j:=5) (aa rfl) (by decide)) (λe=>bR (aP (af (aa rfl) ao) ⟨l,r,rfl,e,o,ok,q⟩)) λG=>?_
 refine eX (jd (j:=6) (aa rfl) (by decide)) (λe=>bR (aP (af (aa rfl) ao) ⟨l,r,rfl,e,o,ok,q⟩)) λD=>?_
 have:=sU r
 have:=of_decide_eq_false F
 have:=of_decide_eq_false y
 have:=of_decide_eq_false C
 have:=of_decide_eq_false A
 have:=of_decide_eq_false B
 have:=of_decide_eq_false G
 have:=of_decide_eq_false D
 lia
theorem EJ:eO P w K mg base 1 "_law_word" GK ["spot"] nr:=by
 refine rd ["spot"] λs _ _ _ _ _ H vs Q E hr h=>?_
 obtain⟨t,p,rfl,r,ht,q⟩:=h
 refine⟨_,(aE (ay (iw (K:=K) rfl rfl (az (eI ["number"] [] [] (u6 (aj 0)) (cv 0) bj (cK bf (by exact T.str_) (az (aj 0)))))))),?_⟩
 have b:sizeLine=2^24:=rfl
 have a:∀(J:It) (D:Addr),H D=none->((J=nL K t/\H t=some (.lst (([p.1,p.2.1,p.2.2]:List Nat).map λn=>V.int (n:Nat))))\/(J=Ej K t/\H t=some (.tup (([p.1,p.2.1,p.2.2]:List Nat).map λn=>V.int (n:Nat)))))->tW [none] (cJ 0) k_ (nM (λxs H Q=>∃i:Int,xs=[.int i]/\i.natAbs.log2<1920/\Q (.str (Str.ofString (toString i))) H) (a8 (cR 0) dw)) J H D λH'=>∃z l ts,V.str (Str.ofString ".")=.str z/\[V.ref D]=[.ref l]/\aF K H' l (ts.map V.str)/\JoinOk z ts=true/\Q (.str (Txt.join z ts)) H':=λJ D c g=>by
  refine lZ (rest:=[]) [p.1,p.2.1,p.2.2] (λn=>V.int (n:Nat)) (λ_ v n=>v=sv (dg n)) (λh _ _=>h) g c (show 3<=1000 by decide) (λn d H' _ _ Qv j=>iC (af (aa rfl) ao) ⟨_,rfl,?_,?_⟩) λvs H' o e f=>?_
  ·simp only[LS,Md,or_false] at d
   exact IX (by lia)
  ·rw[qc];exact j _ H' (ah.refl H') rfl
  ·cases IA f
   refine⟨_,D,_,rfl,rfl,aF.of e,tZ (λw m=>?_) (by decide) (show 3<=1000 by decide),?_⟩
   ·obtain⟨n,d,rfl⟩:=LN.mp m
    rw[<-cu,bY]
    simp only[LS,Md,or_false] at d
    exact LR (cj (k:=18) (by decide) (by lia)) (by decide)
   ·have:=q H' o
    rw[show sv (dr p)=V.str (Txt.join (Str.ofString ".") ([p.1,p.2.1,p.2.2].map λn=>ss (dg n))) from congrArg V.str (hZ (by
     rw[KY,rT,LV]
     unfold dr
     show jl 46 [cp (ss _),cp (ss _),cp (ss _)]=_
     rw[bY,bY,bY])).symm] at this
    exact this
 refine eo ar rfl (aG ?_)
 rcases ht with ht|ht
 ·exact .inr ⟨_,rfl,t,rfl,⟨_,bW.of ht⟩,λD c=>a _ D c (.inr ⟨rfl,ht⟩)⟩
 ·exact .inl ⟨_,rfl,t,rfl,⟨_,aF.of ht⟩,λD c=>a _ D c (.inl ⟨rfl,ht⟩)⟩
theorem vC:eO P w K mg base 1 "words_in" rp ["row"] pG:=by
 refine rd ["row"] λT _ _ _ _ _ H vs Q E hr h=>?_
 obtain⟨x,ws,rfl,a,q⟩:=h
 refine⟨_,(aE (ay (eI ["piece"] [] [] (aD (dh Om PySem.F.slot_str_split PySem.F.type_str_split mT (aR aI (dh Om PySem.F.slot_str_partition PySem.F.type_str_partition p4 (aj 0) (az aL)) ag) (az aL))) (cv 0) (mD (bB f_ (aj 0) aL)) (aj 0)))),?_⟩
 obtain⟨y,z,ex,d,f,J,j,c⟩:=a
 have l:x.length<=400:=by rw[<-cu];exact c
 refine⟨_,rfl,rfl,_,_,rfl,rfl,(by decide+kernel),Nq (fI (by lia)),λP N=>?_⟩
 have M:cp (Txt.partition x (Str.ofString ";")).1=y:=by rw[KC];exact D4 ex f J
 have U:=(PyProof.Rows.fact_partition x (Str.ofString ";")).1
 refine⟨P,_,_,.str (Txt.partition x (Str.ofString ";")).1,rfl,rfl,bW.of ae,rfl,rfl,_,_,rfl,rfl,(by decide+kernel),?_,λS O=>?_⟩
 ·have:=fI (n:=(Txt.partition x (Str.ofString ";")).1.length+2) (by lia)
  lia
 refine⟨S,rfl,⟨_,aF.of ae⟩,λD r=>?_⟩
 have es:(Txt.split (Txt.partition x (Str.ofString ";")).1 (Str.ofString " ")).map cp=lE 32 y:=by rw[xA,sf,M]
 have A:=((ah.refl H).upd N (o:=.tup [.str (Txt.partition x (Str.ofString ";")).1,.str (Txt.partition x (Str.ofString ";")).2.1,.str (Txt.partition x (Str.ofString ";")).2.2])).upd O (o:=.lst ((Txt.split (Txt.partition x (Str.ofString ";")).1 (Str.ofString " ")).map V.str))
 have u:upd (upd H P (.tup [.str (Txt.partition x (Str.ofString ";")).1,.str (Txt.partition x (Str.ofString ";")).2.1,.str (Txt.partition x (Str.ofString ";")).2.2])) S (.lst ((Txt.split (Txt.partition x (Str.ofString ";")).1 (Str.ofString " ")).map V.str)) S=some (.lst ((Txt.split (Txt.partition x (Str.ofString ";")).1 (Str.ofString " ")).map V.str)):=ae
 have b:(Txt.split (Txt.partition x (Str.ofString ";")).1 (Str.ofString " ")).length<=1000:=by
  have:=PyProof.Rows.split_le (Txt.partition x (Str.ofString ";")).1 (Str.ofString " ")
  lia
 revert r A u
 generalize upd (upd H P (.tup [.str (Txt.partition x (Str.ofString ";")).1,.str (Txt.partition x (Str.ofString ";")).2.1,.str (Txt.partition x (Str.ofString ";")).2.2])) S (.lst ((Txt.split (Txt.partition x (Str.ofString ";")).1 (Str.ofString " ")).map V.str))=H3
 intro r A u
 generalize Txt.split (Txt.partition x (Str.ofString ";")).1 (Str.ofString " ")=ps at es u b
 refine cL (K:=K) (xs:=ps.map V.str) (λi B H'=>∃C,B=[C]/\H'=upd H3 D (.lst (((ps.take i).filter λs=>oq (cp s)).map V.str))) ⟨none,rfl,rfl⟩ (λi B H' _ ⟨_,_,e⟩=>e▸((ah.refl H3).upd r).seq (aF.of u)) ?_ ?_
 ·rintro i v B H' m ⟨C,rfl,rfl⟩
  obtain⟨s,G,rfl⟩:∃s,ps[i]?=some s/\V.str s=v:=by
   rw[L7] at m
   cases e:ps[i]? with
   |none=>rw[e] at m;cases m
   |some s=>rw[e] at m;exact⟨s,rfl,Option.some.inj m⟩
  refine gn ?_
  refine(aB (L2.ev_neS (aa rfl) ar)) _ ?_
  refine Gd (λe=>?_) (λe=>?_)
  ·have g:s≠Str.ofString "" :=by simpa using e
   refine⟨_,rfl,_,ae,?_,_,rfl,?_⟩
   ·rw[LK]
    have h1:=OG (λs=>oq (cp s)) (ps.take i)
    rw[Mg] at h1
    exact fI (by lia)
   ·rw[gU,NH,G,NV,LQ]
    show _=upd H3 D (.lst (_++(List.filter (λs=>oq (cp s)) [s]).map V.str))
    rw[Oy (p:=λs=>oq (cp s)) (Bk g)];rfl
  ·have R:s=Str.ofString "" :=by simpa using e
   refine⟨_,rfl,?_⟩
   rw[NH,G,NV]
   show _=upd H3 D (.lst ((_++List.filter (λs=>oq (cp s)) [s]).map V.str))
   rw[Oz (p:=λs=>oq (cp s)) (by rw[R,Fq];exact L6)]
   simp
 ·rintro B H' ⟨C,rfl,rfl⟩
  have I:((ps.take (ps.map V.str).length).filter λs=>oq (cp s))=ws:=by
   rw[LK,Mc]
   refine mX ?_
   rw[<-d]
   unfold wf
   rw[<-es,List.filter_map];rfl
  rw[I]
  exact q D _ (A.upd r) (A.free r) ae
theorem yz (O:aA P w K mg base "words_in" 1 ["row"] pG):eO P w K mg base 2 "rows_of" xH ["page"] rP:=by
 refine rd ["page", "rows"] λnd _ _ _ _ _ H vs Q E hr h=>?_
 obtain⟨x,M,rfl,I,J,hx,f,l,q⟩:=h
 refine⟨_,(aN (m9 1 ["number", "row"] [] [] nd (CG (by rfl) T.enumerate_ jW (az (dh Om PySem.F.slot_str_split PySem.F.type_str_split mT (aj 0) (az aL)))) (fG (K:=K) (n:=2) rfl rfl (aq (cv 0) (aq (cv 1) bq)) rfl rfl) bj (bZ (aC (aj 0) (aH (by exact O) (by exact hr) (az (aj 1)))))) (ay (eI ["number", "words"] [] [] (aD (aj 1)) (fG (K:=K) (n:=2) rfl rfl (aq (cv 0) (aq (cv 1) bq)) rfl rfl) (mD (bB oK (br (yB (K:=K) rfl) (by exact T.len_) (az (aj 1))) ag)) (bZ (aC (aj 0) (aj 1)))))),?_⟩
 have G:Txt.split x (Str.ofString "\n")=M.map (·.2):=by
  refine mX ?_
  rw[nl,rC x 10 (P:=M.map λp=>cp p.2) (by simpa using I) (λp hp=>?_) hx,LV]
  ·rfl
  ·obtain⟨r,hr,rfl⟩:=LN.mp hp
   obtain⟨y,z,_,_,_,_,B,_⟩:=f r hr
   exact λz=>(B 10 z).1 rfl
 have C:x.length+2<=sizeLine:=by
  rw[cu] at l
  exact LR (Nat.add_le_add_right l 2) (by decide)
 refine KG (λσ H'=>∃(R:Addr) (vs:List V),σ=[some (.str x),some (.ref R)]/\ah H H'/\H' R=some (.lst vs)/\fm H' [R] (M.map (·.1)).zipIdx vs) (λRk hR=>?_) ?_
 ·refine⟨_,rfl,rfl,_,_,rfl,rfl,(by decide+kernel),C,λS nS=>?_⟩
  rw[G]
  refine⟨S,rfl,⟨_,aF.of ae⟩,λD Z=>?_⟩
  have s1:=(ah.refl H).upd nS (o:=.lst ((M.map (·.2)).map V.str))
  have e1:upd H S (.lst ((M.map (·.2)).map V.str)) S=some (.lst ((M.map (·.2)).map V.str)):=ae
  revert Z s1 e1
  generalize upd H S (.lst ((M.map (·.2)).map V.str))=H1
  intro Z s1 e1
  refine Cg (K:=K) (xs:=(M.map (·.2)).map V.str) (λi Y H'=>∃(x0 x1:Option V) (vs:List V),Y=[x0,x1]/\ah H1 H'/\H' D=some (.lst vs)/\fm H' [D] ((M.map (·.1)).take i).zipIdx vs/\vs.length=i)
   ⟨none,none,[],rfl,(ah.refl H1).upd Z,ae,fm.nil _ _,rfl⟩ (λi Y H' _ ⟨_,_,_,_,s,_⟩=>s.seq (aF.of e1)) ?_ ?_
  ·rintro i y p Y H' hy ⟨x0,x1,vs,rfl,W,U,hc,m⟩ np
   obtain⟨pr,av,rfl⟩:∃pr,M[i]?=some pr/\V.str pr.2=y:=by
    rw[L7,L7] at hy
    cases e:M[i]? with
    |none=>rw[e] at hy;cases hy
    |some s=>rw[e] at hy;exact⟨s,rfl,Option.some.inj hy⟩
   have hi:i<M.length:=(Mo.mp av).1
   have hW:(M.map (·.1))[i]?=some pr.1:=by rw[L7,av];rfl
   refine⟨p,_,rfl,bW.of ae,rfl,?_⟩
   refine⟨_,_,rfl,gn ?_⟩
   refine⟨_,_,rfl,gn ?_⟩
   refine⟨rfl,dQ ?_⟩
   refine⟨_,rfl,_,rfl,pr.2,pr.1,rfl,f pr (L9 av),λwl H6 s6 ap a5=>⟨(by show 2<=sizeLine;decide),λtp N=>?_⟩⟩
   have d:ah H' H6:=((ah.refl H').upd np).trans s6
   have F:wl≠D:=λz=>by
    rw[z] at ap
    rw[((ah.refl H').upd np) _ _ U] at ap;cases ap
   have g:tp≠D:=λz=>by rw[z,d _ _ U] at N;cases N
   refine⟨vs,(by rw[ak (L8 g)];exact d _ _ U),fI (by lia),_,_,vs++[.ref tp],rfl,λb u e=>?_,ae,?_,by simp[m]⟩
   ·have c:b≠D:=ax e Z
    have e6:=d _ _ (W b u e)
    rw[ak c,ak (ax e6 N)];exact e6
   ·rw[AY hW]
    exact hc.more U d N a5 F rfl
  ·rintro Y H' ⟨x0,x1,vs,rfl,W,U,hc,m⟩
   rw[LK,LK] at hc
   rw[show M.length=(M.map (·.1)).length from(LK _).symm,Mc] at hc
   exact hR _ _ ⟨D,vs,rfl,s1.trans W,U,hc⟩
 rintro σ H5 ⟨R,vs,rfl,s5,eR,hc⟩
 refine⟨_,rfl,R,rfl,⟨_,aF.of eR⟩,λD Z=>?_⟩
 have j:vs.length=M.length:=by rw[hc.1,List.length_zipIdx,LK]
 refine cL (K:=K) (xs:=vs) (λi Y H'=>∃(x0 x1:Option V) (X:List V),Y=[x0,x1]/\ah H5 H'/\H' D=some (.lst X)/\fm H' [D] (iI ((M.map (·.1)).take i)) X/\X.length<=i)
  ⟨none,none,[],rfl,(ah.refl H5).upd Z,ae,fm.nil _ _,LL _⟩ (λi Y H' _ ⟨_,_,_,_,s,_⟩=>s.seq (aF.of eR)) ?_ ?_
 ·rintro i v Y H' hv ⟨x0,x1,X,rfl,W,U,hu,A⟩
  have hi:i<M.length:=by rw[<-j];exact(Mo.mp hv).1
  have hW:(M.map (·.1))[i]?=some M[i].1:=by simp[hi]
  obtain⟨v',ev,a,b,rfl,ea,eb,hb⟩:=hc.2 i (M[i].1,i) (by rw[List.getElem?_zipIdx,hW];simp)
  rw[hv] at ev
  cases ev
  have c:b≠D:=ax eb Z
  refine⟨a,_,rfl,bW.of (W _ _ ea),rfl,?_⟩
  refine⟨_,_,rfl,gn ?_⟩
  refine⟨_,_,rfl,gn ?_⟩
  refine⟨rfl,?_⟩
  refine(aB (aQ (de (af (aa rfl) ao) λQ' q'=>⟨_,_,rfl,.inl ⟨_,aF.of (W _ _ eb),rfl⟩,q'⟩) ar)) _ ?_
  refine Gd (λe=>?_) (λe=>?_)
  ·have hp:(0:Int)<(((M[i].1.map V.str).length:Nat):Int):=of_decide_eq_true e
   refine⟨_,rfl,_,rfl,(by show 2<=sizeLine;decide),λtp N=>?_⟩
   have g:tp≠D:=λz=>by rw[z,U] at N;cases N
   refine⟨X,(by rw[ak (L8 g)];exact U),fI (by lia),_,_,X++[.ref tp],rfl,λb u e=>?_,ae,?_,by simp[A]⟩
   ·have c:b≠D:=ax e Z
    have e6:=W b u e
    rw[ak c,ak (ax e6 N)];exact e6
   ·rw[pe hW,if_neg (λz=>by rw[LK] at hp;rw[List.isEmpty_iff.mp z] at hp;simp at hp)]
    exact hu.more U (ah.refl _) N (W _ _ eb) c rfl
  ·have hp:¬(0:Int)<(((M[i].1.map V.str).length:Nat):Int):=of_decide_eq_false e
   refine⟨_,_,X,rfl,W,U,?_,by lia⟩
   rw[pe hW,if_pos (List.isEmpty_iff.mpr (Ox (by rw[LK] at hp;lia))),Mb]
   exact hu
 ·rintro Y H' ⟨x0,x1,X,rfl,W,U,hu,A⟩
  rw[j,show M.length=(M.map (·.1)).length from(LK _).symm,Mc] at hu
  exact q D X H' (s5.trans W) U hu
theorem Dd (hB:K.In base)(S:aA P w K mg base "rows_of" 2 ["page"] rP)(Y:aA P w K mg base "row_told" 6 ["kind", "words"] CS):eO P w K mg base 7 "rows_told" Cf ["page"] wJ:=by
 refine rd ["page", "rows", "told", "number", "words", "parts"] λnd _ _ _ _ _ H vs Q E hr h=>?_
 obtain⟨x,z,W,rfl,⟨X,h1,h2,h3,h4,h5,h6⟩,sz,G,q⟩:=h
 refine⟨_,(ai (bc 1 nd (aH S hr (az (aj 0)))) (ai (bM (bB di (br aU T.len_ (az (aj 1))) ag) cw) (ai (bc 2 nd (bg dj)) (aN (dH (aD (aj 1)) (cV rfl (aq (aT 3 nd) (aq (aT 4 nd) bq))) (ai (bc 5 nd (aH Y hr (aC (aR aV (aj 4) ag) (cD cW (aj 4) (bT ag) eB)))) (aN (bM (eL (bB fN (aj 5) b_) (dN (bB f_ (q_ di (aR aV (aj 4) ag) aL) (q_ di (br aU T.len_ (az (aj 2))) ag)))).pt cw) (aO (dh Mm Nk Nl dD (aj 2) (az (bZ (aC (aR aV (aj 4) ag) (aj 5))))))))) (ay (aj 2)))))),?_⟩
 have R:sizeLine=2^24:=rfl
 refine bJ (aP (af (aa rfl) ao) ⟨x,X,rfl,h1,h2,h3,h4,h5,λl vs H1 s1 hl hc=>?_⟩)
 try dsimp only
 have hd:=CB (X.map (·.1))
 rw[h6] at hd
 have M:(iI (X.map (·.1))).length=W.length+1:=by rw[<-LK (f:=λp:List Str×Nat=>p.1),hd,LK];rfl
 have I:=FU (X.map (·.1))
 rw[LK] at I
 have A:vs.length=W.length+1:=by rw[hc.1,M]
 refine fF (σ':=[_,_,_,_,_,_]) rfl ?_
 refine c9 (b:=false) (cH (aB (fU (dJ (K:=K) (aa rfl) hl) ar)) (by rw[A];exact decide_eq_false (by omega))) rfl ?_
 refine gj (vs:=[]) ao (by show 0<=sizeLine;decide) λD nD=>?_
 have s2:ah H1 (upd H1 D (.lst [])):=(ah.refl H1).upd nD
 have o:upd H1 D (.lst []) D=some (.lst []):=ae
 revert s2 o
 generalize upd H1 D _=H2
 intro s2 o
 refine fF (σ':=[_,_,_,_,_,_]) rfl ?_
 refine l_ (cZ (aa rfl) ⟨l,rfl,⟨_,aF.of (s2 _ _ hl)⟩,?_⟩)
 refine bN (K:=K) (xs:=vs) (λi σ H'=>∃(x3 x4 x5:Option V) (U:List V),σ=[some (.str x),some (.ref l),some (.ref D),x3,x4,x5]/\ah H1 H'/\H' D=some (.lst U)/\Paired (TD (λb=>b≠D) H') U ((.floor z::W:List Rw).take i)) ⟨none,none,none,[],rfl,s2,o,.nil⟩ (λi σ H' _ ⟨_,_,_,_,_,s,_⟩=>aF.of (s _ _ hl)) ?_ ?_
 ·rintro i y σ H3 hy ⟨x3,x4,x5,U,rfl,Z,d,hp⟩
  have hi:=bO hy
  have C:i<(.floor z::W:List Rw).length:=by rw[L5];omega
  have hr:(.floor z::W:List Rw)[i]?=some (.floor z::W:List Rw)[i]:=Mi C
  generalize (.floor z::W:List Rw)[i]=r at hr
  have B:gR r/\(kd r=0↔i=0):=by
   cases i with
   |zero=>cases hr;exact⟨sz,by simp[kd]⟩
   |succ i=>have:=G r (L9 (by simpa using hr));exact⟨this.1,by simp[this.2]⟩
  have N:i<(iI (X.map (·.1))).length:=by omega
  have j:(iI (X.map (·.1)))[i]?=some (iI (X.map (·.1)))[i]:=Mi N
  generalize (iI (X.map (·.1)))[i]=pr at j
  have F:pr.1=(uT r).map ss:=by
   have e1:((iI (X.map (·.1))).map (·.1))[i]?=some pr.1:=by rw[L7,j];rfl
   rw[hd,L7,hr] at e1
   exact(Option.some.inj e1).symm
  obtain⟨v,hv,a,b,rfl,ha,hb,_⟩:=hc.2 i pr j
  rw[hy] at hv
  cases hv
  have m:WL H3 b (uT r):=by unfold WL;rw[Z _ _ hb,F,qK]
  have J:=Paired.length hp
  rw[Mg] at J
  refine⟨a,_,rfl,bW.of (Z _ _ ha),rfl,_,_,rfl,gn ⟨_,_,rfl,gn ⟨rfl,?_⟩⟩⟩
  have ew:∀{σ:St} {H':Hp},σ[4]?=some (some (.ref b))->WL H' b (uT r)->Ev (fv (ow K) (cR 4) (tC (.int 0))) σ H' (.str (kS (kd r))):=λh e=>cM (aa h) ar (aF.of e) (by rw[<-rJ];exact GN)
  try dsimp only
  refine fF (σ':=[_,_,_,_,_,_]) rfl ?_
  refine bJ (bI (a_ (ew rfl m) (aG (gf (lQ r) (aa rfl) Dz uz m (jI _ 1 (by simp[uT])) λw H4 s4 hw=>⟨w,r,rfl,hw,B.1,λv H5 s5 pt vn=>?_⟩))))
  have g:=s4.trans s5
  have c:=g _ _ d
  have u:WL H5 b (uT r):=g _ _ m
  try dsimp only
  refine fF (σ':=[_,_,_,_,_,_]) rfl ?_
  refine c9 (b:=false) (cH (fR (a:=false) (b:=false) (cH (aB (qk (aa rfl) ar)) (decide_eq_false vn)) λ_=>aB λQ' q'=>(kx (ew rfl u) ar) _ ((fU (dJ (K:=K) (aa rfl) c) ar) _ ⟨rfl,?_⟩)) rfl) rfl ?_
  ·have:decide (kS (kd r)=Str.ofString "floor")=decide (((U.length:Nat):Int)=0):=by
    rw[show Str.ofString "floor" =kS 0 from rfl,Bf _ (sU r) 0 (by decide),decide_eq_decide,B.2]
    omega
   rw[this]
   simpa using q'
  refine iX (eo (aa rfl) (.inl ⟨rfl,_,aF.of c⟩) (aG (eP (vs:=[.str (kS (kd r)),v]) (af (ew rfl u) (af (aa rfl) ao)) (by show 2<=sizeLine;decide) λt nt=>⟨D,U,_,rfl,rfl,((ah.refl H5).upd nt) _ _ c,by omega,?_⟩)))
  have O:=nD
  refine⟨_,_,_,U++[.ref t],rfl,bK (Z.trans (g.trans ((ah.refl H5).upd nt))) nD,ae,?_⟩
  rw[bh hr]
  have tp:∀b xs,H5 b=some (.tup xs)->upd (upd H5 t (.tup [.str (kS (kd r)),v])) D (.lst (U++[.ref t])) b=some (.tup xs):=λb xs e=>by rw[ak (Ci e c λz=>nomatch z),ak (xG e nt)];exact e
  have lp:∀b xs,b≠D->H5 b=some (.lst xs)->upd (upd H5 t (.tup [.str (kS (kd r)),v])) D (.lst (U++[.ref t])) b=some (.lst xs):=λb xs n e=>by rw[ak n,ak (xG e nt)];exact e
  refine cI ⟨t,v,rfl,by rw[ak (xG c nt).symm,ae],pt.up tp (λb xs a e=>lp b xs (λz=>by rw[z,s4 _ _ d] at a;cases a) e) λb xs a _ z=>by rw[z,s4 _ _ d] at a;cases a⟩ (Paired.mapP hp λ_ _ h=>(h.same g).up tp lp λ_ _ a _=>a)
 ·rintro σ H3 ⟨x3,x4,x5,U,rfl,Z,d,hp⟩
  rw[A,<-L5 (a:=Rw.floor z) (as:=W),Mc] at hp
  exact cU (aa rfl) (q D U H3 (s1.trans Z) d (Paired.mapP hp λ_ _ h=>h.up (λ_ _ e=>e) (λ_ _ _ e=>e) λ_ _ _ _=>trivial))
theorem zC:eO P w K mg base 1 "parts_of" xl ["told", "kind"] rR:=by
 refine rd ["told", "kind"] λN _ _ _ _ _ H vs Q E hr h=>?_
 obtain⟨l,F,W,k,rfl,I,C,B,O,q⟩:=h
 refine⟨_,(aE (ay (eI ["one", "parts"] ["kind"] [1] (aD (aj 0)) (fG (K:=K) (n:=2) rfl rfl (aq (cv 0) (aq (cv 1) bq)) rfl rfl) (mD (bB di (aj 0) (aj 2))) (aj 1)))),?_⟩
 have d:sizeLine=2^24:=rfl
 refine bR ⟨_,rfl,l,rfl,⟨_,aF.of C⟩,λD z=>?_⟩
 have b:=Paired.length B
 refine cL (K:=K) (xs:=F) (λi o H'=>∃(p x:Option V) (g:List V),o=[p,x,some (.str (kS k))]/\ah H H'/\H' D=some (.lst g)/\Paired (Pt (λ_=>True) H) g (fk k (W.take i))) ⟨none,none,[],rfl,(ah.refl H).upd z,ae,.nil⟩ (λi o H' _ ⟨_,_,_,_,s,_⟩=>aF.of (s _ _ C)) ?_ ?_
 ·rintro i y o H' J ⟨p,x,g,rfl,j,m,a⟩
  obtain⟨r,hr,t,u,rfl,G,M⟩:=ba B J
  refine⟨t,_,rfl,bW.of (j _ _ G),rfl,_,_,rfl,gn ⟨_,_,rfl,gn ⟨rfl,?_⟩⟩⟩
  have c:=Paired.length a
  have f:(fk k (W.take i)).length<=W.length:=LR (OG _ _) (by rw[Mg];lia)
  have A:fk k (W.take (i+1))=fk k (W.take i)++fk k [r]:=by rw[bh hr,Ib]
  refine gN (cH (aB (kx (aa rfl) (aa rfl))) (Bf _ (sU r) k I)) (rG (λe=>?_) λe=>?_)
  ·have e:=of_decide_eq_true e
   refine(aa rfl:Ev (cR 1) _ _ _) _ ⟨g,m,?_,_,_,g++[u],rfl,bK j z,ae,?_⟩
   ·lia
   ·rw[A,show fk k [r]=[r] by simp[fk,e]];exact cI M a
  ·have e:=of_decide_eq_false e
   exact⟨_,_,g,rfl,j,m,by rw[A,show fk k [r]=[] by simp[fk,e],Mb];exact a⟩
 ·rintro o H' ⟨p,x,g,rfl,j,m,a⟩
  rw[b,Mc] at a
  exact q D g H' j z m (Paired.mapP a λ_ _ h=>h.same j)
theorem GX:eO P w K mg base 1 "between" J1 ["one", "two"] Gy:=by
 refine rd ["one", "two"] λd _ _ _ _ _ H vs Q E hr h=>?_
 obtain⟨a,b,rfl,ha,e,q⟩:=h
 refine⟨_,(aE (ay (cK (nX rfl) T.list_ (az (cK q9 T.range_ (aC (br (gA rfl) T.min_ (aC (aj 0) (aj 1))) (au aS (br (eM rfl) T.max_ (aC (aj 0) (aj 1))) ag))))))),?_⟩
 refine⟨_,rfl,_,rfl,_,_,rfl,_,rfl,_,rfl,_,_,rfl,_,1,rfl,rfl,_,_,rfl,λp c=>?_⟩
 rw[Dt,Gg]
 refine⟨p,min (a:Int) b,max (a:Int) b+1,rfl,ae,by omega,by omega,λl nl=>?_⟩
 refine q l _ (((ah.refl H).upd c).upd nl) (nw nl).2 ?_
 rw[ae]
 unfold qO
 rw[List.range'_eq_map_range,LV,show(max (a:Int) b+1 - min (a:Int) b).toNat=max a b - min a b+1 by omega]
 refine congrArg (λl=>some (HO.lst l)) (My λk _=>?_)
 show V.int _=V.int _
 congr 1
 show min (a:Int) b+(k:Nat)=((min a b+k:Nat):Int)
 omega
theorem Ig (S:aA P w K mg base "between" 1 ["one", "two"] Gy):eO P w K mg base 2 "box" Jj ["one", "two"] Gf:=by
 refine rd ["one", "two", "spots", "layer", "row"] λnd _ _ _ _ _ H vs Q E hr h=>?_
 obtain⟨b,c,f,s,rfl,hb,hc,⟨f1,f2,f3⟩,⟨g1,g2,g3⟩,q⟩:=h
 refine⟨_,(ai (bc 2 nd (bg dj)) (aN (dH (aD (aH S hr (aC (aR aI (aj 0) ag) (aR aI (aj 1) ag)))) (aT 3 nd) (aE (dH (aD (aH S hr (aC (aR aI (aj 0) ag) (aR aI (aj 1) ag)))) (aT 4 nd) (aE (aO (dh Mm Nm Nn dU (aj 2) (az (eI ["column"] ["layer", "row"] [3,4] (aD (aH S hr (aC (aR aI (aj 0) ag) (aR aI (aj 1) ag)))) (cv 0) bj (bZ (aw (aj 1) (aC (aj 2) (aj 0)))))))))))) (ay (aj 2)))),?_⟩
 have R:sizeLine=2^24:=rfl
 refine gj (vs:=[]) ao (by show 0<=sizeLine;decide) λl nl=>?_
 have W:ah H (upd H l (.lst [])):=(ah.refl H).upd nl
 have l0:upd H l (.lst []) l=some (.lst []):=ae
 revert W l0
 generalize upd H l (.lst [])=H1
 intro W l0
 refine fF (σ':=[_,_,_,_,_]) rfl ?_
 have e1:=y_ f1 g1
 have e2:=y_ f2 g2
 have e3:=y_ f3 g3
 refine FA (af (fP rfl (W _ _ hb) rfl) (af (fP rfl (W _ _ hc) rfl) ao)) ⟨f.1,s.1,rfl,f1,g1,λla H2 s2 Y Z=>?_⟩
 have O:la≠l:=λe=>by rw[e,l0] at Y;cases Y
 refine⟨la,rfl,⟨_,aF.of Z⟩,bN (K:=K) (a:=la) (xs:=(qO f.1 s.1).map λn=>V.int (n:Nat)) (λi σ H'=>∃(x3 U:Option V) (bs:List Addr),σ=[some (.ref b),some (.ref c),some (.ref l),x3,U]/\Sb l H2 H'/\H' l=some (.lst (bs.map V.ref))/\aX H' bs ((((qO f.1 s.1).take i).flatMap λa=>zR f s a).map t3)/\bs.length<=256*i)
  ⟨none,none,[],rfl,Sb.refl l H2,s2 _ _ l0,.nil,by simp⟩ (λi σ H' _ ⟨_,_,_,_,sb,_⟩=>aF.of (sb _ _ O Z)) ?_ ?_⟩
 ·rintro i v σ H3 hi ⟨x3,U,bs,rfl,d,m,u,N⟩
  obtain⟨y,hy,rfl⟩:=fT hi
  have li:=bO hy
  refine gn ?_
  have T:∀{H':Hp} {p:Addr} {g:P3},Sb l H2 H'->A3 H p g->A3 H' p g:=λz e=>z _ _ (ax e nl) (s2 _ _ (W _ _ e))
  refine wm (af (fP rfl (T d hb) rfl) (af (fP rfl (T d hc) rfl) ao)) ⟨f.2.1,s.2.1,rfl,f2,g2,λlb H4 s4 ab ac=>?_⟩
  have M:lb≠l:=λe=>by rw[e,m] at ab;cases ab
  refine⟨lb,rfl,⟨_,aF.of ac⟩,bN (K:=K) (a:=lb) (xs:=(qO f.2.1 s.2.1).map λn=>V.int (n:Nat)) (λj σ H'=>∃(U:Option V) (bs:List Addr),σ=[some (.ref b),some (.ref c),some (.ref l),some (.int (y:Nat)),U]/\Sb l H4 H'/\H' l=some (.lst (bs.map V.ref))/\aX H' bs (((((qO f.1 s.1).take i).flatMap λa=>zR f s a)++((qO f.2.1 s.2.1).take j).flatMap λb=>vw f s y b).map t3)/\bs.length<=256*i+16*j)
   ⟨_,bs,rfl,Sb.refl l H4,s4 _ _ m,by rw[List.take_zero,List.flatMap_nil,Mb];exact u.same s4,by lia⟩ (λi σ H' _ ⟨_,_,_,sb,_⟩=>aF.of (sb _ _ M ac)) ?_ ?_⟩
  ·rintro j v σ H5 hj ⟨U,bs,rfl,r,o,x,G⟩
   obtain⟨z,hz,rfl⟩:=fT hj
   have lj:=bO hz
   have F:=(d.trans (Sb.of s4)).trans r
   refine gn ?_
   refine⟨_,rfl,.inl ⟨rfl,_,aF.of o⟩,?_⟩
   refine aP (af (fP rfl (T F hb) rfl) (af (fP rfl (T F hc) rfl) ao)) ⟨f.2.2,s.2.2,rfl,f3,g3,λlc H6 s6 b3 X=>?_⟩
   refine⟨lc,rfl,⟨_,aF.of X⟩,λD nD=>?_⟩
   refine jg (K:=K) (rest:=[some (.int (y:Nat)),some (.int (z:Nat))]) (qO f.2.2 s.2.2) (λn=>V.int (n:Nat)) (λH v n=>∃t,v=.ref t/\A3 H t (y,z,n)) (λ⟨t,e,h⟩ s e'=>⟨t,e,j8 h s e'⟩) X nD (by lia) (λn hn H' _ _ Qv qv=>eP (vs:=[.int (y:Nat),.int (z:Nat),.int (n:Nat)]) (af (aa rfl) (af (aa rfl) (af (aa rfl) ao))) (by show 3<=sizeLine;decide) λp np=>qv _ _ ((ah.refl H').upd np) ⟨p,rfl,ae⟩) λvs H7 s7 hD hv=>?_
   obtain⟨rs,rfl,J⟩:=xp (ps:=vw f s y z) (ub (g:=λc=>(y,z,c)) hv)
   have C:=Paired.length J
   rw[LK] at C
   unfold vw at C
   rw[LK] at C
   have A:=s6.trans s7
   have B:=A _ _ o
   refine⟨l,D,_,_,rfl,rfl,B,hD,(by rw[LK,LK];lia),_,bs++rs,rfl,(r.trans (Sb.of A)).set,?_,?_,?_⟩
   ·rw[ae,LQ]
   ·rw[bh hz,MT,MJ,<-Mn,LQ]
    have I:Sb l H7 (upd H7 l (.lst (bs.map V.ref++rs.map V.ref))):=(Sb.refl l H7).set
    exact dX (I.tups B (x.same A)) (I.tups B J)
   ·rw[LP];lia
  ·rintro σ H5 ⟨U,bs,rfl,r,o,x,G⟩
   rw[LK,Mc] at x
   rw[LK] at G
   refine⟨_,_,bs,rfl,(d.trans (Sb.of s4)).trans r,o,?_,by lia⟩
   rw[bh hy,MT,MJ]
   exact x
 ·rintro σ H3 ⟨x3,U,bs,rfl,d,m,u,N⟩
  rw[LK,Mc] at u
  exact⟨_,rfl,q l H3 (((Sb.of (W.trans s2)).trans d).same nl) nl ⟨bs,m,u⟩⟩
theorem zb (C:aA P w K mg base "box" 2 ["one", "two"] Gf):eO P w K mg base 3 "marked" vY ["boxes"] sS:=by
 refine rd ["boxes", "marks", "mark", "one", "two", "spot"] λr _ _ _ _ _ H vs Q E hr h=>?_
 obtain⟨l,X,bs,rfl,T,S,a,n,q⟩:=h
 refine⟨_,(ai (bc 1 r gx) (aN (dH (aD (aj 0)) (cV rfl (aq (aT 2 r) (aq (aT 3 r) (aq (aT 4 r) bq)))) (aE (dH (aD (aH C hr (aC (aj 3) (aj 4)))) (aT 5 r) (aE (i6 (bL.one hr) (aj 1) (aj 5) (aj 2) (by rfl)))))) (ay (aj 1)))),?_⟩
 have p:sizeLine=2^24:=rfl
 refine bJ λd r=>?_
 have F:ah H (upd H d (.dT [])):=(ah.refl H).upd r
 have hd:upd H d (.dT []) d=some (.dT []):=ae
 revert F hd
 generalize upd H d _=H1
 intro F hd
 try dsimp only
 refine fF (σ':=[_,_,_,_,_,_]) rfl ?_
 have j:=Paired.length S
 refine l_ (cZ (aa rfl) ⟨l,rfl,⟨_,aF.of (F _ _ T)⟩,?_⟩)
 refine bN (K:=K) (xs:=X) (λi σ H'=>∃G O I N:Option V,σ=[some (.ref l),some (.ref d),G,O,I,N]/\ah H H'/\H' d=some (.dT (mk (bs.take i)))) ⟨none,none,none,none,rfl,F,hd⟩ (λi σ H' _ ⟨_,_,_,_,_,s,_⟩=>aF.of (s _ _ T)) ?_ ?_
 ·rintro i x σ H2 hx ⟨G,O,I,N,rfl,u,e⟩
  obtain⟨b,D,t,y,z,rfl,Y,hy,W⟩:=ba S hx
  have c:=L9 D
  have m:=Hs (bs:=bs.take i) λb D=>a b (List.mem_of_mem_take D)
  rw[Mg] at m
  have o:=zK (a b c).1 (a b c).2
  refine⟨t,_,rfl,bW.of (u _ _ Y),rfl,_,_,rfl,gn ⟨_,_,rfl,gn ⟨_,_,rfl,gn ⟨rfl,?_⟩⟩⟩⟩
  try dsimp only
  refine fF (σ':=[_,_,_,_,_,_]) rfl ?_
  refine wm (af (aa rfl) (af (aa rfl) ao)) ⟨y,z,b.2.1,b.2.2,rfl,u _ _ hy,u _ _ W,(a b c).1,(a b c).2,λU H3 R Z ⟨as,B,J⟩=>⟨U,rfl,⟨_,aF.of B⟩,?_⟩⟩
  refine pT B J (R _ _ e) (by lia) (λ_=>rfl) (λ_=>rfl) (λ_ _=>aa rfl) λA H4 M s4 f=>?_
  have f:H4 d=some (.dT (mk (bs.take (i+1)))):=by rw[bh D,xb];exact f
  have g:=(((Sb.of (u.trans R)).trans s4).same r)
  rcases M with rfl|⟨v,rfl⟩
  ·exact⟨_,_,_,_,rfl,g,f⟩
  ·exact⟨_,_,_,_,rfl,g,f⟩
 ·rintro σ H2 ⟨G,O,I,N,rfl,u,e⟩
  rw[j,Mc] at e
  exact cU (aa rfl) (q d H2 u r e)
theorem yU:eO P w K mg base 1 "inside" wg ["sizes", "spot"] mH:=by
 refine rd ["sizes", "spot", "layers", "rows", "columns", "layer", "row", "column"] λc _ _ _ _ _ H vs Q E hr h=>?_
 obtain⟨a,b,z,p,rfl,ha,e,⟨h1,h2,f⟩,q⟩:=h
 refine⟨_,(ai (eY (aj 0) (cV rfl (aq (aT 2 c) (aq (aT 3 c) (aq (aT 4 c) bq))))) (aN (eY (aj 1) (cV rfl (aq (aT 5 c) (aq (aT 6 c) (aq (aT 7 c) bq))))) (ay (gJ (mV dv jV ag (aj 5) (aj 2)) (gJ (mV dv jV ag (aj 6) (aj 3)) (h9 (mV dv jV ag (aj 7) (aj 4)))))))),?_⟩
 refine mS (aa rfl) (bW.of ha) ?_
 refine mS (aa rfl) (bW.of e) ?_
 have d:∀{x y:Nat},x<y->(decide ((0:Int)<=(x:Nat))&&decide (((x:Nat):Int)<(y:Nat)))=true:=λh=>by rw[decide_eq_true (by lia),decide_eq_true (by lia)];rfl
 exact cU (aY (jf (cP ar (aa rfl) (aa rfl)) λ_=>jf (cP ar (aa rfl) (aa rfl)) λ_=>cP ar (aa rfl) (aa rfl)) (by rw[d h1,d h2,d f];rfl)) q
theorem uJ (f:K.In base)(c:aA P w K mg base "inside" 1 ["sizes", "spot"] mH):eO P w K mg base 2 "check_inside" rq ["sizes", "spot"] iJ:=by
 refine rd ["sizes", "spot"] λg _ _ _ _ _ H vs Q E hr h=>?_
 obtain⟨a,b,z,p,rfl,ha,d,h1,q⟩:=h
 refine⟨_,(aE (bM (cg (cx (aH c hr (aC (aj 0) (aj 1))))) cw)),?_⟩
 exact nj (b:=false) (fh (ji (Ho (af (aa rfl) (af (aa rfl) ao)) λQ' e=>⟨a,b,z,p,rfl,ha,d,h1,e⟩))) rfl q
theorem zu (a:K.In base):eO P w K mg base 1 "check_price" v9 ["price", "least"] mJ:=by
 refine rd ["price", "least"] λb _ _ _ _ _ H vs Q E hr h=>?_
 obtain⟨x,m,rfl,h1,h2,q⟩:=h
 refine⟨_,(aE (bM (cg (d_ dv dv (aj 1) (aj 0) (cY (by rfl) (by exact T.g_MOST_PRICE)))) cw)),?_⟩
 exact nj (fh (cH (aB (cP (aa rfl) (aa rfl) ar)) (by rw[decide_eq_true h1,decide_eq_true h2];rfl))) rfl q
theorem yj (N:K.In base):eO P w K mg base 1 "check_sizes" wV ["sizes", "prices", "vias"] nh:=by
 refine rd ["sizes", "prices", "vias", "size", "most"] λu _ _ _ _ _ H vs Q E hr h=>?_
 obtain⟨z,A,B,g,J,M,rfl,l,⟨S,O,R⟩,I,a,C,c,q⟩:=h
 refine⟨_,(ai (dH (Fw (by rfl) T.zip_ (aC (aj 0) (cY (by rfl) (by exact T.g_MOST_SIZES)))) (cV rfl (aq (aT 3 u) (aq (aT 4 u) bq))) (aE (bM (cg (d_ dv dv ag (aj 3) (aj 4))) cw))) (aN (bM (bB f_ (br aU T.len_ (az (aj 1))) (aR aI (aj 0) ag)) cw) (bM (bB f_ (br aU T.len_ (az (aj 2))) (au dO (aR aI (aj 0) ag) ag)) cw))),?_⟩
 refine⟨_,rfl,z,cMS,rfl,⟨_,bW.of l⟩,⟨_,T.t_MOST_SIZES _⟩,?_⟩
 refine Bj (K:=K) (xs:=(t3 g).map V.int) (ys:=[.int 4,.int 16,.int 16]) rfl (λi σ H'=>∃r o:Option V,σ=[some (.ref z),some (.ref A),some (.ref B),r,o]/\ah H H') ⟨none,none,rfl,ah.refl H⟩ (λi σ H' _ ⟨_,_,_,s⟩=>⟨bW.of (s _ _ l),T.t_MOST_SIZES _⟩) ?_ ?_
 ·rintro i x y p σ H2 f e G ⟨r,o,rfl,d⟩
  obtain⟨n,m,rfl,rfl,D,F⟩:∃n m:Int,x=.int n/\y=.int m/\1<=n/\n<=m:=by
   match i,f,e with
   |0,f,e=>exact⟨_,4,(Option.some.inj f).symm,(Option.some.inj e).symm,by omega,by omega⟩
   |1,f,e=>exact⟨_,16,(Option.some.inj f).symm,(Option.some.inj e).symm,by omega,by omega⟩
   |2,f,e=>exact⟨_,16,(Option.some.inj f).symm,(Option.some.inj e).symm,by omega,by omega⟩
  refine⟨p,_,rfl,bW.of ae,rfl,_,_,rfl,_,_,rfl,rfl,?_⟩
  exact nj (fh (cH (aB (cP ar (aa rfl) (aa rfl))) (by rw[decide_eq_true D,decide_eq_true F];rfl))) rfl ⟨_,_,rfl,d.upd G⟩
 ·rintro σ H2 ⟨r,o,rfl,d⟩
  refine st ?_
  refine c9 (b:=false) (cH (aB (iz (dJ (K:=K) (aa rfl) (d _ _ I)) (fP rfl (d _ _ l) rfl))) (by rw[a,decide_eq_true rfl];rfl)) rfl ?_
  exact nj (b:=false) (cH (aB (iz (dJ (K:=K) (aa rfl) (d _ _ C)) (aQ (g:=λi j=> .int (i - j)) (fP rfl (d _ _ l) rfl) ar))) (by rw[decide_eq_true (by omega)];rfl)) rfl (q _ d)
theorem uf (p:aA P w K mg base "check_price" 1 ["price", "least"] mJ):eO P w K mg base 2 "check_prices" rh ["prices", "vias", "tolls"] kM:=by
 refine rd ["prices", "vias", "tolls", "ahead", "across", "price", "toll"] λC _ _ _ _ _ H vs Q E hr h=>?_
 obtain⟨z,A,d,ps,ns,f,rfl,⟨as,J,M⟩,l,I,m,hd,n,q⟩:=h
 refine⟨_,(ai (dH (aD (aj 0)) (cV rfl (aq (aT 3 C) (aq (aT 4 C) bq))) (aN (aO (aH p hr (aC (aj 3) ag))) (aO (aH p hr (aC (aj 4) ag))))) (aN (dH (aD (aj 1)) (aT 5 C) (aE (aO (aH p hr (aC (aj 5) ag))))) (Ad (dH (zk (aj 2)) (aT 6 C) (aE (aO (aH p hr (aC (aj 6) ag)))))))),?_⟩
 refine⟨_,rfl,z,rfl,⟨_,aF.of J⟩,?_⟩
 refine bN (K:=K) (xs:=as.map V.ref) (λi σ H'=>∃y u:Option V,σ=[some (.ref z),some (.ref A),some (.ref d),y,u,none,none]/\ah H H') ⟨none,none,rfl,ah.refl H⟩ (λi σ H' _ ⟨_,_,_,s⟩=>aF.of (s _ _ J)) ?_ ?_
 ·rintro i x σ H2 G ⟨y,u,rfl,r⟩
  obtain⟨a,ha,rfl⟩:=fT G
  obtain⟨c,R,e⟩:=ba M ha
  obtain⟨⟨W,T⟩,Y,U⟩:=l c (L9 R)
  refine⟨a,_,rfl,bW.of (r _ _ e),rfl,_,_,rfl,_,_,rfl,rfl,?_⟩
  refine⟨_,rfl,_,1,rfl,by omega,by omega,?_⟩
  exact⟨_,rfl,_,1,rfl,by omega,by omega,_,_,rfl,r⟩
 ·rintro σ H2 ⟨y,u,rfl,r⟩
  refine st ?_
  refine⟨_,rfl,A,rfl,⟨_,aF.of (r _ _ I)⟩,?_⟩
  refine bN (K:=K) (xs:=ni ns) (λi σ H'=>∃D:Option V,σ=[some (.ref z),some (.ref A),some (.ref d),y,u,D,none]/\ah H H') ⟨none,rfl,r⟩ (λi σ H' _ ⟨_,_,s⟩=>aF.of (s _ _ I)) ?_ ?_
  ·rintro i x σ H3 G ⟨D,rfl,B⟩
   obtain⟨j,S,rfl⟩:=fT G
   obtain⟨X,N⟩:=m j (L9 S)
   refine gn ?_
   exact⟨_,rfl,_,1,rfl,by omega,by omega,_,rfl,B⟩
  ·rintro σ H3 ⟨D,rfl,B⟩
   have g:=B _ _ hd
   refine⟨d,.dT f,g,trivial,λo=>?_⟩
   refine⟨_,rfl,d,o,.dT f,rfl,ae,trivial,?_⟩
   refine Be (λi σ H'=>∃F:Option V,σ=[some (.ref z),some (.ref A),some (.ref d),y,u,D,F]/\H'=upd H3 d (.frz o (.dT f))) ⟨none,rfl,rfl⟩ (λi σ H' _ ⟨_,_,e⟩=>e▸ae) ?_ ?_
   ·rintro i x v σ H' ⟨k,b,O,rfl,_⟩ hi ⟨F,rfl,rfl⟩
    obtain⟨j,e,N⟩:=n _ (L9 O)
    have e:v=.int (j:Nat):=e
    subst e
    refine gn ?_
    exact⟨_,rfl,_,0,rfl,by omega,by omega,_,rfl,rfl⟩
   ·rintro σ H' ⟨F,rfl,rfl⟩
    exact⟨ae,q _ (B.trans (oC g))⟩
theorem yo (a:aA P w K mg base "check_inside" 2 ["sizes", "spot"] iJ):qW P w K mg base 3 "is_rock" "Floor.is_rock" vT ["self", "spot"] (rX cFloor):=by
 refine rd ["self", "spot"] λf _ _ _ _ _ H vs Q E hr h=>?_
 obtain⟨p,b,g,s,rfl,⟨dx,fs,d,e,j,ra,ta,x⟩,c,hi,q⟩:=h
 refine⟨_,(aN (aO (aH a hr (aC (a9 (aj 0) rfl) (aj 1)))) (ay (GU (uV (bL.one hr) (aj 1) (a9 (aj 0) rfl))))),?_⟩
 refine fZ (aP (af (gC (aa rfl) x.ha T.cl_Floor T.na_Floor_sizes x.f1) (af (aa rfl) ao)) ⟨d,b,g.z,s,rfl,x.z,c,hi,?_⟩)
 exact cU (aY (Ew (aa rfl) (gC (aa rfl) x.ha T.cl_Floor T.na_Floor_rocks x.f4) (rM x.rd c)) (by rw[wD])) q
theorem DI:qW P w K mg base 1 "layer_prices" "Floor.layer_prices" zS ["self"] (pW cFloor):=by
 refine rd ["self"] λc _ _ _ _ _ H vs Q E hr h=>?_
 obtain⟨p,g,rfl,⟨dx,fs,b,a,d,ra,ta,x⟩,q⟩:=h
 refine⟨_,(aE (ay (cK bz T.list_ (az (a9 (aj 0) rfl))))),?_⟩
 obtain⟨as,h1,h2⟩:=x.pr
 exact bR (iC (af (gC (aa rfl) x.ha T.cl_Floor T.na_Floor_prices x.f2) ao) ⟨a,_,rfl,.inl (aF.of h1),λl nl=>q l _ ((ah.refl H).upd nl) nl ⟨as,ae,Paired.mapP h2 λ_ _ e=>((ah.refl H).upd nl) _ _ e⟩⟩)
theorem H_:qW P w K mg base 1 "via_prices" "Floor.via_prices" J5 ["self"] (A7 cFloor):=by
 refine rd ["self"] λd _ _ _ _ _ H vs Q E hr h=>?_
 obtain⟨p,g,rfl,⟨dx,fs,b,c,a,ra,ta,x⟩,q⟩:=h
 refine⟨_,(aE (ay (cK bz T.list_ (az (a9 (aj 0) rfl))))),?_⟩
 exact bR (iC (af (gC (aa rfl) x.ha T.cl_Floor T.na_Floor_vias x.f3) ao) ⟨a,_,rfl,.inl (aF.of x.vi),λl nl=>q l _ ((ah.refl H).upd nl) nl ae⟩)
theorem A_:qW P w K mg base 1 "rocks_told" "Floor.rocks_told" Bs ["self"] (ql cFloor):=by
 refine rd ["self"] λm _ _ _ _ _ H vs Q E hr h=>?_
 obtain⟨p,g,rfl,⟨dx,fs,f,j,n,ra,ta,x⟩,d,mo,q⟩:=h
 refine⟨_,(aE (ay (br (eQ rfl) T.sorted_ (az (a9 (aj 0) rfl))))),?_⟩
 refine bR (iC (af (gC (aa rfl) x.ha T.cl_Floor T.na_Floor_rocks x.f4) ao) ⟨ra,_,g.rs.map t3,rfl,x.rd,?_,rB _,by rw[LK];exact d,mo,λl bs ds nl c a e=>?_⟩)
 ·unfold iH;rw[LV,LV];rfl
 obtain⟨ss,rfl,b⟩:=mM a e
 have s:=(ah.refl H).upd (o:=.lst (bs.map V.ref)) nl
 exact q l ss _ s nl ⟨bs,ae,aX.same c s⟩ b
theorem Ac:qW P w K mg base 1 "tolls_told" "Floor.tolls_told" AG ["self"] (qd cFloor):=by
 refine rd ["self"] λM _ _ _ _ _ H vs Q E hr h=>?_
 obtain⟨p,g,rfl,⟨dx,fs,J,O,N,ra,ta,x⟩,I,mo,q⟩:=h
 refine⟨_,(aE (ay (eI ["spot"] ["self"] [0] (aD (br (eQ rfl) T.sorted_ (az (a9 (aj 0) rfl)))) (cv 0) (mD (bB f_ (gV (by exact(bL.one hr)) (lP (K:=K) rfl (aj 1) rfl) (aj 0) (λ_ _=>rfl)) ag)) (bZ (aC (aj 0) (gV (by exact(bL.one hr)) (lP (K:=K) rfl (aj 1) rfl) (aj 0) (λ_ _=>rfl))))))),?_⟩
 have n:(g.ts.map (·.1)).length<=1000:=by rw[LK];exact I
 refine⟨_,rfl,p,cFloor,dx,fs,_,rfl,x.ha,T.cl_Floor,T.na_Floor_tolls,x.f5,ta,_,(g.ts.map (·.1)).map t3,rfl,x.td,?_,rB _,by rw[LK];exact n,mo,λl bs ds nl C A z=>?_⟩
 ·unfold j7;rw[LV,LV,LV];rfl
 obtain⟨ss,rfl,m⟩:=mM A z
 have j:=(ah.refl H).upd (o:=.lst (bs.map V.ref)) nl
 have a:upd H l (.lst (bs.map V.ref)) l=some (.lst (bs.map V.ref)):=ae
 have f:=aX.same C j
 revert j a f
 generalize upd H l (.lst (bs.map V.ref))=H1
 intro j a f
 have R:bs.length<=1000:=by rw[Paired.length f,LK,m.1.length_eq];exact n
 refine⟨l,rfl,⟨_,aF.of a⟩,λD y=>?_⟩
 refine se (K:=K) (λc=>decide (zE g.ts c≠0)) (λc=>zE g.ts c) [some (.ref p)] y (λH' s=>aF.of (s _ _ a)) f (by lia) (λb c H' F e s=>?_) λH' qs s G B=>?_
 ·obtain⟨r,hr,rfl⟩:=LN.mp F
  have u:=j.trans s
  have d:=rM (u _ _ x.td) (s _ _ e)
  rw[Jm (m.1.mem_iff.mp hr)] at d
  have get:Ev (wM (yP K (cR 1) "tolls") (cR 0)) [some (.ref b),some (.ref p)] H' (.int (zE g.ts (t3 r))):=iZ (gC (aa rfl) (u _ _ x.ha) T.cl_Floor T.na_Floor_tolls x.f5) (aa rfl) d
  refine⟨cH (aB (iz get ar)) ?_,λ_=>get⟩
  by_cases h0:zE g.ts (t3 r)=0<;>simp[h0]
 ·exact q D ss H' (j.trans s) (da j y) ⟨qs,G,B⟩ m
theorem DJ(F:zq K "__init__" "Floor.__init__" gM f fd)(ce:aA P w K mg base "check_sizes" 1 ["sizes", "prices", "vias"] nh)(cd:aA P w K mg base "check_prices" 2 ["prices", "vias", "tolls"] kM)(cc:aA P w K mg base "check_inside" 2 ["sizes", "spot"] iJ):fz P w K mg base n8 3 f fd ["self", "sizes", "prices", "vias", "rocks", "tolls"] (lY cFloor):=by
 have sc:fE ["self", "sizes", "prices", "vias", "rocks", "tolls", "told_rocks", "told_tolls", "spot"] ["self", "sizes", "prices", "vias", "rocks", "tolls"] (aM gM):=⟨rfl,rfl,rfl,by decide+kernel,rfl,by decide+kernel,by decide+kernel⟩
 have nd:=sc.nd
 refine F.ok sc (λvs H Q E h=>by first|(cases h;subst_vars;rfl)|repeat (first|(obtain⟨rfl,_⟩:=h;rfl)|(obtain⟨_,h⟩:=h))) (λfi A d5 s H vs Q E hr h=>?_)
 obtain⟨p,dx,z,pr,vi,ro,td,g,rs,rfl,hp,hg,b7,bm,a6,hz,B,C,ac,J,q⟩:=h
 refine⟨_,(ai (bc 6 nd (fw (bB fN (aj 4) b_) (bg dj) (aj 4))) (ai (bc 7 nd (fw (bB fN (aj 5) b_) gx (aj 5))) (ai (aO (aH ce hr (aw (aj 1) (aC (aj 2) (aj 3))))) (ai (aO (aH cd hr (aw (aj 2) (aC (aj 3) (aj 7))))) (ai (dH (aD (aj 6)) (aT 8 nd) (aE (aO (aH cc hr (aC (aj 1) (aj 8)))))) (ai (Ad (dH (E4 (aj 7)) (aT 8 nd) (aE (aO (aH cc hr (aC (aj 1) (aj 8))))))) (ai (fb (aj 0) (aj 1) rfl) (ai (fb (aj 0) (eI ["ahead", "across"] [] [] (aD (aj 2)) (fG (K:=K) (n:=2) rfl rfl (aq (cv 0) (aq (cv 1) bq)) rfl rfl) bj (bZ (aC (aj 0) (aj 1)))) rfl) (ai (fb (aj 0) (cK bz T.list_ (az (aj 3))) rfl) (aN (fb (aj 0) (cK (fW rfl hr) T.dict_ (az (eI ["spot"] [] [] (aD (aj 6)) (cv 0) bj (bZ (aC (aj 0) c_))))) rfl) (fb (aj 0) (cK yI T.dict_ (az (aj 7))) rfl))))))))))),?_⟩
 have ca:sizeLine=2^24:=rfl
 refine xK (λv H1=>v=.ref ro/\H=H1) (λQ' hQ=>Kg (cH (aB (qk (aa rfl) ar)) (by rfl)) ⟨_,rfl,hQ _ _ ⟨rfl,rfl⟩⟩) ?_
 rintro _ _ ⟨rfl,rfl⟩
 refine xK (λv H1=>v=.ref td/\H=H1) (λQ' hQ=>Kg (cH (aB (qk (aa rfl) ar)) (by rfl)) ⟨_,rfl,hQ _ _ ⟨rfl,rfl⟩⟩) ?_
 rintro _ _ ⟨rfl,rfl⟩
 obtain⟨ps,h3,h4⟩:=B
 have B:lH H pr g.ps:=⟨ps,h3,h4⟩
 refine fZ (aP (af (aa rfl) (af (aa rfl) (af (aa rfl) ao))) ⟨z,pr,vi,g.z,_,_,rfl,hz,hg.z,h3,by rw[LK,Paired.length h4];exact hg.pl,C,by rw[LK];exact hg.vl,λH3 s3=>?_⟩)
 refine fZ (aP (af (aa rfl) (af (aa rfl) (af (aa rfl) ao))) ⟨pr,vi,td,g.ps,g.vs,_,rfl,B.up (λ_ e=>s3 _ _ e) (λ_ _ e=>s3 _ _ e),hg.pp,s3 _ _ C,hg.vv,s3 _ _ J,?_,λH4 dP=>?_⟩)
 ·intro x hx
  obtain⟨y,hy,rfl⟩:=LN.mp hx
  exact⟨_,rfl,(hg.ti y hy).2⟩
 have s4:=s3.trans dP
 have M:=s4 _ _ J
 obtain⟨as,G,a7⟩:=ac.same s4
 refine⟨_,rfl,ro,rfl,⟨_,aF.of G⟩,?_⟩
 refine bN (K:=K) (xs:=as.map V.ref) (λi σ H'=>∃x8:Option V,σ=[some (.ref p),some (.ref z),some (.ref pr),some (.ref vi),some (.ref ro),some (.ref td),some (.ref ro),some (.ref td),x8]/\H4=H') ⟨none,rfl,rfl⟩ (λi σ H' _ ⟨_,_,e⟩=>e▸aF.of G) ?_ ?_
 ·rintro i x σ H' hx ⟨x8,rfl,rfl⟩
  obtain⟨a,ha,rfl⟩:=dR hx
  obtain⟨c,hc,r⟩:=fj a7 ha
  obtain⟨n,hn,rfl⟩:=LN.mp (L9 hc)
  refine gn ?_
  exact⟨_,rfl,_,rfl,z,a,g.z,n,rfl,s4 _ _ hz,r,bm n hn,_,rfl,rfl⟩
 rintro σ H' ⟨x8,rfl,rfl⟩
 refine st ?_
 refine⟨td,.dT (j7 g.ts),M,trivial,λo=>?_⟩
 refine⟨_,rfl,td,o,.dT (j7 g.ts),rfl,ae,trivial,?_⟩
 have a3:z≠td:=cQ (s4 _ _ hz) M (λz=>nomatch z)
 refine Bq (λi σ H'=>∃x8:Option V,σ=[some (.ref p),some (.ref z),some (.ref pr),some (.ref vi),some (.ref ro),some (.ref td),some (.ref ro),some (.ref td),x8]/\H'=upd H4 td (.frz o (.dT (j7 g.ts)))) ⟨x8,rfl,rfl⟩ (λi σ H' _ ⟨_,_,e⟩=>e▸ae) ?_ ?_
 ·rintro i x v σ H' ⟨k,b,hk,rfl,hb⟩ hi ⟨x8,rfl,rfl⟩
  obtain⟨y,hy,e⟩:=LN.mp (L9 hk)
  have e:(iK (t3 y.1),V.int (y.2:Nat))=(k,v):=e
  cases e
  have hb:upd H4 td (.frz o (.dT (j7 g.ts))) b=some (.tup ((t3 y.1).map V.int)):=by
   have:=hb
   unfold iK at this
   rw[gK] at this
   exact this
  refine gn ?_
  exact⟨_,rfl,_,rfl,z,b,g.z,y.1,rfl,(by show upd H4 td _ z=_;rw[ak a3];exact s4 _ _ hz),hb,(hg.ti y hy).1,_,rfl,rfl⟩
 rintro σ H5 ⟨x8,rfl,rfl⟩
 refine⟨ae,?_⟩
 generalize e5:upd (upd H4 td (.frz o (.dT (j7 g.ts)))) td (.dT (j7 g.ts))=H5
 have s5:ah H H5:=s4.trans (e5▸oC M)
 have d:=s5 _ _ hp
 have be:=s5 _ _ J
 have bn:A3 H5 z g.z:=s5 _ _ hz
 have ap:=s5 _ _ C
 have bv:=ac.same s5
 have an:lH H5 pr g.ps:=B.up (λ_ e=>s5 _ _ e) (λ_ _ e=>s5 _ _ e)
 refine st ?_
 refine⟨_,rfl,_,rfl,p,cFloor,dx,[],rfl,d,T.cl_Floor,T.na_Floor_sizes,(by decide),?_⟩
 rw[LH]
 generalize e6:upd H5 p (.ins cFloor dx [("sizes",.ref z)])=H6
 have b6:bU H5 H6 p:=e6▸(bU.of (ah.refl H5)).up
 have bl:H6 p=some (.ins cFloor dx [("sizes",.ref z)]):=e6▸ae
 obtain⟨a0,k6,t6⟩:=an.bp b6 d
 refine st ?_
 refine⟨_,rfl,pr,rfl,⟨_,aF.of k6⟩,λD nD=>?_⟩
 refine cL (K:=K) (xs:=a0.map V.ref) (λi τ H'=>∃(x0 x1:Option V) (us:List Addr),τ=[x0,x1]/\ah H6 H'/\H' D=some (.lst (us.map V.ref))/\Paired (P2 H') us (g.ps.take i)/\us.length=i) ⟨none,none,[],rfl,(ah.refl H6).upd nD,ae,.nil,rfl⟩ (λi τ H' _ ⟨_,_,_,_,s,_⟩=>aF.of (s _ _ k6)) ?_ ?_
 ·rintro i x τ H' hx ⟨x0,x1,us,rfl,s,hD,a2,b3⟩
  obtain⟨a,ha,rfl⟩:=dR hx
  obtain⟨c,hc,r⟩:=ba t6 ha
  have hi:i<g.ps.length:=(Mo.mp hc).1
  have b9:=hg.pl
  have:=hg.z.1
  refine⟨a,_,rfl,bW.of (s _ _ r),rfl,?_⟩
  refine⟨_,_,rfl,gn ?_⟩
  refine⟨_,_,rfl,gn ?_⟩
  refine⟨rfl,?_⟩
  refine dQ ?_
  refine⟨_,rfl,_,rfl,(by show 2<=sizeLine;decide),λt nt=>?_⟩
  have j:t≠D:=L8 (ax hD nt)
  refine⟨us.map V.ref,(by rw[ak (L8 j)];exact hD),by rw[LK];omega,_,_,us++[t],rfl,bK (s.upd nt) nD,by rw[ae,LQ];rfl,?_,by simp[b3]⟩
  rw[bh hc]
  refine cI (R:=P2 _) ?_ (Paired.mapP a2 λa c (e:H' a=some (.tup _))=>fo hD nt _ _ e)
  unfold P2;rw[ak j,ae]
 rintro τ H7 ⟨x0,x1,us,rfl,s7,a4,Y,_⟩
 rw[LK,Paired.length t6,Mc] at Y
 have ad:lH H7 D g.ps:=⟨us,a4,Y⟩
 have ab:=s7 _ _ bl
 refine⟨_,rfl,p,cFloor,dx,_,rfl,ab,T.cl_Floor,T.na_Floor_prices,(by simp),?_⟩
 rw[LA]
 generalize e8:upd H7 p (.ins cFloor dx [("sizes",.ref z),("prices",.ref D)])=H8
 have b8:bU H7 H8 p:=e8▸(bU.of (ah.refl H7)).up
 have b4:H8 p=some (.ins cFloor dx [("sizes",.ref z),("prices",.ref D)]):=e8▸ae
 have O:bU H5 H8 p:=e8▸(b6.st s7).up
 refine st ?_
 refine⟨_,rfl,vi,_,rfl,.inl (aF.of (gr O d (λz=>nomatch z) ap)),λl nl=>?_⟩
 generalize e9:upd H8 l (.lst (ni g.vs))=H9
 have s9:ah H8 H9:=e9▸(ah.refl H8).upd nl
 have bb:H9 l=some (.lst (ni g.vs)):=e9▸ae
 have U:=s9 _ _ b4
 refine⟨_,rfl,p,cFloor,dx,_,rfl,U,T.cl_Floor,T.na_Floor_vias,(by simp),?_⟩
 rw[LG]
 generalize eA:upd H9 p (.ins cFloor dx [("sizes",.ref z),("prices",.ref D),("vias",.ref l)])=HA
 have bA:bU H9 HA p:=eA▸(bU.of (ah.refl H9)).up
 have b1:HA p=some (.ins cFloor dx [("sizes",.ref z),("prices",.ref D),("vias",.ref l)]):=eA▸ae
 have X:bU H5 HA p:=eA▸(O.st s9).up
 have bd:bU H7 HA p:=eA▸(b8.st s9).up
 obtain⟨N,kA,tA⟩:=bv.bp X d
 have am:N.length=rs.length:=by rw[Paired.length tA,LK]
 refine st ?_
 refine⟨_,rfl,ro,rfl,⟨_,aF.of kA⟩,λD2 dm=>?_⟩
 refine cL (K:=K) (xs:=N.map V.ref) (λi τ H'=>∃(x0:Option V) (es:List Addr),τ=[x0]/\ah HA H'/\H' D2=some (.lst (es.map V.ref))/\zF H' es (iH (rs.take i))/\es.length=i) ⟨none,[],rfl,(ah.refl HA).upd dm,ae,.nil,rfl⟩ (λi τ H' _ ⟨_,_,_,s,_⟩=>aF.of (s _ _ kA)) ?_ ?_
 ·rintro i x τ H' hx ⟨x0,es,rfl,s,hD,u,W⟩
  obtain⟨a,ha,rfl⟩:=dR hx
  obtain⟨c,hc,r⟩:=fj tA ha
  rw[L7] at hc
  obtain⟨n,hn,rfl⟩:=MY.mp hc
  have hi:i<N.length:=(Mo.mp ha).1
  refine gn (dQ ?_)
  refine⟨_,rfl,(by show 2<=sizeLine;decide),λt nt=>?_⟩
  have j:t≠D2:=L8 (ax hD nt)
  refine⟨es.map V.ref,(by rw[ak (L8 j)];exact hD),by rw[LK];omega,_,es++[t],rfl,bK (s.upd nt) dm,by rw[ae,LQ];rfl,?_,by simp[W]⟩
  rw[bh hn]
  unfold iH
  rw[LQ]
  exact FZ (zF.mono u (fo hD nt)) (.cons ⟨a,by rw[ak j,ae],fo hD nt _ _ (j5 (s _ _ r))⟩ .nil)
 rintro τ HB ⟨b5,es,rfl,sB,b0,u,W⟩
 rw[LK,am,Mc] at u
 refine⟨D2,es,iH rs,rfl,b0,u,λrd dV=>?_⟩
 rw[a6]
 generalize eC:upd HB rd (.dT (iH g.rs))=HC
 have sC:ah HA HC:=sB.trans (eC▸(ah.refl HB).upd dV)
 have av:HC rd=some (.dT (iH g.rs)):=eC▸ae
 have Z:=sC _ _ b1
 refine⟨_,rfl,p,cFloor,dx,_,rfl,Z,T.cl_Floor,T.na_Floor_rocks,(by simp),?_⟩
 rw[Lz]
 generalize eD:upd HC p (.ins cFloor dx [("sizes",.ref z),("prices",.ref D),("vias",.ref l),("rocks",.ref rd)])=HD
 have bD:bU HC HD p:=eD▸(bU.of (ah.refl HC)).up
 have a1:HD p=some (.ins cFloor dx [("sizes",.ref z),("prices",.ref D),("vias",.ref l),("rocks",.ref rd)]):=eD▸ae
 have I:bU H5 HD p:=eD▸(X.st sC).up
 have bi:bU H7 HD p:=eD▸(bd.st sC).up
 have bt:bU H9 HD p:=eD▸(bA.st sC).up
 refine⟨_,rfl,td,rfl,.inr ⟨_,.inl (gr I d (λz=>nomatch z) be),Ee hg,λt nt=>?_⟩⟩
 generalize eE:upd HD t (.dT (j7 g.ts))=HE
 have sE:ah HD HE:=eE▸(ah.refl HD).upd nt
 have a5:HE t=some (.dT (j7 g.ts)):=eE▸ae
 have S:=sE _ _ a1
 refine⟨_,rfl,p,cFloor,dx,_,rfl,S,T.cl_Floor,T.na_Floor_tolls,(by simp),?_⟩
 rw[Lx]
 refine q _ ((bU.of s5).tr (I.st sE).up) ⟨dx,_,z,D,l,rd,t,⟨ae,by kernel_rfl,by kernel_rfl,by kernel_rfl,by kernel_rfl,by kernel_rfl,?_,?_,?_,?_,?_,?_⟩⟩
 ·intro m hm
  simp only[Do,LS,Md,or_false] at hm
  rcases hm with rfl|rfl|rfl|rfl|rfl<;>kernel_rfl
 ·exact gr (I.st sE).up d (λz=>nomatch z) bn
 ·exact ad.bp (bi.st sE).up ab
 ·exact gr (bt.st sE).up U (λz=>nomatch z) bb
 ·exact gr (bD.st sE).up Z (λz=>nomatch z) av
 ·exact gr ((bU.of (ah.refl HE)).up) S (λz=>nomatch z) a5
theorem Eh:eO P w K mg base 1 "is_name" Ga ["name"] CZ:=by
 refine rd ["name"] λA _ _ _ _ _ H vs Q E hr h=>?_
 obtain⟨x,rfl,p,q⟩:=h
 refine⟨_,(aN (bM (eL (cg (d_ dv dv ag (br jX T.len_ (az (aj 0))) (cY (by rfl) (by exact T.g_MOST_SIGNS)))) (dN (gI jC (aR u7 (aj 0) ag) (cY (by rfl) (by exact T.g_LETTERS)) (by with_unfolding_all rfl)))).pt (ay c_)) (ay (br (AC rfl) T.all_ (az (eI ["sign"] [] [] (BJ (aj 0)) (cv 0) bj (J7 (lV pj (aj 0) (cY (by rfl) (by exact T.g_LETTERS)) (by with_unfolding_all rfl)) (h9 (lV pj (aj 0) (cY (by rfl) (by exact T.g_FIGURES)) (by with_unfolding_all rfl))))))))),?_⟩
 have l:sizeLine=2^24:=rfl
 have g:=p.2
 by_cases hn:1<=x.length/\x.length<=12
 ·obtain⟨c,r,f⟩:=Fz hn.1
  refine eX (b:=!decide (c∈h8)) (IC (fh (cH (aB (cP ar (pP (aa rfl) (by lia)) ar)) ?_)) (aB (pA (qx (c:=c) (aa rfl) ar (by lia) (by rw[f];exact bS (j:=0) rfl)) ar))) (λe=>?_) (λe=>?_)
  ·rw[decide_eq_true (by lia),decide_eq_true (by lia)];rfl
  ·have m:=q H (ah.refl H)
   rw[tI f hn.2,show decide (c∈h8)=false by simpa using e] at m
   exact cU ar m
  have s:decide (c∈h8)=true:=by simpa using e
  refine⟨_,rfl,x,rfl,p.1,λD y=>?_⟩
  refine Dm (λi o H'=>∃n:Option V,o=[n]/\H'=upd H D (.lst ((((cp x).take i).map fS).map V.bl))) ⟨none,rfl,rfl⟩ ?_ ?_
  ·rintro i d o H2 hd ⟨n,rfl,rfl⟩
   refine gn (dQ ?_)
   refine(Jk (CW (c:=d) (aa rfl) ar) λ_=>CW (c:=d) (aa rfl) ar) _ ⟨_,ae,by rw[LK,LK,Mg,cu];lia,_,rfl,?_⟩
   rw[gU,bh hd,LQ,LQ];rfl
  ·rintro o H2 ⟨n,rfl,rfl⟩
   refine⟨D,((cp x).take x.length).map fS,rfl,aF.of ae,?_⟩
   have m:=q (upd H D (.lst ((((cp x).take x.length).map fS).map V.bl))) ((ah.refl H).upd y)
   rw[tI f hn.2,s] at m
   have u:(((cp x).take x.length).map fS).all id=(cp x).all fS:=by rw[<-cu,Mc,List.all_map];rfl
   rw[u]
   exact m
 ·have m:=q H (ah.refl H)
  rw[zy hn] at m
  refine eX (b:=true) (cH (fR (a:=true) (b:=true) (cH (jo (aB (cP ar (pP (aa rfl) (by lia)) ar))) ?_) λz=>nomatch z) rfl) (λ_=>cU ar m) (λz=>nomatch z)
  by_cases h1:1<=x.length
  ·rw[decide_eq_true (by lia),decide_eq_false (by lia)];rfl
  ·rw[decide_eq_false (by lia)];rfl
theorem yD (n:K.In base):eO P w K mg base 1 "check_unlike" wt ["spots"] mR:=by
 refine rd ["spots"] λd _ _ _ _ _ H vs Q E hr h=>?_
 obtain⟨l,ps,rfl,⟨as,c,g⟩,m,d,b,q⟩:=h
 refine⟨_,(aE (bM (bB f_ (br u3 T.len_ (az (cK (yQ rfl hr) T.set_ (az (aj 0))))) (br aU T.len_ (az (aj 0)))) cw)),?_⟩
 have len:as.length=(ps.map t3).length:=Paired.length g
 have a:(ps.map t3).length<=18:=by rw[LK];exact b
 refine ox ⟨_,rfl,l,as,ps.map t3,rfl,aF.of c,g,a,CN m d,λp j=>⟨p,(ps.map t3).length,rfl,ae,by lia,_,rfl,_,_,rfl,.inl ⟨_,aF.of (by rw[ak (ax c j)];exact c),rfl⟩,rfl,_,rfl,?_⟩⟩
 have e:(!decide (V.int ((ps.map t3).length:Nat)=V.int ((as.map V.ref).length:Nat)))=false:=by
  rw[LK (f:=V.ref),len];simp
 rw[e]
 exact eF (q _ ((ah.refl H).upd j))
theorem Bo(F:Gu K "__init__" "Thing.__init__" km f fd)(y:K.In base)(cJ:aA P w K mg base "is_name" 1 ["name"] CZ):fz P w K mg base n8 2 f fd ["self", "name", "half", "room"] (lR cNet cBundle):=by
 have j:fE ["self", "name", "half", "room"] ["self", "name", "half", "room"] (aM km):=⟨rfl,rfl,rfl,by decide+kernel,rfl,by decide+kernel,by decide+kernel⟩
 have D:=j.nd
 refine F.ok j (λvs H Q E h=>by first|(cases h;subst_vars;rfl)|repeat (first|(obtain⟨rfl,_⟩:=h;rfl)|(obtain⟨_,h⟩:=h))) (λu A g s H vs Q E hr h=>?_)
 obtain⟨p,C,dx,x,z,B,rfl,l1,G,n,r,m,a,q⟩:=h
 refine⟨_,(ai (bM (cg (cx (aH cJ hr (az (aj 1))))) cw) (ai (bM (cg (d_ dv dv ag (aj 2) (cY (by rfl) (by exact T.g_MOST_HALF)))) cw) (ai (bM (cg (d_ dv dv ag (aj 3) (cY (by rfl) (by exact T.g_MOST_ROOM)))) cw) (ai (fb (aj 0) (aj 1) rfl) (aN (fb (aj 0) (aj 2) rfl) (fb (aj 0) (aj 3) rfl)))))),?_⟩
 have c:j6 K C/\bC K C "name" /\bC K C "half" /\bC K C "room" :=by rcases r with rfl|rfl<;>first|exact⟨T.cl_Net,T.na_Net_name,T.na_Net_half,T.na_Net_room⟩|exact⟨T.cl_Bundle,T.na_Bundle_name,T.na_Bundle_half,T.na_Bundle_room⟩
 refine qf ⟨_,rfl,x,rfl,m,λH1 l=>?_⟩
 rw[a]
 refine⟨_,rfl,?_⟩
 refine eF ?_
 refine c9 (fh (cH (aB (cP ar (aa rfl) ar)) (by rw[decide_eq_true (by lia),decide_eq_true (by lia)];rfl))) rfl ?_
 refine c9 (fh (cH (aB (cP ar (aa rfl) ar)) (by rw[decide_eq_true (by lia),decide_eq_true (by lia)];rfl))) rfl ?_
 refine⟨_,rfl,_,rfl,p,C,dx,[],rfl,l _ _ n,c.1,c.2.1,(by decide),?_⟩
 refine⟨_,rfl,_,rfl,p,C,dx,_,rfl,ae,c.1,c.2.2.1,N4 (bH _ _ _) (by decide),?_⟩
 refine⟨_,rfl,_,rfl,p,C,dx,_,rfl,ae,c.1,c.2.2.2,N4 (LR (bH _ _ _) (NG (bH _ _ _))) (by decide),?_⟩
 refine q _ _ (λb o d e=>?_) ae ⟨LR (LR (bH _ _ _) (NG (LR (bH _ _ _) (NG (bH _ _ _))))) (by decide),?_,?_,?_,?_⟩ (LR (bH _ _ _) (NG (LR (bH _ _ _) (NG (bH _ _ _)))))
 ·rw[ak d,ak d,ak d];exact l _ _ e
 ·rw[aK,if_neg (by decide+kernel),aK,if_neg (by decide+kernel),aK,if_pos rfl]
 ·rw[aK,if_neg (by decide+kernel),aK,if_pos rfl]
 ·rw[aK,if_pos rfl]
 ·rw[aK,if_neg (by decide+kernel),aK,if_neg (by decide+kernel),aK,if_neg (by decide+kernel)];rfl
theorem Dc(F:zq K "__init__" "Net.__init__" eJ f fd)(Z:K.In base)(e:aA P w K mg base "check_unlike" 1 ["spots"] mR)(g:iV P w K mg base cThing "__init__" 2 ["self", "name", "half", "room"] (lR cNet cBundle)):fz P w K mg base n8 3 f fd ["self", "name", "pins", "half", "room"] (jZ cNet):=by
 have z:fE ["self", "name", "pins", "half", "room"] ["self", "name", "pins", "half", "room"] (aM eJ):=⟨rfl,rfl,rfl,by decide+kernel,rfl,by decide+kernel,by decide+kernel⟩
 have y:=z.nd
 refine F.ok z (λvs H Q E h=>by first|(cases h;subst_vars;rfl)|repeat (first|(obtain⟨rfl,_⟩:=h;rfl)|(obtain⟨_,h⟩:=h))) (λJ A n s H vs Q E hr h=>?_)
 obtain⟨p,dx,l,x,G,O,ps,rfl,R,S,B,W,M,y,Y,X,C,d,q⟩:=h
 refine⟨_,(ai (aO (xt (iA (by rfl) T.mg_Thing) g (hr.mono (by decide)) (aw (aj 0) (aw (aj 1) (aC (aj 3) (aj 4)))))) (ai (bM (cg (d_ dv dv ag (br aU T.len_ (az (aj 2))) (cY (by rfl) (by exact T.g_MOST_PINS)))) cw) (aN (aO (aH e hr (az (aj 2)))) (fb (aj 0) (cK cG T.tuple_ (az (aj 2))) rfl)))),?_⟩
 refine⟨_,rfl,_,rfl,_,rfl,_,rfl,p,cNet,dx,x,G,O,rfl,R,S,B,.inl rfl,C,d,λH1 fs r m bs I=>?_⟩
 have N:=W.bp r B
 obtain⟨as,a,b⟩:=N
 have len:as.length=ps.length:=by rw[Paired.length b,LK]
 refine st ?_
 refine c9 (fh (cH (aB (cP ar (de (af (aa rfl) ao) λQ' U=>⟨_,_,rfl,.inl ⟨_,aF.of a,rfl⟩,U⟩) ar)) ?_)) rfl ?_
 ·rw[LK,decide_eq_true (by lia),decide_eq_true (by lia)];rfl
 refine⟨_,rfl,l,ps,rfl,⟨as,a,b⟩,M,y,by lia,λH2 j=>?_⟩
 refine⟨_,rfl,l,_,rfl,.inl ⟨aF.of (j _ _ a),λt o=>?_⟩⟩
 have tt:=uA (l:=l) o (aX.same b j)
 generalize D:upd H2 t (.tup (as.map V.ref))=H3 at tt
 have u:ah H1 H3:=j.trans (D▸(ah.refl H2).upd o)
 have c:=u _ _ m
 refine⟨_,rfl,p,cNet,dx,fs,rfl,c,T.cl_Net,T.na_Net_pins,by have:=bs.few;lia,?_⟩
 exact q _ (r.st u).up ⟨dx,_,t,ae,bs.put (by lia) (by decide+kernel) (by decide+kernel) (by decide+kernel) (by decide+kernel),by rw[aK,if_pos rfl],Aa tt (bU.of (ah.refl H3)).up c⟩
theorem BW(F:zq K "__init__" "Bundle.__init__" fA f fd)(hB:K.In base)(M:aA P w K mg base "check_unlike" 1 ["spots"] mR)(N:iV P w K mg base cThing "__init__" 2 ["self", "name", "half", "room"] (lR cNet cBundle)):fz P w K mg base n8 3 f fd ["self", "name", "starts", "goals", "room"] (ju cBundle):=by
 have sc:fE ["self", "name", "starts", "goals", "room"] ["self", "name", "starts", "goals", "room"] (aM fA):=⟨rfl,rfl,rfl,by decide+kernel,rfl,by decide+kernel,by decide+kernel⟩
 have nd:=sc.nd
 refine F.ok sc (λvs H Q E h=>by first|(cases h;subst_vars;rfl)|repeat (first|(obtain⟨rfl,_⟩:=h;rfl)|(obtain⟨_,h⟩:=h))) (λa6 A ab s H vs Q E hr h=>?_)
 obtain⟨p,dx,l,m,x,ro,ps,qs,rfl,g2,Z,hl,hm,h7,nd,l1,l6,lg,I,hA,C,q⟩:=h
 refine⟨_,(ai (aO (xt (iA (by rfl) T.mg_Thing) N (hr.mono (by decide)) (aw (aj 0) (aw (aj 1) (aC ag (aj 4)))))) (ai (bM (cg (d_ dv dv ag (br aU T.len_ (az (aj 2))) (cY (by rfl) (by exact T.g_MOST_STARTS)))) cw) (ai (bM (cg (d_ dv dv (br aU T.len_ (az (aj 2))) (br aU T.len_ (az (aj 3))) (cY (by rfl) (by exact T.g_MOST_GOALS)))) cw) (ai (aO (aH M hr (az (au dk (aj 2) (aj 3))))) (aN (fb (aj 0) (cK cG T.tuple_ (az (aj 2))) rfl) (fb (aj 0) (cK cG T.tuple_ (az (aj 3))) rfl)))))),?_⟩
 have J:sizeLine=2^24:=rfl
 refine⟨_,rfl,_,rfl,_,rfl,p,cBundle,dx,x,0,ro,rfl,L0 _,g2,Z,.inr rfl,hA,C,λH1 fs X O S bt=>?_⟩
 have a1:=hl.bp X Z
 have a2:=hm.bp X Z
 obtain⟨as,a,j⟩:=a1
 obtain⟨bs,n,g⟩:=a2
 have len:as.length=ps.length:=by rw[Paired.length j,LK]
 have G:bs.length=qs.length:=by rw[Paired.length g,LK]
 refine st ?_
 refine c9 (fh (cH (aB (cP ar (de (af (aa rfl) ao) λQ' U=>⟨_,_,rfl,.inl ⟨_,aF.of a,rfl⟩,U⟩) ar)) ?_)) rfl ?_
 ·rw[LK,decide_eq_true (by lia),decide_eq_true (by lia)];rfl
 refine c9 (fh (cH (aB (cP (de (af (aa rfl) ao) λQ' U=>⟨_,_,rfl,.inl ⟨_,aF.of a,rfl⟩,U⟩) (de (af (aa rfl) ao) λQ' U=>⟨_,_,rfl,.inl ⟨_,aF.of n,rfl⟩,U⟩) ar)) ?_)) rfl ?_
 ·rw[LK,LK,decide_eq_true (by lia),decide_eq_true (by lia)];rfl
 refine⟨_,rfl,_,rfl,l,m,_,_,rfl,rfl,a,n,by rw[LK,LK];lia,λc nc=>?_⟩
 have s2:ah H1 (upd H1 c (.lst (as.map V.ref++bs.map V.ref))):=(ah.refl H1).upd nc
 refine⟨c,ps++qs,rfl,⟨as++bs,by rw[ae,LQ],by rw[LQ];exact aX.same (dX j g) s2⟩,h7,nd,by rw[LP];lia,λH2 s3=>?_⟩
 have d:=s2.trans s3
 refine⟨_,rfl,l,_,rfl,.inl ⟨aF.of (d _ _ a),λt nt=>?_⟩⟩
 have tt:=uA (l:=l) nt (aX.same j d)
 generalize e3:upd H2 t (.tup (as.map V.ref))=H3 at tt
 have r:ah H1 H3:=d.trans (e3▸(ah.refl H2).upd nt)
 have y:=r _ _ O
 refine⟨_,rfl,p,cBundle,dx,fs,rfl,y,T.cl_Bundle,T.na_Bundle_starts,by have:=S.few;lia,?_⟩
 have D:=bH "starts" (.ref t) fs
 generalize Y:upd H3 p (.ins cBundle dx (eW "starts" (.ref t) fs))=R
 have b4:bU H3 R p:=Y▸(bU.of (ah.refl H3)).up
 have b:bU H1 R p:=Y▸(bU.of r).up
 have B:R p=some (.ins cBundle dx (eW "starts" (.ref t) fs)):=Y▸ae
 refine⟨_,rfl,m,_,rfl,.inl ⟨aF.of (gr b O (λz=>nomatch z) n),λu nu=>?_⟩⟩
 have tu:=uA (l:=m) (ps:=qs) nu (cA g λ_ _ e=>gr b O (λz=>nomatch z) e)
 generalize e5:upd R u (.tup (bs.map V.ref))=H5 at tu
 have W:ah R H5:=e5▸(ah.refl R).upd nu
 have o:=W _ _ B
 refine⟨_,rfl,p,cBundle,dx,_,rfl,o,T.cl_Bundle,T.na_Bundle_goals,by lia,?_⟩
 exact q _ (X.tr (b.st W).up) ⟨dx,_,t,u,ae,(S.put (by lia) (by decide+kernel) (by decide+kernel) (by decide+kernel) (by decide+kernel)).put (by lia) (by decide+kernel) (by decide+kernel) (by decide+kernel) (by decide+kernel),by rw[aK,if_neg (by decide+kernel),aK,if_pos rfl],by rw[aK,if_pos rfl],Aa tt (b4.st W).up y,Aa tu (bU.of (ah.refl H5)).up o⟩
theorem BK:qW P w K mg base 1 "ends" "Net.ends" Di ["self"] (lJ cNet):=by
 refine rd ["self"] λf _ _ _ _ _ H vs Q E hr h=>?_
 obtain⟨p,x,e,g,ps,rfl,⟨dx,fs,t,b,_,a,as,d,c⟩,q⟩:=h
 refine⟨_,(aE (ay (cK bz T.list_ (az (a9 (aj 0) rfl))))),?_⟩
 exact bR ((bQ (aa rfl) b T.cl_Net T.na_Net_pins a) _ ⟨t,_,rfl,.inr (bW.of d),λl nl=>q _ l ((ah.refl H).upd nl) nl ⟨as,ae,aX.same c ((ah.refl H).upd nl)⟩⟩)
theorem BP:qW P w K mg base 1 "ends" "Bundle.ends" Ce ["self"] (lL cBundle):=by
 refine rd ["self"] λo _ _ _ _ _ H vs Q E hr h=>?_
 obtain⟨p,x,r,ps,qs,rfl,⟨dx,fs,t,u,e,_,g,hg,⟨as,j,ha⟩,bs,m,f⟩,n,q⟩:=h
 refine⟨_,(aE (ay (cK bz T.list_ (az (au wb (a9 (aj 0) rfl) (a9 (aj 0) rfl)))))),?_⟩
 have b:sizeLine=2^24:=rfl
 have len:as.length=ps.length:=by rw[Paired.length ha,LK]
 have a:bs.length=qs.length:=by rw[Paired.length f,LK]
 refine bR (qE (dW ((bQ (aa rfl) e T.cl_Bundle T.na_Bundle_starts g) _ ((bQ (aa rfl) e T.cl_Bundle T.na_Bundle_goals hg) _ ⟨t,u,_,_,rfl,rfl,j,m,by rw[LK,LK];lia,λp1 H1 d c=>⟨p1,_,rfl,.inr (bW.of c),λl nl=>?_⟩⟩))))
 exact q _ l (d.upd nl) (da d nl) ⟨as++bs,by rw[ae,LQ],by rw[LQ];exact aX.same (dX ha f) (d.upd nl)⟩
theorem Bw:eO P w K mg base 1 "apart" AQ ["one", "two"] xB:=by
 refine rd ["one", "two"] λf _ _ _ _ _ H vs Q E hr h=>?_
 obtain⟨a,b,p,c,rfl,ha,d,q⟩:=h
 refine⟨_,(aN (bM (bB f_ (aR aI (aj 0) ag) (aR aI (aj 1) ag)) (ay b_)) (ay (br (eM rfl) T.max_ (aC (br jL T.abs_ (az (au dO (aR aI (aj 0) ag) (aR aI (aj 1) ag)))) (br jL T.abs_ (az (au dO (aR aI (aj 0) ag) (aR aI (aj 1) ag)))))))),?_⟩
 refine eX (aB (iz (fP (i:=0) rfl ha rfl) (fP (i:=0) rfl d rfl))) (λe=>?_) (λe=>?_)
 ·rw[if_neg (λz=>by rw[z] at e;simp at e)] at q
  exact q
 ·have g:(p.1:Int)=c.1:=by simpa using e
  rw[if_pos (by lia)] at q
  exact cU (aY (de (af (de (af (aQ (fP (i:=1) rfl ha rfl) (fP (i:=1) rfl d rfl)) ao) λQ' c=>⟨_,rfl,c⟩) (af (de (af (aQ (fP (i:=2) rfl ha rfl) (fP (i:=2) rfl d rfl)) ao) λQ' c=>⟨_,rfl,c⟩) ao)) λQ' c=>⟨_,_,rfl,c⟩) (by rw[Co,Co,zY])) q
theorem DF:eO P w K mg base 1 "reach_of" Ds ["thing", "other"] (xN cNet cBundle):=by
 refine rd ["thing", "other"] λs _ _ _ _ _ H vs Q E hr h=>?_
 obtain⟨p,r,x,r1,y,u,rfl,⟨C,dx,fs,e,m,l1,g⟩,⟨C',b,a,f,l,o,j⟩,q⟩:=h
 refine⟨_,(aE (ay (au aS (au aS (a9 (aj 0) rfl) (a9 (aj 1) rfl)) (br (eM rfl) T.max_ (aC (a9 (aj 0) rfl) (a9 (aj 1) rfl)))))),?_⟩
 have c:j6 K C/\bC K C "half" /\bC K C "room" :=by rcases m with rfl|rfl<;>first|exact⟨T.cl_Net,T.na_Net_half,T.na_Net_room⟩|exact⟨T.cl_Bundle,T.na_Bundle_half,T.na_Bundle_room⟩
 have d:j6 K C'/\bC K C' "half" /\bC K C' "room" :=by rcases l with rfl|rfl<;>first|exact⟨T.cl_Net,T.na_Net_half,T.na_Net_room⟩|exact⟨T.cl_Bundle,T.na_Bundle_half,T.na_Bundle_room⟩
 exact cU (aY (aQ (aQ (bQ (aa rfl) e c.1 c.2.1 l1) (bQ (aa rfl) f d.1 d.2.1 o)) (de (af (bQ (aa rfl) e c.1 c.2.2 g) (af (bQ (aa rfl) f d.1 d.2.2 j) ao)) λQ' n=>⟨_,_,rfl,n⟩)) (by rw[zY];simp only[MK])) q
theorem C1 (c:aA P w K mg base "apart" 1 ["one", "two"] xB)(d:aA P w K mg base "reach_of" 1 ["thing", "other"] (xN cNet cBundle)):eO P w K mg base 2 "clash" C0 ["thing", "spot", "other", "place"] (wW cNet cBundle):=by
 refine rd ["thing", "spot", "other", "place", "distance"] λo _ _ _ _ _ H vs Q E hr h=>?_
 obtain⟨p,a,m,b,u,v,j,r1,l,g,rfl,x,n,ha,r,f,q⟩:=h
 refine⟨_,(aN (bc 4 o (aH c hr (aC (aj 1) (aj 3)))) (ay (gJ (q_ Em (aj 4) b_) (h9 (q_ dv (aj 4) (aH d hr (aC (aj 0) (aj 2)))))))),?_⟩
 refine bJ (aP (af (aa rfl) (af (aa rfl) ao)) ⟨a,b,u,v,rfl,ha,r,?_⟩)
 by_cases e:u.1=v.1
 ·rw[if_pos e]
  refine cU (aY (jf (a:=true) (aY (wk (aa rfl) ar) (by rfl)) λ_=>aQ (aa rfl) (pX (af (aa rfl) (af (aa rfl) ao)) λQ' s=>⟨p,m,j,r1,l,g,rfl,x,n,s⟩)) ?_) q
  unfold gc at f
  rw[decide_eq_true e,Bool.true_and,decide_eq_false_iff_not] at f
  have f:¬(ko u.2.1 v.2.1<=l+j+max g r1/\ko u.2.2 v.2.2<=l+j+max g r1):=f
  rw[decide_eq_false]
  ·rfl
  ·intro z
   have z:=Int.ofNat_le.mp z
   exact f ⟨by lia,by lia⟩
 ·rw[if_neg e]
  exact cU (aY (jf (a:=false) (b:=false) (aY (wk (aa rfl) ar) (by rfl)) λz=>absurd z L6) rfl) q
theorem yV (y:aA P w K mg base "clash" 2 ["thing", "spot", "other", "place"] (wW cNet cBundle)):eO P w K mg base 3 "clash_at_all" xa ["thing", "spots", "other", "places"] (rN cNet cBundle):=by
 refine rd ["thing", "spots", "other", "places", "spot"] λX _ _ _ _ _ H vs Q E hr h=>?_
 obtain⟨p,l,G,m,us,Z,g1,r1,g2,r2,rfl,t1,W,⟨as,S,Y⟩,⟨bs,I,O⟩,lw,U,q⟩:=h
 refine⟨_,(aN (dH (aD (aj 1)) (aT 4 X) (aE (bM (cx (br (nz rfl) T.any_ (az (eI ["place"] ["thing", "spot", "other"] [0,4,2] (aD (aj 3)) (cv 0) bj (aH (by exact y) (by exact hr) (aw (aj 1) (aw (aj 2) (aC (aj 3) (aj 0))))))))) (ay c_)))) (ay c_)),?_⟩
 have r:sizeLine=2^24:=rfl
 have lb:bs.length=Z.length:=by rw[Paired.length O,LK]
 refine⟨_,rfl,l,rfl,⟨_,aF.of S⟩,?_⟩
 refine bN (K:=K) (xs:=as.map V.ref) (λi σ H'=>∃F:Option V,σ=[some (.ref p),some (.ref l),some (.ref G),some (.ref m),F]/\ah H H') ⟨none,rfl,ah.refl H⟩ (λi σ H' _ ⟨_,_,s⟩=>aF.of (s _ _ S)) ?_ ?_
 ·rintro i x σ H1 J ⟨F,rfl,z⟩
  obtain⟨a,ha,rfl⟩:=dR J
  obtain⟨c,hc,e⟩:=fj Y ha
  obtain⟨u,n,rfl⟩:=LN.mp (L9 hc)
  refine gn ?_
  refine ox ⟨_,rfl,m,rfl,⟨_,aF.of (z _ _ I)⟩,λD M=>?_⟩
  refine cL (K:=K) (xs:=bs.map V.ref) (λj B H'=>∃C:Option V,B=[C,some (.ref p),some (.ref a),some (.ref G)]/\H'=upd H1 D (.lst ((List.replicate j false).map V.bl))) ⟨none,rfl,rfl⟩ (λj B H' _ ⟨_,_,e⟩=>aF.of (by rw[e,ak (ax (z _ _ I) M)];exact z _ _ I)) ?_ ?_
  ·rintro j x B H' g ⟨C,rfl,rfl⟩
   obtain⟨b,N,rfl⟩:=dR g
   obtain⟨d,hd,e'⟩:=fj O N
   obtain⟨R,f,rfl⟩:=LN.mp (L9 hd)
   have hj:=bO N
   refine gn (dQ ?_)
   have A:=z.upd (o:=.lst ((List.replicate j false).map V.bl)) M
   refine⟨_,rfl,_,rfl,_,rfl,_,rfl,p,a,G,b,u,R,g1,r1,g2,r2,rfl,t1.same A,W.same A,A _ _ e,A _ _ e',U u n R f,?_⟩
   refine⟨_,ae,by rw[LK,Nz];omega,_,rfl,?_⟩
   rw[gU,List.replicate_succ',LQ];rfl
  ·rintro B H' ⟨C,rfl,rfl⟩
   refine⟨D,List.replicate (bs.map V.ref).length false,rfl,aF.of ae,_,rfl,?_⟩
   have em:(List.replicate (bs.map V.ref).length false).any id=false:=by rw[NY];intro x J;rw[List.eq_of_mem_replicate J];decide
   rw[em]
   exact eF ⟨_,rfl,z.upd M⟩
 ·rintro σ H1 ⟨F,rfl,z⟩
  exact st (cU ar (q _ z))
theorem yx:eO P w K mg base 1 "square" xV ["sizes", "spot", "reach"] (tE K):=by
 refine rd ["sizes", "spot", "reach", "layer", "row", "column", "top", "bottom", "left", "right", "spots", "one"] λl _ _ _ _ _ H vs Q E hr h=>?_
 obtain⟨a,b,z,p,g,rfl,ha,⟨⟨_,_⟩,⟨_,_⟩,_,_⟩,R,⟨N,U,M,W⟩,q⟩:=h
 refine⟨_,(ai (eY (aj 1) (cV rfl (aq (aT 3 l) (aq (aT 4 l) (aq (aT 5 l) bq))))) (ai (bc 6 l (br (eM rfl) T.max_ (aC ag (au dO (aj 4) (aj 2))))) (ai (bc 7 l (br (gA rfl) T.min_ (aC (au dO (aR aI (aj 0) ag) ag) (au aS (aj 4) (aj 2))))) (ai (bc 8 l (br (eM rfl) T.max_ (aC ag (au dO (aj 5) (aj 2))))) (ai (bc 9 l (br (gA rfl) T.min_ (aC (au dO (aR aI (aj 0) ag) ag) (au aS (aj 5) (aj 2))))) (ai (bc 10 l (bg dj)) (aN (dH (iO (by rfl) T.range_ (aC (aj 6) (au aS (aj 7) ag))) (aT 11 l) (aE (aO (dh Mm Nm Nn dU (aj 10) (az (eI ["two"] ["layer", "one"] [3,11] (iO (by rfl) T.range_ (aC (aj 8) (au aS (aj 9) ag))) (cv 0) bj (bZ (aw (aj 1) (aC (aj 2) (aj 0)))))))))) (ay (aj 10))))))))),?_⟩
 have f:sizeLine=2^24:=rfl
 refine mS (aa rfl) (bW.of R) ?_
 refine c8 (v:=.int (p.2.1 - g:Nat)) (aY (de (af ar (af (aQ (aa rfl) (aa rfl)) ao)) λQ' r=>⟨_,_,rfl,r⟩) (by split<;>congr 1<;>lia)) ?_
 refine c8 (v:=.int (p.2.1+g:Nat)) (aY (de (af (aQ (fP (i:=1) rfl ha rfl) ar) (af (aQ (aa rfl) (aa rfl)) ao)) λQ' r=>⟨_,_,rfl,r⟩) (by split<;>congr 1<;>lia)) ?_
 refine c8 (v:=.int (p.2.2 - g:Nat)) (aY (de (af ar (af (aQ (aa rfl) (aa rfl)) ao)) λQ' r=>⟨_,_,rfl,r⟩) (by split<;>congr 1<;>lia)) ?_
 refine c8 (v:=.int (p.2.2+g:Nat)) (aY (de (af (aQ (fP (i:=2) rfl ha rfl) ar) (af (aQ (aa rfl) (aa rfl)) ao)) λQ' r=>⟨_,_,rfl,r⟩) (by split<;>congr 1<;>lia)) ?_
 refine⟨L0 _,λy I=>?_⟩
 have one:∀x:Nat,g<=x->(((x+g:Nat):Int)+1 - ((x - g:Nat):Int)).toNat=2*g+1:=λx h=>by lia
 refine⟨_,rfl,_,rfl,_,_,rfl,rfl,_,_,rfl,⟨by lia,by lia,by lia,by lia⟩,?_⟩
 rw[one _ N]
 have hg:2*g+1<=33:=by lia
 refine dC (n:=2*g+1) (λj σ H2=>∃(o:Option V) (ps:List Addr),σ=[some (.ref a),some (.ref b),some (.int g),some (.int p.1),some (.int p.2.1),some (.int p.2.2),some (.int (p.2.1 - g:Nat)),some (.int (p.2.1+g:Nat)),some (.int (p.2.2 - g:Nat)),some (.int (p.2.2+g:Nat)),some (.ref y),o]/\ah H H2/\H2 y=some (.lst (ps.map V.ref))/\aX H2 ps (((List.range j).flatMap λi=>(List.range (2*g+1)).map λk=>(p.1,p.2.1 - g+i,p.2.2 - g+k)).map t3)/\ps.length<=33*j) ⟨none,[],rfl,(ah.refl H).upd I,ae,.nil,LL _⟩ ?_ ?_
 ·rintro j σ H2 X ⟨o,ps,rfl,C,A,G,S⟩
  refine⟨_,rfl,.inl ⟨rfl,_,aF.of A⟩,?_⟩
  refine⟨_,rfl,_,rfl,_,_,rfl,rfl,_,_,rfl,⟨by lia,by lia,by lia,by lia⟩,λD J=>?_⟩
  rw[one _ M]
  refine ml (n:=2*g+1) (λi F H3=>∃(o:Option V) (m:List Addr),F=[o,some (.int p.1),some (.int (((p.2.1 - g:Nat):Int)+(j:Nat)))]/\ah H2 H3/\H3 D=some (.lst (m.map V.ref))/\aX H3 m (((List.range i).map λk=>(p.1,p.2.1 - g+j,p.2.2 - g+k)).map t3)/\m.length=i) ⟨none,[],rfl,(ah.refl H2).upd J,ae,.nil,rfl⟩ ?_ ?_
  ·rintro i F H3 hi ⟨O,m,rfl,s,u,hr,c⟩
   refine⟨_,rfl,_,rfl,_,rfl,(by show 3<=sizeLine;decide),λpt B=>?_⟩
   have e:D≠pt:=ax u B
   refine⟨m.map V.ref,(by rw[ak e];exact u),(by rw[LK];lia),_,m++[pt],rfl,bK (s.upd B) J,by rw[ae,LQ];rfl,?_,by rw[LP,c];rfl⟩
   rw[NS,LQ,LQ]
   refine dX (cA hr (fo u B)) (.cons ?_ .nil)
   rw[ak (L8 e),ae]
   show some (HO.tup [.int p.1,.int (((p.2.1 - g:Nat):Int)+(j:Nat)),.int (((p.2.2 - g:Nat):Int)+(i:Nat))])=some (HO.tup [.int (p.1:Nat),.int ((p.2.1 - g+j:Nat):Int),.int ((p.2.2 - g+i:Nat):Int)])
   rw[MK,MK]
  ·rintro F H3 ⟨O,m,rfl,s,u,hr,c⟩
   have d:=s _ _ A
   refine⟨y,D,_,_,rfl,rfl,d,u,(by rw[LK,LK,c];lia),?_⟩
   refine⟨_,ps++m,rfl,bK (C.trans s) I,by rw[ae,LQ],?_,by rw[LP,c];lia⟩
   rw[NS (n:=j),MT,MJ,LQ]
   exact dX (cA (G.same s) (gz d)) (cA hr (gz d))
 ·rintro σ H2 ⟨o,ps,rfl,C,A,G,S⟩
  exact⟨_,rfl,q y H2 C I ⟨ps,A,G⟩⟩
theorem Ex (J:aA P w K mg base "inside" 1 ["sizes", "spot"] mH)(M:aA P w K mg base "square" 1 ["sizes", "spot", "reach"] (tE K))(N:cn P w K mg base cFloor "is_rock" 3 ["self", "spot"] (rX cFloor)):eO P w K mg base 4 "fits" Gw ["floor", "thing", "spot"] (Dh cNet cBundle cFloor):=by
 refine rd ["floor", "thing", "spot", "layer", "row", "column", "first", "last"] λS _ _ _ _ _ H vs Q E hr h=>?_
 obtain⟨p,t,b,g,u,a,ro,rfl,hf,sz,⟨C',j,m,R,c1,l1,m1⟩,hb,hi,⟨⟨f1,f2,f3,f4⟩,fr⟩,q⟩:=h
 refine⟨_,(ai (eY (aj 2) (cV rfl (aq (aT 3 S) (aq (aT 4 S) (aq (aT 5 S) bq))))) (ai (bc 6 S (bZ (aw (aj 3) (aC (au dO (aj 4) (a9 (aj 1) rfl)) (au dO (aj 5) (a9 (aj 1) rfl)))))) (ai (bc 7 S (bZ (aw (aj 3) (aC (au aS (aj 4) (a9 (aj 1) rfl)) (au aS (aj 5) (a9 (aj 1) rfl)))))) (aN (bM (eL (cg (cx (aH J hr (aC (a9 (aj 0) rfl) (aj 6))))) (dN (cg (cx (aH J hr (aC (a9 (aj 0) rfl) (aj 7))))))).pt (ay c_)) (ay (B4 (br (nz rfl) T.any_ (az (eI ["near"] ["floor"] [0] (aD (aH M hr (aw (a9 (aj 0) rfl) (aC (aj 2) (a9 (aj 1) rfl))))) (cv 0) bj (Ik (aj 1) (by exact T.cl_Floor) (by exact N) (by exact(hr.mono (by decide))) (az (aj 0)))))))))))),?_⟩
 have I:sizeLine=2^24:=rfl
 have O:j6 K C'/\bC K C' "half" :=by rcases c1 with rfl|rfl<;>first|exact⟨T.cl_Net,T.na_Net_half⟩|exact⟨T.cl_Bundle,T.na_Bundle_half⟩
 obtain⟨f,G,C⟩:=id hi
 refine mS (aa rfl) (bW.of hb) ?_
 refine vD (vs:=(t3 (u.1,u.2.1 - a,u.2.2 - a)).map V.int) (af (aa rfl) (af (aY (aQ (aa rfl) (bQ (aa rfl) R O.1 O.2 l1)) (show V.int _=V.int ((u.2.1 - a:Nat):Int) by congr 1;omega)) (af (aY (aQ (aa rfl) (bQ (aa rfl) R O.1 O.2 l1)) (show V.int _=V.int ((u.2.2 - a:Nat):Int) by congr 1;omega)) ao))) (by show 3<=sizeLine;decide) λa1 n1=>?_
 generalize k1:upd H a1 (.tup ((t3 (u.1,u.2.1 - a,u.2.2 - a)).map V.int))=H1
 have s1:ah H H1:=k1▸(ah.refl H).upd n1
 have A:A3 H1 a1 (u.1,u.2.1 - a,u.2.2 - a):=k1▸ae
 refine vD (vs:=(t3 (u.1,u.2.1+a,u.2.2+a)).map V.int) (af (aa rfl) (af (aY (aQ (aa rfl) (bQ (aa rfl) (s1 _ _ R) O.1 O.2 l1)) (by congr 1)) (af (aY (aQ (aa rfl) (bQ (aa rfl) (s1 _ _ R) O.1 O.2 l1)) (by congr 1)) ao))) (by show 3<=sizeLine;decide) λY n2=>?_
 generalize k2:upd H1 Y (.tup ((t3 (u.1,u.2.1+a,u.2.2+a)).map V.int))=H2
 have s2:ah H1 H2:=k2▸(ah.refl H1).upd n2
 have B:A3 H2 Y (u.1,u.2.1+a,u.2.2+a):=k2▸ae
 have d:=s1.trans s2
 have n:=hf.same d
 obtain⟨dx,fs,W,pa,va,ra,ta,x⟩:=n
 have s:In g.z (u.1,u.2.1 - a,u.2.2 - a):=⟨f,by show u.2.1 - a<_;omega,by show u.2.2 - a<_;omega⟩
 have r:In g.z (u.1,u.2.1+a,u.2.2+a):=⟨f,f2,f4⟩
 refine c9 (b:=false) (cH (fR (jo (ji (pX (af (gC (aa rfl) x.ha T.cl_Floor T.na_Floor_sizes x.f1) (af (aa rfl) ao)) λQ' q'=>⟨W,a1,g.z,_,rfl,x.z,s2 _ _ A,s,q'⟩))) λ_=>jo (ji (pX (af (gC (aa rfl) x.ha T.cl_Floor T.na_Floor_sizes x.f1) (af (aa rfl) ao)) λQ' q'=>⟨W,Y,g.z,_,rfl,x.z,B,r,q'⟩))) rfl) rfl ?_
 refine⟨_,rfl,p,cFloor,dx,fs,_,rfl,x.ha,T.cl_Floor,T.na_Floor_sizes,x.f1,_,rfl,_,rfl,t,C',j,m,_,rfl,d _ _ R,O.1,O.2,l1,W,b,g.z,u,a,rfl,x.z,sz,d _ _ hb,⟨f1,f2,f3,f4⟩,λl H3 X nl ⟨as,hl,ht⟩=>⟨l,rfl,⟨_,aF.of hl⟩,λD Z=>?_⟩⟩
 have z:pd cFloor H3 p g:=hf.same (d.trans X)
 have la:as.length<=1089:=by
  obtain⟨⟨_,_⟩,⟨_,_⟩,_,_⟩:=sz
  rw[Paired.length ht,LK]
  unfold Ku
  rw[List.length_flatMap,My (g:=λ_=>2*a+1) (λi _=>by rw[LK,Oh]),List.map_const',List.sum_replicate_nat,Oh]
  exact LR (Nat.mul_le_mul (show 2*a+1<=33 by omega) (show 2*a+1<=33 by omega)) (by decide)
 refine cL (K:=K) (xs:=as.map V.ref) (λi U H'=>∃x0:Option V,U=[x0,some (.ref p)]/\H'=upd H3 D (.lst ((List.replicate i false).map V.bl))) ⟨none,rfl,rfl⟩ (λi U H' _ ⟨_,_,e⟩=>aF.of (by rw[e,ak (ax hl Z)];exact hl)) ?_ ?_
 ·rintro i y U H' hx ⟨x0,rfl,rfl⟩
  obtain⟨t',ha,rfl⟩:=dR hx
  have F:=bO ha
  obtain⟨c,hc,e⟩:=fj ht ha
  obtain⟨v,hv,rfl⟩:=LN.mp (L9 hc)
  obtain⟨v1,⟨v2,v3⟩,v4,v5⟩:=HK f1 f3 hv
  refine gn (dQ ?_)
  have sD:=(ah.refl H3).upd (o:=.lst ((List.replicate i false).map V.bl)) Z
  refine⟨_,rfl,p,dx,fs,rfl,sD _ _ (X _ _ x.ha),x.no _ (by simp[Do]),_,rfl,p,t',g,v,rfl,z.same sD,sD _ _ e,⟨by omega,by omega,by omega⟩,?_⟩
  rw[decide_eq_false (fr v v1 ⟨v2,v3⟩ ⟨v4,v5⟩)]
  refine⟨_,ae,by rw[LK,Nz];omega,_,rfl,?_⟩
  rw[gU,List.replicate_succ',LQ];rfl
 ·rintro U H' ⟨x0,rfl,rfl⟩
  refine⟨D,List.replicate (as.map V.ref).length false,rfl,aF.of ae,_,rfl,?_⟩
  have em:(List.replicate (as.map V.ref).length false).any id=false:=by rw[NY];intro x hx;rw[List.eq_of_mem_replicate hx];decide
  rw[em]
  exact q _ ((d.trans X).upd Z)
theorem zo (hB:K.In base):eO P w K mg base 1 "check_names" vV ["things"] (sI cNet cBundle):=by
 refine rd ["things", "names", "name"] λF _ _ _ _ _ H vs Q E hr h=>?_
 obtain⟨l,ps,gs,rfl,R,X,f,A,q⟩:=h
 refine⟨_,(aN (bc 1 F Bh) (dH (aD (eI ["thing"] [] [] (aD (aj 0)) (cv 0) bj (lP (K:=K) rfl (aj 0) rfl))) (aT 2 F) (aN (bM (CI (uV (bL.one hr) (aj 2) (aj 1))) cw) (i6 (bL.one hr) (aj 1) (aj 2) c_ (by rfl))))),?_⟩
 have B:sizeLine=2^24:=rfl
 have lp:ps.length=gs.length:=Paired.length X
 refine bJ λd F=>?_
 generalize Y:upd H d (.dK [])=H1
 have I:ah H H1:=Y▸(ah.refl H).upd F
 have hd:H1 d=some (.dK []):=Y▸ae
 refine⟨_,rfl,l,rfl,⟨_,aF.of (I _ _ R)⟩,λD J=>?_⟩
 refine cL (K:=K) (xs:=ps.map V.ref) (λi G H'=>∃N:Option V,G=[N]/\H'=upd H1 D (.lst (((gs.take i).map Tn.st).map V.str))) ⟨none,rfl,rfl⟩ (λj G H' _ ⟨_,_,e⟩=>aF.of (by rw[e,ak (ax (I _ _ R) J)];exact I _ _ R)) ?_ ?_
 ·rintro i x G H' C ⟨N,rfl,rfl⟩
  obtain⟨p,n,rfl⟩:=dR C
  obtain⟨g,hg,t⟩:=ba X n
  refine gn (dQ ?_)
  refine mw (t.same (I.upd J)) (aa rfl) T.cl_Net T.na_Net_name T.cl_Bundle T.na_Bundle_name (λ_ _ b _=>b.name) _ ?_
  refine⟨_,ae,by rw[LK,LK,Mg];lia,_,rfl,?_⟩
  rw[gU,bh hg,LQ,LQ];rfl
 rintro G H' ⟨N,rfl,rfl⟩
 rw[LK,lp,Mc]
 generalize W:upd H1 D (.lst ((gs.map Tn.st).map V.str))=H2
 have U:ah H1 H2:=W▸(ah.refl H1).upd J
 have Z:H2 D=some (.lst ((gs.map Tn.st).map V.str)):=W▸ae
 have r:D≠d:=λz=>by rw[z,hd] at J;cases J
 refine⟨D,rfl,⟨_,aF.of Z⟩,?_⟩
 refine bN (K:=K) (xs:=(gs.map Tn.st).map V.str) (λi σ H'=>∃(M:Option V) (a:List (cS×V)),σ=[some (.ref l),some (.ref d),M]/\ah H H'/\H' D=some (.lst ((gs.map Tn.st).map V.str))/\H' d=some (.dK a)/\a.length<=i/\∀x,(bX a (.inr x)).isSome=true->x∈(gs.map Tn.st).take i)
  ⟨none,[],rfl,I.trans U,Z,U _ _ hd,LL _,λx z=>nomatch z⟩ (λj G H' _ ⟨_,_,_,_,e,_⟩=>aF.of e) ?_ ?_
 ·rintro i x σ H' C ⟨M,a,rfl,s,u,c,hk,S⟩
  obtain⟨m,O,rfl⟩:=fT C
  have hi:=bO O
  rw[LK] at hi
  have nv:(bX a (.inr m)).isSome=false:=by
   cases e:(bX a (.inr m)).isSome with
   |false=>rfl
   |true=>exact absurd (S m e) (HW f O)
  refine gn ?_
  refine c9 (cH (aB (Ht (o:=bX a (.inr m)) (aa rfl) (aa rfl) (jy.k (k:=.inr m) c))) nv) rfl ?_
  refine qG (y:=.str m) ar (aa rfl) (aa rfl) (lx.k (k:=.inr m) c (by lia)) ?_
  refine⟨_,_,rfl,bK s F,by rw[ak r];exact u,ae,LR (eK _ _ _) (NG hk),λx C=>?_⟩
  rw[Ax] at C
  rw[bh O]
  by_cases ex:(.inr x:cS)=.inr m
  ·rw[Sum.inr.inj ex];simp
  ·rw[if_neg ex] at C
   exact MM _ (S x C)
 ·rintro σ H' ⟨M,a,rfl,s,_⟩
  exact q _ s
theorem Bx (hB:K.In base)(o:cn P w K mg base cNet "ends" 1 ["self"] (lJ cNet))(n:cn P w K mg base cBundle "ends" 1 ["self"] (lL cBundle))(y:aA P w K mg base "fits" 4 ["floor", "thing", "spot"] (Dh cNet cBundle cFloor)):eO P w K mg base 5 "check_fits" DE ["floor", "things"] (wo cNet cBundle cFloor):=by
 refine rd ["floor", "things", "thing", "spot"] λI _ _ _ _ _ H vs Q E hr h=>?_
 obtain⟨f,l,ps,gs,X,rfl,R,sz,N,S,ok,q⟩:=h
 refine⟨_,(aE (dH (aD (aj 1)) (aT 2 I) (aE (dH (aD (nH (aj 2) T.cl_Net T.cl_Bundle o n (hr.mono (by decide)) (hr.mono (by decide)))) (aT 3 I) (aE (bM (cg (cx (aH y hr (aw (aj 0) (aC (aj 2) (aj 3)))))) cw)))))),?_⟩
 refine⟨_,rfl,l,rfl,⟨_,aF.of N⟩,?_⟩
 refine bN (K:=K) (xs:=ps.map V.ref) (λi σ H'=>∃D B:Option V,σ=[some (.ref f),some (.ref l),D,B]/\ah H H') ⟨none,none,rfl,ah.refl H⟩ (λi σ H' _ ⟨_,_,_,s⟩=>aF.of (s _ _ N)) ?_ ?_
 ·rintro i x σ H1 G ⟨D,B,rfl,C⟩
  obtain⟨p,d,rfl⟩:=dR G
  obtain⟨g,hg,t⟩:=ba S d
  have M:=L9 hg
  refine gn ?_
  refine v8 (qM (aa rfl) (t.same C) (ok.ln g M) λH2 O J ne ⟨as,z,F⟩=>⟨O,rfl,⟨_,aF.of z⟩,?_⟩)
  refine bN (K:=K) (xs:=as.map V.ref) (λj σ H'=>∃B:Option V,σ=[some (.ref f),some (.ref l),some (.ref p),B]/\ah H2 H') ⟨_,rfl,ah.refl H2⟩ (λi σ H' _ ⟨_,_,s⟩=>aF.of (s _ _ z)) ?_ ?_
  ·rintro j x σ H3 G ⟨m,rfl,A⟩
   obtain⟨a,ha,rfl⟩:=dR G
   obtain⟨c,Y,e⟩:=fj F ha
   obtain⟨u,Z,rfl⟩:=LN.mp (L9 Y)
   obtain⟨c1,W⟩:=ok.ok g M u Z
   have b:=(C.trans J).trans A
   refine gn ?_
   exact ox ⟨_,rfl,_,rfl,_,rfl,f,p,a,X,u,g.h,g.r,rfl,R.same b,sz,(t.same b).th,A _ _ e,c1,W,λH4 U=>⟨_,rfl,eF ⟨_,rfl,A.trans U⟩⟩⟩
  ·rintro σ H3 ⟨m,rfl,A⟩
   exact⟨_,_,rfl,(C.trans J).trans A⟩
 ·rintro σ H1 ⟨D,B,rfl,C⟩
  exact q _ C
theorem uE (hB:K.In base)(A:cn P w K mg base cNet "ends" 1 ["self"] (lJ cNet))(u:cn P w K mg base cBundle "ends" 1 ["self"] (lL cBundle))(B:aA P w K mg base "clash_at_all" 3 ["thing", "spots", "other", "places"] (rN cNet cBundle)):eO P w K mg base 4 "check_crowds" rg ["things"] (oV cNet cBundle):=by
 refine rd ["things", "place", "thing", "other"] λJ _ _ _ _ _ H vs Q E hr h=>?_
 obtain⟨l,ps,gs,z,rs,rfl,M,O,ok,q⟩:=h
 refine⟨_,(aE (dH (B6 (by rfl) T.enumerate_ jW (az (aj 0))) (cV rfl (aq (aT 1 J) (aq (aT 2 J) bq))) (aE (dH (aD (cD cW (aj 0) (bT (au aS (aj 1) ag)) eB)) (aT 3 J) (aE (bM (cx (aH B hr (aw (aj 2) (aw (nH (aj 2) T.cl_Net T.cl_Bundle A u (hr.mono (by decide)) (hr.mono (by decide))) (aC (aj 3) (nH (aj 3) T.cl_Net T.cl_Bundle A u (hr.mono (by decide)) (hr.mono (by decide)))))))) cw)))))),?_⟩
 have lp:ps.length=gs.length:=Paired.length O
 refine⟨_,rfl,l,rfl,⟨_,aF.of M⟩,?_⟩
 refine zw (K:=K) (xs:=ps.map V.ref) (λi σ H'=>∃N G C:Option V,σ=[some (.ref l),N,G,C]/\ah H H') ⟨none,none,none,rfl,ah.refl H⟩ (λi σ H' _ ⟨_,_,_,_,s⟩=>aF.of (s _ _ M)) ?_ ?_
 ·rintro i y X σ H0 R m ⟨N,G,C,rfl,s0⟩
  obtain⟨p,n,rfl⟩:=dR R
  obtain⟨g,hg,t⟩:=ba O n
  have lg:=ok.ln g (L9 hg)
  have hi:=bO hg
  refine⟨X,_,rfl,bW.of ae,rfl,_,_,rfl,_,_,rfl,rfl,?_⟩
  generalize k1:upd H0 X (.tup [.int ((i:Nat):Int),.ref p])=H1
  have F:ah H H1:=k1▸s0.upd m
  refine v8 (Au (K:=K) (aa rfl) (aQ (g:=λi j=>V.int (i+j)) (aa rfl) ar) (aF.of (F _ _ M)) λls I=>?_)
  have ec:fu (ps.map V.ref) (some (((i:Nat):Int)+1)) none=(ps.drop (i+1)).map V.ref:=by
   rw[show((i:Nat):Int)+1=((i+1:Nat):Int) by lia,uy _ _ (by rw[LK];lia),List.map_drop]
  rw[ec]
  generalize Z:upd H1 ls (.lst ((ps.drop (i+1)).map V.ref))=H2
  have f:ah H H2:=F.trans (Z▸(ah.refl H1).upd I)
  have e:H2 ls=some (.lst ((ps.drop (i+1)).map V.ref)):=Z▸ae
  refine⟨ls,rfl,⟨_,aF.of e⟩,?_⟩
  refine bN (K:=K) (xs:=(ps.drop (i+1)).map V.ref) (λj σ H'=>∃C:Option V,σ=[some (.ref l),some (.int ((i:Nat):Int)),some (.ref p),C]/\ah H2 H') ⟨_,rfl,ah.refl H2⟩ (λi σ H' _ ⟨_,_,s⟩=>aF.of (s _ _ e)) ?_ ?_
  ·rintro j x σ H3 R ⟨o,rfl,D⟩
   obtain⟨p',ha,rfl⟩:=dR R
   rw[List.getElem?_drop] at ha
   obtain⟨h,W,Y⟩:=ba O ha
   have lh:=ok.ln h (L9 W)
   have a:=f.trans D
   have cr:∀c∈g.es,∀d∈h.es,gc d h.h h.r (c,g.h,g.r)=false:=by
    obtain⟨b1,rfl⟩:=Mo.mp hg
    obtain⟨b2,rfl⟩:=Mo.mp W
    exact OE.mp ok.cr _ _ _ _ (by lia)
   refine gn ?_
   refine ox (IL (a_ (aa rfl) (aG (qM (aa rfl) (t.same a) lg λH4 l4 U n4 a4=>a_ (aa rfl) (aG (qM (aa rfl) (Y.same (a.trans U)) lh λH5 l5 S n5 a5=>?_))))))
   have b:=U.trans S
   exact⟨p,l4,p',l5,g.es,h.es,g.h,g.r,h.h,h.r,rfl,(t.same (a.trans b)).th,(Y.same (a.trans b)).th,a4.same S,a5,by rw[LP];lia,cr,λH6 s6=>⟨_,rfl,eF ⟨_,rfl,D.trans (b.trans s6)⟩⟩⟩
  ·rintro σ H3 ⟨o,rfl,D⟩
   exact⟨_,_,_,rfl,f.trans D⟩
 ·rintro σ H1 ⟨N,G,C,rfl,F⟩
  exact q _ F
theorem zm (M:aA P w K mg base "check_names" 1 ["things"] (sI cNet cBundle))(N:aA P w K mg base "check_fits" 5 ["floor", "things"] (wo cNet cBundle cFloor))(J:aA P w K mg base "check_crowds" 4 ["things"] (oV cNet cBundle)):qW P w K mg base 6 "__init__" "Board.__init__" xq ["self", "floor", "things"] (mf cNet cBundle cFloor cBoard):=by
 refine rd ["self", "floor", "things"] λnd _ _ _ _ _ H vs Q E hr h=>?_
 obtain⟨p,dx,f,l,ps,gs,g0,rfl,U,hf,sz,Z,S,ok,q⟩:=h
 refine⟨_,(ai (aO (aH M hr (az (aj 2)))) (ai (aO (aH N hr (aC (aj 1) (aj 2)))) (ai (aO (aH J hr (az (aj 2)))) (aN (fb (aj 0) (aj 1) rfl) (fb (aj 0) (cK (lB rfl) T.dict_ (az (eI ["thing"] [] [] (aD (aj 2)) (cv 0) bj (bZ (aC (lP (K:=K) rfl (aj 0) rfl) (aj 0)))))) rfl))))),?_⟩
 have I:sizeLine=2^24:=rfl
 have lp:ps.length=gs.length:=Paired.length S
 have F:=ok.few
 have up:∀{H1},ah H H1->oa cNet cBundle H1 ps gs:=λs=>Paired.mapP S λ_ _ e=>e.same s
 refine⟨_,rfl,l,ps,gs,rfl,Z,S,ok.nm,F,λH1 s1=>?_⟩
 refine⟨_,rfl,_,rfl,f,l,ps,gs,g0,rfl,hf.same s1,sz,s1 _ _ Z,up s1,ok,λH2 s2=>?_⟩
 have n:=s1.trans s2
 refine⟨_,rfl,l,ps,gs,g0.z,g0.rs,rfl,n _ _ Z,up n,ok,λH3 s3=>?_⟩
 have u:=n.trans s3
 refine⟨_,rfl,_,rfl,p,cBoard,dx,[],rfl,u _ _ U,T.cl_Board,T.na_Board_floor,(by decide),?_⟩
 generalize k4:upd H3 p (.ins cBoard dx (eW "floor" (.ref f) []))=R
 have b4:bU H R p:=k4▸(bU.of u).up
 have B:R p=some (.ins cBoard dx (eW "floor" (.ref f) [])):=k4▸ae
 have r:=gr (o:=.lst (ps.map V.ref)) b4 U (λz=>nomatch z) Z
 have C:oa cNet cBundle R ps gs:=Paired.mapP S λ_ _ e=>e.bp b4 U
 refine⟨_,rfl,l,rfl,⟨_,aF.of r⟩,λD nD=>?_⟩
 refine cL (K:=K) (xs:=ps.map V.ref) (λi X H'=>∃(x0:Option V) (ts:List Addr),X=[x0]/\ah R H'/\H' D=some (.lst (ts.map V.ref))/\ts.length=i/\Ko H' ts (t7 (gs.take i) (ps.take i))) ⟨none,[],rfl,(ah.refl R).upd nD,ae,rfl,.nil⟩ (λj X H' _ ⟨_,_,_,s,_⟩=>aF.of (s _ _ r)) ?_ ?_
 ·rintro i x X H' hx ⟨x0,ts,rfl,Y,W,m,c⟩
  obtain⟨a,ha,rfl⟩:=dR hx
  obtain⟨g,hg,t⟩:=ba C ha
  have hi:=bO hg
  refine gn (dQ ?_)
  refine eP (vs:=[.str g.st,.ref a]) (af (mw (t.same Y) (aa rfl) T.cl_Net T.na_Net_name T.cl_Bundle T.na_Bundle_name (λ_ _ b _=>b.name)) (af (aa rfl) ao)) (by show 2<=sizeLine;decide) λtt O=>?_
  have A:tt≠D:=λz=>by rw[z,W] at O;cases O
  refine⟨_,by rw[ak (L8 A)];exact W,by rw[LK];lia,_,ts++[tt],rfl,bK (Y.upd O) nD,by rw[ae,LQ];rfl,by rw[LP,m];rfl,?_⟩
  rw[Aq hg ha]
  refine Bb (Paired.mapP c λb kv e=>?_) ?_
  ·rw[ak (cQ e W (λz=>nomatch z)),ak (ax e O)];exact e
  ·rw[ak A,ae];rfl
 ·rintro X H' ⟨x0,ts,rfl,Y,W,m,c⟩
  rw[LK,lp,Mc,<-lp,Mc] at c
  refine⟨D,ts,t7 gs ps,rfl,W,c,λd nd=>?_⟩
  rw[Ii (Hm lp ok.nm)]
  generalize k6:upd H' d (.dK (t7 gs ps))=H6
  have s6:ah R H6:=Y.trans (k6▸(ah.refl H').upd nd)
  have G:H6 d=some (.dK (t7 gs ps)):=k6▸ae
  have y:=s6 _ _ B
  refine⟨_,rfl,p,cBoard,dx,_,rfl,y,T.cl_Board,T.na_Board_by_name,N4 (bH _ _ _) (by decide),?_⟩
  have b7:bU H (upd H6 p (.ins cBoard dx (eW "by_name" (.ref d) (eW "floor" (.ref f) [])))) p:=(b4.st s6).up
  refine q _ b7 ⟨dx,_,d,f,ps,ae,?_,?_,?_,gr (bU.of (ah.refl H6)).up y (λz=>nomatch z) G,Paired.mapP S λ_ _ e=>e.bp b7 U,hf.bp b7 U⟩
  ·rw[aK,if_neg (by decide+kernel),aK,if_pos rfl]
  ·rw[aK,if_pos rfl]
  ·rw[aK,if_neg (by decide+kernel),aK,if_neg (by decide+kernel)];rfl
theorem sN:qW P w K mg base 1 "things" "Board.things" oY ["self"] (jm cBoard):=by
 refine rd ["self"] λj _ _ _ _ _ H vs Q E hr h=>?_
 obtain⟨b,dx,d,fs,ps,gs,rfl,h1,g,c,lp,a,q⟩:=h
 refine⟨_,(aE (ay (cK (uN rfl) T.list_ (az (HR PySem.F.plainAttrs_dict PySem.F.slot_dict_values PySem.F.type_dict_values ze (a9 (aj 0) rfl)))))),?_⟩
 refine bR (qE (G6 (bQ (aa rfl) h1 T.cl_Board T.na_Board_by_name g) (.inr (.inr (.inl ⟨rfl,.inl ⟨_,c⟩⟩))) ⟨d,_,rfl,rfl,c,λv nv=>?_⟩))
 refine⟨v,d,t7 gs ps,rfl,ae,by rw[ak (ax c nv)];exact c,LR D7 (by lia),λf nl=>?_⟩
 have e:ah H (upd H v (Kt v d)):=(ah.refl H).upd nv
 refine q _ f (e.upd nl) (da e nl) (by rw[ae,Ae lp])
theorem zp (b:fO P w K mg base cNet "Net" 3 ["self", "name", "pins", "half", "room"] (jZ cNet) 2)(c:fO P w K mg base cBundle "Bundle" 3 ["self", "name", "starts", "goals", "room"] (ju cBundle) 1):eO P w K mg base 5 "thing_told" xn ["kind", "parts"] (tV cNet cBundle):=by
 refine rd ["kind", "parts", "name", "half", "room", "pins", "starts", "goals"] λa _ _ _ _ _ H vs Q E hr h=>?_
 obtain⟨v,r,g,rfl,B,hg,ok,J,q⟩:=h
 refine⟨_,(ai (jc (bB di (aj 0) aL) (aN (eY (aj 1) (cV rfl (aq (aT 2 a) (aq (aT 3 a) (aq (aT 4 a) (aq (aT 5 a) bq)))))) (ay (lM b (hr.mono (by decide)) (by rfl) (aw (aj 2) (aw (aj 5) (aC (aj 3) (aj 4))))))) fH) (aN (eY (aj 1) (cV rfl (aq (aT 2 a) (aq (aT 4 a) (aq (aT 6 a) (aq (aT 7 a) bq)))))) (ay (lM c (hr.mono (by decide)) (by rfl) (aw (aj 2) (aw (aj 6) (aC (aj 7) (aj 4)))))))),?_⟩
 refine eX (jd (j:=5) (aa rfl) (by decide)) (λe=>?_) λM=>?_
 ·cases r with
  |net x hf ro cs=>
   obtain⟨t,l,rfl,u,y,_⟩:=B
   obtain rfl:=Option.some.inj hg
   refine⟨_,rfl,t,_,rfl,bW.of u,rfl,_,_,rfl,_,_,rfl,_,_,rfl,_,_,rfl,rfl,?_⟩
   refine⟨_,rfl,_,rfl,_,rfl,_,rfl,?_⟩
   intro p dx f d F
   have sm:ah H (upd (upd H dx (.own p)) p (.ins cNet dx [])):=eN f d
   have C:=ok.s4
   have a:=ok.nd
   have G:=ok.sh
   simp only[Tn.es,Mb] at C a
   have n:2<=cs.length/\cs.length<=6:=by
    rcases G with ⟨_,h⟩|⟨h,_⟩
    ·exact h
    ·exact absurd rfl h
   refine⟨p,dx,l,ss x,hf,ro,cs,rfl,ok.hh,ok.rr,ae,y.same sm,C,a,n.1,n.2,jw ok.gd,lS ok.gd,λH4 s z=>⟨rfl,?_⟩⟩
   exact q p H4 (bU.same sm f s) f (.inl ⟨rfl,z⟩)
  |_=>cases e
 ·cases r with
  |bun x ro cs ds=>
   obtain⟨t,l,m,rfl,u,y,I,_⟩:=B
   obtain rfl:=Option.some.inj hg
   refine⟨_,rfl,t,_,rfl,bW.of u,rfl,_,_,rfl,_,_,rfl,_,_,rfl,_,_,rfl,rfl,?_⟩
   refine⟨_,rfl,_,rfl,_,rfl,_,rfl,?_⟩
   intro p dx f d F
   have sm:ah H (upd (upd H dx (.own p)) p (.ins cBundle dx [])):=eN f d
   have A:=J x ro cs ds rfl
   obtain⟨_,l1,D,n,o⟩:(0:Nat)=0/\1<=cs.length/\cs.length<=6/\cs.length<=ds.length/\ds.length<=12:=by
    rcases ok.sh with ⟨h,_⟩|⟨_,h⟩
    ·exact absurd h A
    ·exact h
   refine⟨p,dx,l,m,ss x,ro,cs,ds,rfl,ok.rr,ae,y.same sm,I.same sm,ok.s4,ok.nd,l1,D,n,o,jw ok.gd,lS ok.gd,λH4 s z=>⟨rfl,?_⟩⟩
   exact q p H4 (bU.same sm f s) f (.inr ⟨A,rfl,z⟩)
  |net x hf ro cs=>cases M
  |_=>cases hg
theorem yr (cc:aA P w K mg base "check_sizes" 1 ["sizes", "prices", "vias"] nh)(cd:aA P w K mg base "check_price" 1 ["price", "least"] mJ)(b8:aA P w K mg base "check_prices" 2 ["prices", "vias", "tolls"] kM)(b5:aA P w K mg base "check_inside" 2 ["sizes", "spot"] iJ)(ce:g6 P w K mg base cFloor "Floor" 3 ["self", "sizes", "prices", "vias", "rocks", "tolls"] (lY cFloor))(b3:aA P w K mg base "parts_of" 1 ["told", "kind"] rR)(b7:aA P w K mg base "marked" 3 ["boxes"] sS):eO P w K mg base 5 "floor_told" w6 ["told"] (sd cFloor):=by
 refine rd ["told", "sizes", "prices", "vias", "rocks", "tolls", "price", "one", "two", "mark"] λnd _ _ _ _ _ H vs Q E hr h=>?_
 obtain⟨l,us,z,W,rfl,hl,hp,hu,ok,q⟩:=h
 refine⟨_,(ai (bc 1 nd (aR aI (aR aV (aj 0) ag) ag)) (ai (bc 2 nd (aH b3 hr (aC (aj 0) aL))) (ai (m9 3 ["parts"] [] [] nd (aD (aH b3 hr (aC (aj 0) aL))) (cv 0) bj (aR (wH (K:=K) rfl) (aj 0) ag)) (ai (m9 4 ["one", "two"] [] [] nd (aD (aH b3 hr (aC (aj 0) aL))) (fG (K:=K) (n:=2) rfl rfl (aq (cv 0) (aq (cv 1) bq)) rfl rfl) bj (bZ (aw c_ (aC (aj 0) (aj 1))))) (ai (bc 5 nd (aH b3 hr (aC (aj 0) aL))) (ai (aO (aH cc hr (aw (aj 1) (aC (aj 2) (aj 3))))) (ai (aO (aH b8 hr (aw (aj 2) (aC (aj 3) gx)))) (ai (dH (aD (aj 5)) (cV rfl (aq (aT 6 nd) (aq (aT 7 nd) (aq (aT 8 nd) bq)))) (aE (aO (aH cd hr (aC (aj 6) ag))))) (aN (dH (aD (au dk (aj 4) (aj 5))) (cV rfl (aq (aT 9 nd) (aq (aT 7 nd) (aq (aT 8 nd) bq)))) (aN (aO (aH b5 hr (aC (aj 1) (aj 7)))) (aO (aH b5 hr (aC (aj 1) (aj 8)))))) (ay (xT ce (hr.mono (by decide)) (by rfl) (aw (aj 1) (aw (aj 2) (aw (aj 3) (aC (cK (ug rfl) T.list_ (az (aH b7 hr (az (aj 4))))) (aH b7 hr (az (aj 5)))))))))))))))))),?_⟩
 have b1:sizeLine=2^24:=rfl
 obtain⟨v0,cN,rfl,h0⟩:∃v0 cN,us=v0::cN/\TD (λ_=>True) H v0 (.floor z):=by
  cases hp with
  |cons a b=>exact⟨_,_,rfl,a⟩
 obtain⟨t0,u0,rfl,a6,za,rfl,F⟩:=h0
 have up:∀{H'},ah H H'->Paired (TD (λ_=>True) H') (.ref t0::cN) (.floor z::W):=λs=>Paired.mapP hp λ_ _ e=>e.same s
 refine c8 (v:=.ref za) (fc (cM (aa rfl) ar (aF.of hl) (bS (j:=0) rfl)) ar (bW.of a6) (bS (j:=1) rfl)) ?_
 refine bJ (aP (af (aa rfl) (af ar ao)) ⟨l,_,_,1,rfl,by decide,hl,hp,by lia,λpr gm H1 s1 n1 du d9=>?_⟩)
 obtain⟨bi,rfl,bb⟩:=iS (f:=FE) (S:=P2 H1) (λr e=>by cases r<;>first|rfl|exact absurd rfl e) (λv r e h=>by
  cases r<;>first|cases e|skip
  obtain⟨t,rfl,h⟩:=h
  exact⟨_,_,rfl,rfl,h⟩) d9
 have bA:lH H1 pr (W.filterMap FE):=⟨bi,du,bb⟩
 refine⟨_,rfl,l,_,_,2,rfl,by decide,s1 _ _ hl,up s1,by lia,λee fy H2 s2 n2 ck d8=>⟨ee,rfl,⟨_,aF.of ck⟩,λD nD=>?_⟩⟩
 obtain⟨a3,rfl,O⟩:=iS (f:=BE) (S:=λa (n:Nat)=>H2 a=some (.tup [.int (n:Nat)])) (λr e=>by cases r<;>first|rfl|exact absurd rfl e) (λv r e h=>by
  cases r<;>first|cases e|skip
  obtain⟨t,rfl,h⟩:=h
  exact⟨_,_,rfl,rfl,h⟩) d8
 have lv:=ok.va
 have O:Paired (λa (n:Nat)=>H2 a=some (.tup [.int (n:Nat)])) a3 (W.filterMap BE):=O
 obtain⟨⟨z1,z2⟩,_,_⟩:=ok.sz
 refine cL (K:=K) (xs:=a3.map V.ref) (λi τ H'=>∃x0:Option V,τ=[x0]/\H'=upd H2 D (.lst (ni ((W.filterMap BE).take i)))) ⟨none,rfl,rfl⟩ (λi τ H' _ ⟨_,_,e⟩=>aF.of (by rw[e,ak (ax ck nD)];exact ck)) ?_ ?_
 ·rintro i x τ H' hx ⟨x0,rfl,rfl⟩
  obtain⟨a,ha,rfl⟩:=dR hx
  obtain⟨n,hn,e⟩:=ba O ha
  have hi:=bO hn
  refine gn (dQ ?_)
  refine(fc (K:=K) (aa rfl) ar (bW.of (((ah.refl H2).upd nD) _ _ e)) (bS (j:=0) rfl)) _ ⟨_,ae,by rw[LK,Mg];lia,_,rfl,?_⟩
  rw[gU,bh hn];unfold ni;rw[LQ];rfl
 rintro τ H' ⟨x0,rfl,rfl⟩
 rw[LK,Paired.length O,Mc]
 generalize k3:upd H2 D (.lst (ni (W.filterMap BE)))=H3
 have a4:ah H1 H3:=s2.trans (k3▸(ah.refl H2).upd nD)
 have R:H3 D=some (.lst (ni (W.filterMap BE))):=k3▸ae
 have s3:=s1.trans a4
 refine⟨_,rfl,l,_,_,3,rfl,by decide,s3 _ _ hl,up s3,by lia,λrk g0 H4 s4 n4 db eh=>⟨rk,rfl,⟨_,aF.of db⟩,λD2 c7=>?_⟩⟩
 obtain⟨a0,rfl,M⟩:=iS (f:=g9) (S:=λa b=>b.1=.bl true/\∃x y,H4 a=some (.tup [.ref x,.ref y])/\A3 H4 x b.2.1/\A3 H4 y b.2.2) (λr e=>by cases r<;>first|rfl|exact absurd rfl e) (λv r e h=>by
  cases r<;>first|cases e|skip
  obtain⟨t,a,b,rfl,h⟩:=h
  exact⟨_,_,rfl,rfl,rfl,a,b,h⟩) eh
 have M:Paired (λa b=>b.1=.bl true/\∃x y,H4 a=some (.tup [.ref x,.ref y])/\A3 H4 x b.2.1/\A3 H4 y b.2.2) a0 (W.filterMap g9):=M
 have lW:W.length<=300:=by have:=Paired.length hp;rw[L5] at this;rw[L5] at hu this;lia
 have lr:(W.filterMap g9).length<=300:=LR (List.length_filterMap_le _ _) lW
 refine cL (K:=K) (xs:=a0.map V.ref) (λi τ H'=>∃(x0 x1:Option V) (ws:List V),τ=[x0,x1]/\ah H4 H'/\H' D2=some (.lst ws)/\Paired (MB H') ws ((W.filterMap g9).take i)/\ws.length=i) ⟨none,none,[],rfl,(ah.refl H4).upd c7,ae,.nil,rfl⟩ (λi τ H' _ ⟨_,_,_,_,s,_⟩=>aF.of (s _ _ db)) ?_ ?_
 ·rintro i x τ H' hx ⟨x0,x1,ws,rfl,s,hD,hw,be⟩
  obtain⟨a,ha,rfl⟩:=dR hx
  obtain⟨b,hb,eb,bx,B,e1,e2,e3⟩:=ba M ha
  have hi:=bO hb
  refine⟨a,_,rfl,bW.of (s _ _ e1),rfl,?_⟩
  refine⟨_,_,rfl,gn ?_⟩
  refine⟨_,_,rfl,gn ?_⟩
  refine⟨rfl,?_⟩
  refine dQ ?_
  refine⟨_,rfl,_,rfl,(by show 3<=sizeLine;decide),λt nt=>?_⟩
  have an:t≠D2:=L8 (ax hD nt)
  refine⟨ws,(by rw[ak (L8 an)];exact hD),by lia,_,_,ws++[.ref t],rfl,bK (s.upd nt) c7,ae,?_,by simp[be]⟩
  rw[bh hb]
  have kt:∀b' xs,H' b'=some (.tup xs)->upd (upd H' t (.tup [.bl true,.ref bx,.ref B])) D2 (.lst (ws++[.ref t])) b'=some (.tup xs):=fo hD nt
  refine cI ⟨t,bx,B,rfl,by rw[eb,ak an,ae],kt _ _ (s _ _ e2),kt _ _ (s _ _ e3)⟩ (Paired.mapP hw ?_)
  rintro _ _ ⟨t',x',y',e,f1,f2,f3⟩
  exact⟨t',x',y',e,kt _ _ f1,kt _ _ f2,kt _ _ f3⟩
 rintro τ H5 ⟨x0,x1,A,rfl,Y,a7,a1,_⟩
 rw[LK,Paired.length M,Mc] at a1
 have s5:=s3.trans (s4.trans Y)
 refine bJ (aP (af (aa rfl) (af ar ao)) ⟨l,_,_,4,rfl,by decide,s5 _ _ hl,up s5,by lia,λtl fi H6 ca n6 ek d5=>?_⟩)
 obtain⟨m,rfl,X⟩:=iS (f:=iG) (S:=λa b=>MB H6 (.ref a) b) (λr e=>by cases r<;>first|rfl|exact absurd rfl e) (λv r e h=>by
  cases r<;>first|cases e|skip
  obtain⟨t,a,b,rfl,h⟩:=h
  exact⟨_,_,rfl,rfl,t,a,b,rfl,h⟩) d5
 have X:Paired (λa b=>MB H6 (.ref a) b) m (W.filterMap iG):=X
 have s6:=s5.trans ca
 have a2:ah H1 H6:=a4.trans ((s4.trans Y).trans ca)
 have ad:ah H3 H6:=(s4.trans Y).trans ca
 have C:lH H6 pr (W.filterMap FE):=bA.up (λ_ e=>a2 _ _ e) (λ_ _ e=>a2 _ _ e)
 obtain⟨b0,bD,bd⟩:=id C
 refine fZ (aP (af (aa rfl) (af (aa rfl) (af (aa rfl) ao))) ⟨za,pr,D,z,_,_,rfl,s6 _ _ F,ok.sz,bD,by rw[LK,Paired.length bd];exact ok.ly,ad _ _ R,by rw[LK];exact ok.va,λH7 s7=>?_⟩)
 refine⟨_,rfl,_,rfl,λd nd=>?_⟩
 have J:=s7.upd (o:=.dT []) nd
 refine⟨pr,D,d,W.filterMap FE,W.filterMap BE,[],rfl,C.up (λ_ e=>J _ _ e) (λ_ _ e=>J _ _ e),ok.lp,J _ _ (ad _ _ R),ok.vp,ae,(λ_ h=>nomatch h),λH8 s8=>?_⟩
 have u:ah H6 H8:=J.trans s8
 have G:=u _ _ ek
 have a5:=u _ _ (ca _ _ a7)
 have N:Paired (MB H8) (m.map V.ref) (W.filterMap iG):=gX (Paired.mapP X λ_ _ e=>e.same u)
 have U:Paired (MB H8) A (W.filterMap g9):=Paired.mapP a1 λ_ _ e=>e.same (ca.trans u)
 have lt:(W.filterMap iG).length<=300:=LR (List.length_filterMap_le _ _) lW
 have Z:∀b∈W.filterMap g9,In z b.2.1/\In z b.2.2:=λb hb=>by
  obtain⟨r,hr,e⟩:=MF.mp hb
  cases r<;>cases e
  exact⟨ok.bx _ hr _ (by simp[EF]),ok.bx _ hr _ (by simp[EF])⟩
 have ab:∀b∈W.filterMap iG,In z b.2.1/\In z b.2.2:=λb hb=>by
  obtain⟨r,hr,e⟩:=MF.mp hb
  cases r<;>cases e
  exact⟨ok.bx _ hr _ (by simp[EF]),ok.bx _ hr _ (by simp[EF])⟩
 refine⟨_,rfl,tl,rfl,⟨_,aF.of G⟩,?_⟩
 refine bN (K:=K) (xs:=m.map V.ref) (λi σ H'=>∃x6 x7 x8:Option V,σ=[some (.ref l),some (.ref za),some (.ref pr),some (.ref D),some (.ref D2),some (.ref tl),x6,x7,x8,none]/\H8=H') ⟨none,none,none,rfl,rfl⟩ (λi σ H' _ ⟨_,_,_,_,e⟩=>e▸aF.of G) ?_ ?_
 ·rintro i x σ H' hx ⟨x6,x7,x8,rfl,rfl⟩
  obtain⟨b,hb,t,bx,B,rfl,e1,_,_⟩:=ba N hx
  obtain⟨r,hr,er⟩:=MF.mp (L9 hb)
  cases r<;>cases er
  have:=ok.tl _ _ hr
  refine⟨t,_,rfl,bW.of e1,rfl,_,_,rfl,_,_,rfl,_,_,rfl,rfl,?_⟩
  exact⟨_,rfl,_,0,rfl,by lia,by lia,_,_,_,rfl,rfl⟩
 rintro σ H' ⟨x6,x7,x8,rfl,rfl⟩
 refine⟨_,rfl,_,rfl,D2,tl,_,_,rfl,rfl,a5,G,by rw[Paired.length U,Paired.length N];lia,λc nc=>?_⟩
 generalize k9:upd H8 c (.lst (A++m.map V.ref))=H9
 have g:ah H8 H9:=k9▸(ah.refl H8).upd nc
 have ap:H9 c=some (.lst (A++m.map V.ref)):=k9▸ae
 have s9:ah H H9:=s6.trans (u.trans g)
 have bt:Paired (MB H9) (A++m.map V.ref) (W.filterMap g9++W.filterMap iG):=kD (Paired.mapP U λ_ _ e=>e.same g) (Paired.mapP N λ_ _ e=>e.same g)
 refine⟨c,rfl,⟨_,aF.of ap⟩,?_⟩
 refine bN (K:=K) (xs:=A++m.map V.ref) (λi σ H'=>∃x6 x7 x8 x9:Option V,σ=[some (.ref l),some (.ref za),some (.ref pr),some (.ref D),some (.ref D2),some (.ref tl),x6,x7,x8,x9]/\H9=H') ⟨_,_,_,_,rfl,rfl⟩ (λi σ H' _ ⟨_,_,_,_,_,e⟩=>e▸aF.of ap) ?_ ?_
 ·rintro i x σ H' hx ⟨x6,x7,x8,x9,rfl,rfl⟩
  obtain⟨b,hb,t,bx,B,rfl,e1,e2,e3⟩:=ba bt hx
  obtain⟨i1,i2⟩:In z b.2.1/\In z b.2.2:=by
   rcases L_.mp (L9 hb) with h|h
   ·exact Z b h
   ·exact ab b h
  refine⟨t,_,rfl,bW.of e1,rfl,_,_,rfl,_,_,rfl,_,_,rfl,rfl,?_⟩
  refine⟨_,rfl,_,rfl,za,bx,z,b.2.1,rfl,s9 _ _ F,e2,i1,?_⟩
  exact⟨_,rfl,_,rfl,za,B,z,b.2.2,rfl,s9 _ _ F,e3,i2,_,_,_,_,rfl,rfl⟩
 rintro σ H' ⟨x6,x7,x8,x9,rfl,rfl⟩
 have fd:=ok.fd
 have bl:=u.trans g
 refine⟨_,rfl,_,rfl,_,rfl,_,rfl,D2,A,W.filterMap g9,rfl,g _ _ a5,Paired.mapP U (λ_ _ e=>e.same g),λb hb=>⟨jA ok.sz (Z b hb).1,jA ok.sz (Z b hb).2⟩,by lia,λd1 HA sA nA dm=>?_⟩
 rw[<-HI ok] at dm
 have rf:(t9 z W).rs.length<=1000:=by
  show((GL W).map (·.1)).length<=1000
  rw[LK];exact LR ok.rl (by decide)
 refine⟨d1,_,rfl,dm,trivial,trivial,by show(iH (t9 z W).rs).length<=1000;unfold iH;rw[LK];exact rf,λlr ys dV hy hk=>?_⟩
 obtain⟨as,rfl,bm⟩:=GP (H:=HA) (t9 z W).rs ys (by rw[hy];show(iH (t9 z W).rs).length=_;unfold iH;rw[LK]) λi y hy=>by
  obtain⟨v,k,b,e,rfl,hb⟩:=hk i y hy
  unfold iH at e
  rw[L7] at e
  obtain⟨p,hp,e2⟩:=MY.mp e
  cases e2
  unfold iK at hb
  rw[gK] at hb
  exact⟨p,b,hp,rfl,hb⟩
 generalize kB:upd HA lr (.lst (as.map V.ref))=HB
 have av:ah HA HB:=kB▸(ah.refl HA).upd dV
 have bn:AL HB lr (t9 z W).rs:=⟨as,kB▸ae,aX.same bm av⟩
 have ac:=sA.trans av
 refine⟨_,rfl,tl,_,W.filterMap iG,rfl,ac _ _ (g _ _ G),Paired.mapP N (λ_ _ e=>e.same (g.trans ac)),λb hb=>⟨jA ok.sz (ab b hb).1,jA ok.sz (ab b hb).2⟩,by lia,λd2 HC sC nC dl=>?_⟩
 rw[<-GY ok] at dl
 have bv:=ac.trans sC
 have am:=bl.trans bv
 intro p dx np ed ne
 have sm:ah HC (upd (upd HC dx (.own p)) p (.ins cFloor dx [])):=eN np ed
 have I:=am.trans sm
 refine⟨p,dx,za,pr,D,lr,d2,t9 z W,(t9 z W).rs,rfl,ae,fd,rf,fd.ri,vL _ (uU fd.rn),I _ _ (s6 _ _ F),C.up (λ_ e=>I _ _ e) (λ_ _ e=>I _ _ e),I _ _ (ad _ _ R),bn.same (sC.trans sm),sm _ _ dl,λH' b4 hF=>⟨rfl,?_⟩⟩
 have sF:ah H H':=(s6.trans am).trans (bU.same sm np b4)
 exact q p H' sF (da (s6.trans am) np) hF
theorem ET (B:g6 P w K mg base cBoard "Board" 6 ["self", "floor", "things"] (mf cNet cBundle cFloor cBoard))(G:aA P w K mg base "rows_told" 7 ["page"] wJ)(C:aA P w K mg base "floor_told" 5 ["told"] (sd cFloor))(F:aA P w K mg base "thing_told" 5 ["kind", "parts"] (tV cNet cBundle)):eO P w K mg base 8 "read_board" Gi ["page"] (Dj cNet cBundle cFloor cBoard):=by
 refine rd ["page", "told", "floor", "things"] λT _ _ _ _ _ H vs Q E hr h=>?_
 obtain⟨x,z,W,rfl,pg,ok,hb,hT,gk,q⟩:=h
 refine⟨_,(ai (bc 1 T (aH G hr (az (aj 0)))) (ai (bc 2 T (aH C hr (az (aj 1)))) (aN (m9 3 ["kind", "parts"] [] [] T (aD (aj 1)) (fG (K:=K) (n:=2) rfl rfl (aq (cv 0) (aq (cv 1) bq)) rfl rfl) (mD (eL (bB di (aj 0) aL) (dN (bB di (aj 0) aL))).pt) (aH (by exact F) (by exact hr) (aC (aj 0) (aj 1)))) (ay (xT B (hr.mono (by decide)) (by rfl) (aC (aj 2) (aj 3))))))),?_⟩
 have A:sizeLine=2^24:=rfl
 refine bJ (aP (af (aa rfl) ao) ⟨x,z,W,rfl,pg,ok.sz,ok.ok,λl X H1 s1 hl N=>?_⟩)
 have lu:X.length<=300:=by rw[Paired.length N];exact Ie pg
 refine bJ (aP (af (aa rfl) ao) ⟨l,X,z,W,rfl,hl,N,lu,ok,λf H2 Z nf hF=>?_⟩)
 have c:=Z _ _ hl
 refine⟨_,rfl,l,rfl,⟨_,aF.of c⟩,λD nD=>?_⟩
 refine cL (K:=K) (xs:=X) (λi J H'=>∃(U Y:Option V) (ps:List Addr),J=[U,Y]/\ah H2 H'/\H' D=some (.lst (ps.map V.ref))/\oa cNet cBundle H' ps (((.floor z::W).take i).filterMap uw)/\ps.length<=i) ⟨none,none,[],rfl,(ah.refl H2).upd nD,ae,.nil,LL _⟩ (λi J H' _ ⟨_,_,_,_,s,_⟩=>aF.of (s _ _ c)) ?_ ?_
 ·rintro i v J H' hx ⟨U,Y,ps,rfl,s,O,a,y⟩
  obtain⟨r,hr,t,u,rfl,ht,hu⟩:=ba N hx
  have hi:=bO hx
  have d:=Z.trans s
  refine⟨t,_,rfl,bW.of (d _ _ ht),rfl,?_⟩
  refine⟨_,_,rfl,gn ?_⟩
  refine⟨_,_,rfl,gn ?_⟩
  refine⟨rfl,?_⟩
  refine gN (fR (jd (j:=5) (aa rfl) (by decide)) λ_=>jd (j:=6) (aa rfl) (by decide)) (rG (λe=>?_) λe=>?_)
  ·have hk:kd r=5\/kd r=6:=by simpa using e
   obtain⟨g,hg⟩:=BV.mp hk
   have m:r∈W:=by
    rcases LS.mp (L9 hr) with rfl|h
    ·cases hg
    ·exact h
   refine aP (af (aa rfl) (af (aa rfl) ao)) ⟨u,r,g,rfl,hu.same d,hg,hT r m g hg,hb r m,λp H3 I M hA=>?_⟩
   have b:=I _ _ O
   refine⟨_,b,by rw[LK];lia,_,_,ps++[p],rfl,bK (s.trans I) nD,by rw[ae,LQ];rfl,?_,by rw[LP];show ps.length+1<=_;lia⟩
   rw[bh hr,Mj,Nr,hg,List.filterMap_nil]
   have kp:∀{p' g'},lD cNet cBundle H3 p' g'->lD cNet cBundle (upd H3 D (.lst (ps.map V.ref++[.ref p]))) p' g':=λh=>h.up (λ_ _ e=>gz b _ _ e) λ_ _ _ _ e=>by rw[ak (cQ e b (λz=>nomatch z))];exact e
   exact cI (R:=λp g=>lD cNet cBundle _ p g) (kp hA) (Paired.mapP a λ_ _ e=>kp (e.same I))
  ·have hk:¬(kd r=5\/kd r=6):=by simpa using e
   have hn:uw r=none:=by
    cases h:uw r with
    |none=>rfl
    |some g=>exact absurd (BV.mpr ⟨g,h⟩) hk
   refine⟨_,_,ps,rfl,s,O,?_,by lia⟩
   rw[bh hr,Mj,Nr,hn,List.filterMap_nil,Mb]
   exact a
 rintro J H3 ⟨U,Y,ps,rfl,I,O,a,_⟩
 rw[Paired.length N,Mc] at a
 have a:oa cNet cBundle H3 ps (W.filterMap uw):=a
 refine⟨_,rfl,_,rfl,?_⟩
 intro p dx M S ne
 have sm:ah H3 (upd (upd H3 dx (.own p)) p (.ins cBoard dx [])):=eN M S
 have o:=s1.trans (Z.trans I)
 refine⟨p,dx,f,D,ps,W.filterMap uw,t9 z W,rfl,ae,hF.same (I.trans sm),ok.sz,sm _ _ O,Paired.mapP a (λ_ _ e=>e.same sm),gk,λH' b4 hB=>⟨rfl,?_⟩⟩
 exact q p H' (o.trans (bU.same sm M b4)) (da o M) hB
theorem E7(g:aA P w K mg base "_law_same" nn ["found", "due"] (gH nn)):eO P w K mg base (nn+1) "_law_same" Gp ["found", "due"] (gH (nn+1)):=by
 refine rd ["found", "due", "k"] λI _ _ _ _ _ H vs Q E hr h=>?_
 obtain⟨v,w,rfl,hd,q⟩:=h
 refine⟨_,(ai (jc (eL (cx (br bF T.isinstance_ (aC (aj 1) (eS (v:=.ty "list") (by rfl) T.list_ jz (by rfl))))) (dN (cx (br bF T.isinstance_ (aC (aj 1) (eS (v:=.ty "tuple") (by rfl) T.tuple_ mh (by rfl))))))).pt (ai (bM (eL (bB f_ (br bF T.isinstance_ (aC (aj 1) (eS (v:=.ty "list") (by rfl) T.list_ jz (by rfl)))) (br bF T.isinstance_ (aC (aj 0) (eS (v:=.ty "list") (by rfl) T.list_ jz (by rfl))))) (dN (bB f_ (br bF T.isinstance_ (aC (aj 1) (eS (v:=.ty "tuple") (by rfl) T.tuple_ mh (by rfl)))) (br bF T.isinstance_ (aC (aj 0) (eS (v:=.ty "tuple") (by rfl) T.tuple_ mh (by rfl))))))).pt (ay c_)) (ai (bM (bB f_ (br aU T.len_ (az (aj 0))) (br aU T.len_ (az (aj 1)))) (ay c_)) (aN (dH (qT T.range_ (az (br aU T.len_ (az (aj 1))))) (aT 2 I) (aE (bM (cg (cx (aH g hr (aC (aR Bz (aj 0) (aj 2)) (aR Bz (aj 1) (aj 2)))))) (ay c_)))) (ay c_)))) fH) (aN (bM (cx (br bF T.isinstance_ (aC (aj 1) (eS (v:=.ty "str") (by rfl) T.str_ Bv (by rfl))))) (ay (gJ (br bF T.isinstance_ (aC (aj 0) (eS (v:=.ty "str") (by rfl) T.str_ Bv (by rfl)))) (h9 (q_ di (aj 0) (aj 1)))))) (ay (gJ (br bF T.isinstance_ (aC (aj 0) (eS (v:=.ty "int") (by rfl) T.int_ IG (by rfl)))) (gJ (B4 (br bF T.isinstance_ (aC (aj 0) (eS (v:=.ty "bool") (by rfl) T.bool_ Ep (by rfl))))) (h9 (q_ di (aj 0) (aj 1)))))))),?_⟩
 have f:sizeLine=2^24:=rfl
 have is:∀{s:String} {n:Nat} {x:V} {t:Value} {b:Bool} {σ:St} {H':Hp},σ[n]?=some (some x)->gS K H' x t->Mf K t (.type s)=some b->Ev (nM (λxs H Q=>∃x y c t b,xs=[x,y]/\zd y c/\gS K H x t/\Mf K t c=some b/\Q (.bl b) H) (a8 (cR n) (a8 (tC (.ty s)) dw))) σ H' (.bl b):=fun{s n x t b σ H'} F ty e=>kL ty e (.ty s) (aa F) ar
 rcases hd with ⟨i,rfl,rfl⟩|⟨x,rfl,rfl⟩|⟨a,b,vs,m,rfl,rfl,A,O,B⟩
 ·refine c9 (fR (ji (is rfl (.int i) T.kil)) λ_=>ji (is rfl (.int i) T.kit)) rfl ?_
  refine c9 (ji (is rfl (.int i) T.kis)) rfl ?_
  refine bR (cZ (aY (c:=.bl true) (jf (is rfl (.int i) T.kii) λ_=>jf (HQ (is rfl (.int i) T.kib)) λ_=>fU (i:=i) (j:=i) (aa rfl) (aa rfl)) (by simp)) (q H (ah.refl H)))
 ·refine c9 (fR (ji (is rfl (.str x) T.ksl)) λ_=>ji (is rfl (.str x) T.kst)) rfl ?_
  refine eX (ji (is rfl (.str x) T.kss)) (λ_=>?_) λe=>nomatch e
  refine bR (cZ (aY (c:=.bl true) (jf (is rfl (.str x) T.kss) λ_=>kx (x:=x) (y:=x) (aa rfl) (aa rfl)) (by simp)) (q H (ah.refl H)))
 ·obtain⟨t,o,bt,ty,p,u,D⟩:∃(t:Value) (o bt:Bool),(∀H',ah H H'->(gS K H' (.ref a) t/\gS K H' (.ref b) t)/\Kq K H' a vs/\Kq K H' b m)/\Mf K t (.type "list")=some o/\Mf K t (.type "tuple")=some bt/\(o||bt)=true:=by
   rcases A with ⟨h1,h2⟩|⟨h1,h2⟩
   ·exact⟨_,_,_,λH' s=>⟨⟨.lst (s _ _ h1),.lst (s _ _ h2)⟩,.inl (aF.of (s _ _ h1)),.inl (aF.of (s _ _ h2))⟩,T.kll,T.klt,rfl⟩
   ·exact⟨_,_,_,λH' s=>⟨⟨.tup (s _ _ h1),.tup (s _ _ h2)⟩,.inr (bW.of (s _ _ h1)),.inr (bW.of (s _ _ h2))⟩,T.ktl,T.ktt,rfl⟩
  obtain⟨⟨ta,tb⟩,z,l⟩:=ty H (ah.refl H)
  have G:vs.length=m.length:=Paired.length B
  refine eX (fR (ji (is rfl tb p)) λ_=>ji (is rfl tb u)) (λ_=>?_) λe=>by rw[D] at e;cases e
  refine c9 (fR (aB (CK (is rfl tb p) (is rfl ta p))) λ_=>aB (CK (is rfl tb u) (is rfl ta u))) (by cases o<;>cases bt<;>rfl) ?_
  refine c9 (aB (iz (qh (aa rfl) z) (qh (aa rfl) l))) (by rw[G];simp) ?_
  refine qy (j:=((m.length:Nat):Int)) (af (qh (aa rfl) l) ao) (by lia) (by lia) ?_
  rw[MH]
  refine dC (n:=m.length) (λi σ H'=>∃r:Option V,σ=[some (.ref a),some (.ref b),r]/\ah H H') ⟨_,rfl,ah.refl H⟩ ?_ ?_
  ·rintro i σ H' hi ⟨r,rfl,s⟩
   refine gn ?_
   obtain⟨x,C⟩:∃x,vs[i]?=some x:=⟨_,Mi (by lia)⟩
   obtain⟨y,M,d⟩:=ba B C
   refine fF (σ':=[some (.ref a),some (.ref b),some (.int (i:Nat))]) (by rw[show(0:Int)+(i:Nat)=(i:Nat) by lia];rfl) ?_
   refine Aw (En (v:=x) (w:=y) (λH1 N=>?_) (d.same s)) (λe=>nomatch e) λ_ H2 J=>⟨_,rfl,s.trans J⟩
   obtain⟨_,z,l⟩:=ty H1 (s.trans N)
   exact af (BC (aa rfl) (aa rfl) z (bS C)) (af (BC (aa rfl) (aa rfl) l (bS M)) ao)
  ·rintro σ H' ⟨r,rfl,s⟩
   exact q H' s
theorem Av:eO P w K mg base 1 "spot_word" Dg ["spot"] qS:=by
 refine rd ["spot", "layer", "row", "column"] λb _ _ _ _ _ H vs Q E hr h=>?_
 obtain⟨t,p,rfl,c,d,q⟩:=h
 refine⟨_,(aN (eY (aj 0) (cV rfl (aq (aT 1 b) (aq (aT 2 b) (aq (aT 3 b) bq))))) (ay (B5 (DA.cons (uR (aj 1)) (DA.cons (BU aL) (DA.cons (uR (aj 2)) (DA.cons (BU aL) (DA.cons (uR (aj 3)) DA.nil)))))))),?_⟩
 refine mS (aa rfl) (bW.of c) ?_
 have a:∀s:Str,cp s=dr p->Q (.str s) H:=λs e=>by rw[hZ e];exact q
 refine⟨[toString ((p.1:Nat):Int),Str.ofString ".",toString ((p.2.1:Nat):Int),Str.ofString ".",toString ((p.2.2:Nat):Int)],?_,a _ ?_⟩
 ·exact⟨_,_,rfl,⟨_,rfl,rfl,_,rfl,IX (by lia),rfl⟩,_,_,rfl,rfl,_,_,rfl,⟨_,rfl,rfl,_,rfl,IX (by lia),rfl⟩,_,_,rfl,rfl,_,_,rfl,⟨_,rfl,rfl,_,rfl,IX (by lia),rfl⟩,rfl⟩
 ·show cp (Str.empty++_++_++_++_++_)=_
  rw[fB,fB,fB,fB,fB,qQ,qQ,qQ,KY]
  show([]:List Nat)++dg p.1++[46]++dg p.2.1++[46]++dg p.2.2=dg p.1++46::(dg p.2.1++46::dg p.2.2)
  simp
theorem CL:eO P w K mg base 1 "row_of" Ca ["kind", "numbers"] vW:=by
 refine rd ["kind", "numbers"] λA _ _ _ _ _ H vs Q E hr h=>?_
 obtain⟨k,t,ns,rfl,ht,C,m,B,q⟩:=h
 refine⟨_,(aE (ay (iw (K:=K) rfl rfl (az (au dk (bg (az (aj 0))) (eI ["number"] [] [] (u6 (aj 1)) (cv 0) bj (cK bf (by exact T.str_) (az (aj 0))))))))),?_⟩
 refine bR (eo ar rfl (aG (dW (dM (vs:=[.str k]) (af (aa rfl) ao) (by show 1<=sizeLine;decide) λf r=>?_))))
 have d:=(ah.refl H).upd (o:=.lst [.str k]) r
 have j:upd H f (.lst [.str k]) f=some (.lst [.str k]):=ae
 revert d j
 generalize upd H f (.lst [.str k])=H0
 intro d j
 have a:∀(J:It) (D:Addr),H0 D=none->((J=nL K t/\H0 t=some (.lst (ni ns)))\/(J=Ej K t/\H0 t=some (.tup (ni ns))))->_:=λJ D g u=>xi (K:=K) (rest:=[]) (Q:=λH'=>Hk (.ref f) (.ref D) H' λx H1=>∃z l ts,V.str (Str.ofString " ")=.str z/\[x]=[.ref l]/\aF K H1 l (ts.map V.str)/\JoinOk z ts=true/\Q (.str (Txt.join z ts)) H1) ns m (by lia) u g λH' p y=>by
  refine⟨f,D,_,_,rfl,rfl,p _ _ j,y,by rw[LK,LK];show 1+ns.length<=sizeLine;exact LR (show 1+ns.length<=11 by lia) (by decide),λc s=>?_⟩
  have e:[V.str k]++(ns.map dg).map sv=(cp k::ns.map dg).map sv:=by rw[L1];unfold sv;rw[wd];rfl
  rw[e]
  refine jJ xA ae (λw hw=>?_) (by rw[L5,LK];lia) (q _ ((d.trans p).upd s))
  rcases LS.mp hw with rfl|hw
  ·rw[cu];lia
  ·obtain⟨n,b,rfl⟩:=LN.mp hw
   exact LR (cj (k:=14) (by decide) (m n b)) (by decide)
 rcases ht with ht|ht
 ·exact .inr ⟨_,rfl,t,rfl,⟨_,bW.of (d _ _ ht)⟩,λD g=>a _ D g (.inr ⟨rfl,d _ _ ht⟩)⟩
 ·exact .inl ⟨_,rfl,t,rfl,⟨_,aF.of (d _ _ ht)⟩,λD g=>a _ D g (.inl ⟨rfl,d _ _ ht⟩)⟩
theorem yZ (d:aA P w K mg base "spot_word" 1 ["spot"] qS):eO P w K mg base 2 "spot_words" xY ["spots"] mm:=by
 refine rd ["spots"] λm _ _ _ _ _ H vs Q E hr h=>?_
 obtain⟨t,as,ps,rfl,ht,c,sm,n,q⟩:=h
 refine⟨_,(aE (ay (eI ["spot"] [] [] (u6 (aj 0)) (cv 0) bj (aH (by exact d) (by exact hr) (az (aj 0)))))),?_⟩
 have b:∀(J:It) (D:Addr),H D=none->((J=nL K t/\H t=some (.lst (as.map V.ref)))\/(J=Ej K t/\H t=some (.tup (as.map V.ref))))->_:=λJ D e g=>mP (K:=K) (rest:=[]) (Q:=λH'=>Q (.ref D) H') (te:=dY qS [] E0 (a8 (cR 0) dw)) dr g c e (by lia) (λa p H' f ha Qv l=>aP (af (aa rfl) ao) ⟨a,p,rfl,ha,sm p f,l H' (ah.refl H')⟩) λH' s j=>q D H' s e j
 rcases ht with ht|ht
 ·exact .inr ⟨_,rfl,t,rfl,⟨_,bW.of ht⟩,λD e=>b _ D e (.inr ⟨rfl,ht⟩)⟩
 ·exact .inl ⟨_,rfl,t,rfl,⟨_,aF.of ht⟩,λD e=>b _ D e (.inl ⟨rfl,ht⟩)⟩
theorem FI (c:aA P w K mg base "spot_words" 2 ["spots"] mm):eO P w K mg base 3 "run_words" Gb ["first", "last"] um:=by
 refine rd ["first", "last"] λx _ _ _ _ _ H vs Q E hr h=>?_
 obtain⟨a,b,f,s,rfl,ha,r,sm,q⟩:=h
 refine⟨_,(aE (ay (aH c hr (az (fw (bB (vI hr) (aj 0) (aj 1)) (bg (az (aj 0))) (bg (aC (aj 0) (aj 1)))))))),?_⟩
 refine bR (bI (aG (gN (Bt rfl rfl ha r) (rG (λe=>?_) λe=>?_))))
 ·have e:f=s:=of_decide_eq_true e
  refine dM (vs:=[.ref a]) (af (aa rfl) ao) (by show 1<=sizeLine;decide) λl nl=>?_
  have d:=(ah.refl H).upd (o:=.lst [.ref a]) nl
  refine⟨l,[a],[f],rfl,.inr ae,.cons (d _ _ ha) .nil,λp u=>sm p (LS.mpr (.inl (LY.mp u))),by show 1<=18;decide,λm H' j n g=>q m H' (d.trans j) (da d n) ?_⟩
  unfold cr
  rw[if_pos e];exact g
 ·have e:¬f=s:=of_decide_eq_false e
  refine dM (vs:=[.ref a,.ref b]) (af (aa rfl) (af (aa rfl) ao)) (by show 2<=sizeLine;decide) λl nl=>?_
  have d:=(ah.refl H).upd (o:=.lst [.ref a,.ref b]) nl
  refine⟨l,[a,b],[f,s],rfl,.inr ae,.cons (d _ _ ha) (.cons (d _ _ r) .nil),sm,by show 2<=18;decide,λm H' j n g=>q m H' (d.trans j) (da d n) ?_⟩
  unfold cr
  rw[if_neg e];exact g
theorem Ey (f:aA P w K mg base "spot_words" 2 ["spots"] mm):eO P w K mg base 3 "thing_row" F5 ["thing"] (vH cNet cBundle):=by
 refine rd ["thing", "words"] λW _ _ _ _ _ H vs Q E hr h=>?_
 obtain⟨p,g,rfl,th,ok,q⟩:=h
 refine⟨_,(ai (jc (cx (br bF T.isinstance_ (aC (aj 0) (iA (by rfl) T.mg_Net)))) (aN (bc 1 W (bg (aw aL (aw (a9 (aj 0) rfl) (aC (cK bf T.str_ (az (a9 (aj 0) rfl))) (cK bf T.str_ (az (a9 (aj 0) rfl)))))))) (ay (iw (K:=K) rfl rfl (az (au dk (aj 1) (aH f hr (az (a9 (aj 0) rfl)))))))) fH) (aN (bc 1 W (bg (aw aL (aC (a9 (aj 0) rfl) (cK bf T.str_ (az (a9 (aj 0) rfl))))))) (ay (iw (K:=K) rfl rfl (az (au dk (au dk (au dk (aj 1) (aH f hr (az (a9 (aj 0) rfl)))) (bg (az aL))) (aH f hr (az (a9 (aj 0) rfl))))))))),?_⟩
 have d:sizeLine=2^24:=rfl
 have x:=pM ok
 have hh:=ok.hh
 have rr:=ok.rr
 have N:=ok.s4
 have sh:=ok.sh
 rcases th with ⟨S,dx,fs,t,h1,b,h2,as,U,M⟩|⟨S,eh,dx,fs,t,u,h1,b,h2,U,⟨as,M,h5⟩,bs,Z,h7⟩
 ·have D:pC g=.net g.nm g.h g.r g.ss:=if_pos S
  rw[D] at x q
  obtain⟨sm,Y,_⟩:=id x
  refine eX (ji (kL (.ins h1 T.cl_Net T.qN T.qg T.qt T.oN) T.kNN (.ref cNet) (aa rfl) ar)) (λ_=>?_) λe=>nomatch e
  refine gj (vs:=[.str (Str.ofString "net"),sv g.nm,sv (dg g.h),sv (dg g.r)]) (af ar (af (bQ (aa rfl) h1 T.cl_Net T.na_Net_name b.name) (af (fV (bQ (aa rfl) h1 T.cl_Net T.na_Net_half b.half) (by lia)) (af (fV (bQ (aa rfl) h1 T.cl_Net T.na_Net_room b.room) (by lia)) ao)))) (by show 4<=sizeLine;decide) λm G=>?_
  have j:=(ah.refl H).upd (o:=.lst [.str (Str.ofString "net"),sv g.nm,sv (dg g.h),sv (dg g.r)]) G
  have n:upd H m (.lst [.str (Str.ofString "net"),sv g.nm,sv (dg g.h),sv (dg g.r)]) m=some (.lst [.str (Str.ofString "net"),sv g.nm,sv (dg g.h),sv (dg g.r)]):=ae
  revert j n
  generalize upd H m _=H0
  intro j n
  refine bR (eo ar rfl (aG (dW (cZ (aa rfl) (bI (a_ (bQ (aa rfl) (j _ _ h1) T.cl_Net T.na_Net_pins h2) ⟨t,as,g.ss,rfl,.inl (j _ _ U),aX.same M j,sm,Y,λl H1 y nl s=>⟨m,l,_,_,rfl,rfl,y _ _ n,s,by rw[LK,LK];show 4+g.ss.length<=sizeLine;lia,λc I=>?_⟩⟩))))))
  refine iM x ?_ (q _ ((j.trans y).upd I))
  rw[ae,Eo]
 ·have D:pC g=.bun g.nm g.r g.ss g.gs:=if_neg S
  rw[D] at x q
  obtain⟨sm,Cp,Y,_⟩:=id x
  refine c9 (ji (kL (.ins h1 T.cl_Bundle T.qB T.qg T.qt T.oB) T.kBN (.ref cNet) (aa rfl) ar)) rfl ?_
  refine gj (vs:=[.str (Str.ofString "bundle"),sv g.nm,sv (dg g.r)]) (af ar (af (bQ (aa rfl) h1 T.cl_Bundle T.na_Bundle_name b.name) (af (fV (bQ (aa rfl) h1 T.cl_Bundle T.na_Bundle_room b.room) (by lia)) ao))) (by show 3<=sizeLine;decide) λm G=>?_
  have j:=(ah.refl H).upd (o:=.lst [.str (Str.ofString "bundle"),sv g.nm,sv (dg g.r)]) G
  have n:upd H m (.lst [.str (Str.ofString "bundle"),sv g.nm,sv (dg g.r)]) m=some (.lst [.str (Str.ofString "bundle"),sv g.nm,sv (dg g.r)]):=ae
  revert j n
  generalize upd H m _=H0
  intro j n
  refine bR (eo ar rfl (aG (dW (dW (dW (cZ (aa rfl) (bI (a_ (bQ (aa rfl) (j _ _ h1) T.cl_Bundle T.na_Bundle_starts h2) ⟨t,as,g.ss,rfl,.inl (j _ _ M),aX.same h5 j,sm,by lia,λl H1 y nl s=>⟨m,l,_,_,rfl,rfl,y _ _ n,s,by rw[LK,LK];show 3+g.ss.length<=sizeLine;lia,λc I=>?_⟩⟩))))))))
  have J:ah H0 (upd H1 c (.lst ([.str (Str.ofString "bundle"),sv g.nm,sv (dg g.r)]++(g.ss.map dr).map sv))):=y.upd I
  have A:upd H1 c (.lst ([.str (Str.ofString "bundle"),sv g.nm,sv (dg g.r)]++(g.ss.map dr).map sv)) c=some (.lst ([.str (Str.ofString "bundle"),sv g.nm,sv (dg g.r)]++(g.ss.map dr).map sv)):=ae
  revert J A
  generalize upd H1 c _=H2
  intro J A
  refine dM (vs:=[.str (Str.ofString "to")]) (af ar ao) (by show 1<=sizeLine;decide) λl1 X=>⟨c,l1,_,_,rfl,rfl,by rw[ak (ax A X)];exact A,ae,by simp only[LP,LK];show 3+g.ss.length+1<=sizeLine;lia,λz B=>?_⟩
  have F:ah H2 (upd (upd H2 l1 (.lst [.str (Str.ofString "to")])) z (.lst ([.str (Str.ofString "bundle"),sv g.nm,sv (dg g.r)]++(g.ss.map dr).map sv++[.str (Str.ofString "to")]))):=((ah.refl H2).upd X).upd B
  have C:upd (upd H2 l1 (.lst [.str (Str.ofString "to")])) z (.lst ([.str (Str.ofString "bundle"),sv g.nm,sv (dg g.r)]++(g.ss.map dr).map sv++[.str (Str.ofString "to")])) z=some (.lst ([.str (Str.ofString "bundle"),sv g.nm,sv (dg g.r)]++(g.ss.map dr).map sv++[.str (Str.ofString "to")])):=ae
  revert F C
  generalize upd (upd H2 l1 _) z _=H3
  intro F C
  have a:=j.trans (J.trans F)
  refine bI (a_ (bQ (aa rfl) (a _ _ h1) T.cl_Bundle T.na_Bundle_goals U) ⟨u,bs,g.gs,rfl,.inl (a _ _ Z),aX.same h7 a,Cp,by lia,λl H4 N nl R=>⟨z,l,_,_,rfl,rfl,N _ _ C,R,by simp only[LP,LK];show 3+g.ss.length+1+g.gs.length<=sizeLine;lia,λc4 O=>?_⟩⟩)
  refine iM x ?_ (q _ ((a.trans N).upd O))
  rw[ae,Ea]
theorem Et (ad:aA P w K mg base "goes_on" 1 ["run", "spot", "mark"] sy):eO P w K mg base 2 "runs" GB ["marks"] vN:=by
 refine rd ["marks", "found", "spot"] λnd _ _ _ _ _ H vs Q E hr h=>?_
 obtain⟨e,d,pl,rfl,he,ri,hk,hM,q⟩:=h
 refine⟨_,(ai (bc 1 nd (bg dj)) (aN (dH (aD (br (eQ rfl) T.sorted_ (az (aj 0)))) (aT 2 nd) (aE (jc (ie (bB oK (br aU T.len_ (az (aj 1))) ag) (iP (cx (aH ad hr (aw (aR aV (aj 1) (oG j9 ag)) (aC (aj 2) (gV (bL.one hr) (aj 0) (aj 2) (λ_ _=>rfl)))))))).pt (aE (eY (bZ (aw (aR aI (aR aV (aj 1) (oG j9 ag)) ag) (aC (aj 2) (gV (bL.one hr) (aj 0) (aj 2) (λ_ _=>rfl))))) (GZ (aj 1) (oG j9 ag) zM))) (aE (aO (dh Mm Nk Nl dD (aj 1) (az (bZ (aw (aj 2) (aC (aj 2) (gV (bL.one hr) (aj 0) (aj 2) (λ_ _=>rfl)))))))))))) (ay (aj 1)))),?_⟩
 have Z:sizeLine=2^24:=rfl
 refine⟨by show 0<=sizeLine;decide,λl nl=>?_⟩
 have s0:ah H (upd H l (.lst [])):=(ah.refl H).upd nl
 have l0:upd H l (.lst []) l=some (.lst []):=ae
 revert s0 l0
 generalize upd H l (.lst [])=H1
 intro s0 l0
 have nd:=dq ri
 refine⟨_,rfl,e,eG d,(d.map (·.1)).map t3,rfl,s0 _ _ he,ma d,rB _,by rw[LK,LK];exact hk,gv ri,λsl bs ds an ht hp hs=>?_⟩
 obtain⟨ss,rfl,N⟩:=mM hp hs
 obtain rfl:=jk N (gw ri)
 have s2:ah H1 (upd H1 sl (.lst (bs.map V.ref))):=(ah.refl H1).upd an
 have e2:upd H1 sl (.lst (bs.map V.ref)) sl=some (.lst (bs.map V.ref)):=ae
 have M:sl≠l:=λz=>by rw[z,l0] at an;cases an
 revert s2 e2
 generalize upd H1 sl (.lst (bs.map V.ref))=H2
 intro s2 e2
 have lb:bs.length=d.length:=by rw[Paired.length ht,LK,LK]
 have U:e≠l:=ax he nl
 refine⟨sl,rfl,⟨_,aF.of e2⟩,bN (K:=K) (a:=sl) (xs:=bs.map V.ref) (λi σ H'=>∃(x2:Option V) (us:List V),σ=[some (.ref e),some (.ref l),x2]/\Sb l H2 H'/\H' l=some (.lst us)/\Paired (RT H') us (cm (d.take i)))
  ⟨none,[],rfl,Sb.refl l H2,s2 _ _ l0,.nil⟩ (λi σ H' _ ⟨_,_,_,sb,_⟩=> .inl (.inl (sb _ _ M e2))) ?_ ?_⟩
 ·rintro i v σ H3 hi ⟨x2,us,rfl,x,n,f⟩
  obtain⟨b,hb,rfl⟩:=dR hi
  have X:=bO hb
  obtain⟨c,hc,m⟩:=fj ht hb
  rw[LV] at hc
  obtain⟨s,J,rfl⟩:=fT hc
  have m:A3 H1 b s.1:=m
  have sm:=L9 J
  have tk:∀{H':Hp} {b:Addr} {ys:List V},Sb l H2 H'->H1 b=some (.tup ys)->H' b=some (.tup ys):=fun{H' b ys} sb h=>sb _ _ (cQ h l0 (by intro z;cases z)) (s2 _ _ h)
  have S:H2 e=some (.dT (eG d)):=s2 _ _ (s0 _ _ he)
  have gd:∀{H':Hp},Sb l H2 H'->jy H' e (.ref b) (some s.2):=fun{H'} sb=>by
   have g:=rM (sb _ _ U S) (tk sb m)
   rwa [pQ nd sm] at g
  have W:=hM s sm
  have lu:us.length<=i:=by
   have h1:=ku (d.take i)
   rw[Mg] at h1
   rw[Paired.length f];lia
  refine gn ?_
  have G:∀{H4 H5:Hp} {us:List V} {rs:List Rn} {xs:List V},H4 l=some (.lst xs)->ah H4 H5->Paired (RT H4) us rs->∀o,Paired (RT (upd H5 l o)) us rs:=λh s p o=>Paired.mapP p λ_ _ w=>w.up λb ys e=>by rw[ak (cQ (s _ _ e) (s _ _ h) (λz=>nomatch z))];exact s _ _ e
  have I:∀{H':Hp},Sb l H2 H'->H' l=some (.lst us)->Paired (RT H') us (cm (d.take i))->cm (d.take (i+1))=cm (d.take i)++[(s.1,s.1,s.2)]->mO (Gc K "list" lK (cR 1) (a8 (nQ (a8 (cR 2) (a8 (cR 2) (a8 (wM (cR 0) (cR 2)) dw)))) dw)) {nx:=λσ H'=>∃(x2:Option V) (us:List V),σ=[some (.ref e),some (.ref l),x2]/\Sb l H2 H'/\H' l=some (.lst us)/\Paired (RT H') us (cm (d.take (i+1))),rt:=Q} [some (.ref e),some (.ref l),some (.ref b)] H':=by
   intro H4 A j F er
   refine⟨_,rfl,.inl ⟨rfl,_,aF.of j⟩,eP (af (aa rfl) (af (aa rfl) (af (iZ (aa rfl) (aa rfl) (gd A)) ao))) (by show 3<=sizeLine;decide) λt nt=>?_⟩
   have s5:ah H4 (upd H4 t (.tup [.ref b,.ref b,s.2])):=(ah.refl H4).upd nt
   have e5:upd H4 t (.tup [.ref b,.ref b,s.2]) t=some (.tup [.ref b,.ref b,s.2]):=ae
   revert s5 e5
   generalize upd H4 t (.tup [.ref b,.ref b,s.2])=H5
   intro s5 e5
   have y:=A.trans (Sb.of s5)
   have B:=s5 _ _ j
   refine⟨l,_,_,rfl,rfl,B,by lia,_,us++[.ref t],rfl,y.trans (Sb.refl l H5).set,ae,?_⟩
   rw[er]
   refine cI ?_ (G j s5 F _)
   have kt:∀b ys,H5 b=some (.tup ys)->upd H5 l (.lst (us++[.ref t])) b=some (.tup ys):=λb ys e=>by rw[ak (cQ e B (λz=>nomatch z))];exact e
   exact⟨t,b,b,rfl,kt _ _ e5,kt _ _ (tk y m),kt _ _ (tk y m)⟩
  have et:d.take (i+1)=d.take i++[s]:=bh J
  cases eg:(cm (d.take i)).getLast? with
  |none=>
   have e0:=List.getLast?_eq_none_iff.mp eg
   have er:cm (d.take (i+1))=cm (d.take i)++[(s.1,s.1,s.2)]:=by rw[et,fM];exact ny λr h=>nomatch eg.symm.trans h
   have eu:us=[]:=by rw[e0] at f;cases f;rfl
   refine jH (A2 (a:=false) (cH (aB (rS (dJ (K:=K) (aa rfl) n) ar)) (by rw[eu];rfl)) (λz=>nomatch z) λ_=>eF (I x n f er))
  |some r=>
   obtain⟨D,u,Y,eu,R,O,hu⟩:=Fx f eg
   obtain⟨t1,fa,la,rfl,g1,g2,g3⟩:=id hu
   have rm:=kf _ r (List.mem_of_getLast? eg)
   have C:∀{H':Hp},H' l=some (.lst us)->Ev (fv (ow K) (cR 1) (KH (rU λi=>V.int (-i)) (tC (.int 1)))) [some (.ref e),some (.ref l),some (.ref b)] H' (.ref t1):=fun{H'} h=>cM (aa rfl) (EI ar) (aF.of h) (by rw[eu];exact r_)
   refine jH (A2 (a:=true) (cH (aB (rS (dJ (K:=K) (aa rfl) n) ar)) (by rw[eu];simp)) (λ_=>?_) (λz=>nomatch z))
   refine aP (af (C n) (af (aa rfl) (af (iZ (aa rfl) (aa rfl) (gd x)) ao))) ⟨t1,b,fa,la,r.1,r.2.1,s.1,r.2.2,s.2,pl,rfl,g1,g3,tk x m,W,hM _ (List.mem_of_mem_take rm.2),λH4 s4=>⟨_,rfl,?_⟩⟩
   have A:=x.trans (Sb.of s4)
   have j:=s4 _ _ n
   have F:Paired (RT H4) us (cm (d.take i)):=Paired.mapP f λ_ _ w=>w.up λ_ _ e=>s4 _ _ e
   by_cases go:lC r s
   ·rw[decide_eq_true (show lC (r.1,r.2.1,r.2.2) (s.1,s.2) from go)]
    refine i_ ?_
    refine eP (af (fc (C j) ar (bW.of (s4 _ _ g1)) rfl) (af (aa rfl) (af (iZ (aa rfl) (aa rfl) (gd A)) ao))) (by show 3<=sizeLine;decide) λt nt=>?_
    have s5:ah H4 (upd H4 t (.tup [.ref fa,.ref b,s.2])):=(ah.refl H4).upd nt
    have e5:upd H4 t (.tup [.ref fa,.ref b,s.2]) t=some (.tup [.ref fa,.ref b,s.2]):=ae
    revert s5 e5
    generalize upd H4 t (.tup [.ref fa,.ref b,s.2])=H5
    intro s5 e5
    have y:=A.trans (Sb.of s5)
    have B:=s5 _ _ j
    refine⟨_,rfl,1,rfl,l,_,-1,D.length,rfl,rfl,B,by rw[eu];exact A5 _ _,?_⟩
    refine⟨_,D++[.ref t],rfl,y.trans (Sb.refl l H5).set,?_,?_⟩
    ·rw[ae,eu,List.set_append_right _ _ (LL _),Nat.sub_self];rfl
    ·rw[et,fM,R,wQ go]
     refine cI ?_ (G j s5 (Paired.mapP O λ_ _ w=>w.up λ_ _ e=>s4 _ _ e) _)
     have kt:∀b ys,H5 b=some (.tup ys)->upd H5 l (.lst (us.set D.length (.ref t))) b=some (.tup ys):=λb ys e=>by rw[ak (cQ e B (λz=>nomatch z))];exact e
     exact⟨t,fa,b,rfl,kt _ _ e5,kt _ _ (s5 _ _ (s4 _ _ g2)),kt _ _ (tk y m)⟩
   ·rw[decide_eq_false (show¬lC (r.1,r.2.1,r.2.2) (s.1,s.2) from go)]
    exact eF (I A j F (by rw[et,fM];exact ny λr' h=>by rw[eg] at h;cases h;exact go))
 ·rintro σ H3 ⟨x2,us,rfl,x,n,f⟩
  rw[LK,lb,Mc] at f
  exact⟨_,rfl,q l us H3 (((Sb.of (s0.trans s2)).trans x).same nl) nl n f⟩
theorem zI (y:cn P w K mg base cFloor "rocks_told" 1 ["self"] (ql cFloor))(z:aA P w K mg base "runs" 2 ["marks"] vN)(A:aA P w K mg base "run_words" 3 ["first", "last"] um):eO P w K mg base 4 "rock_rows" Bu ["floor"] (xM cFloor):=by
 refine rd ["floor", "marks"] λF _ _ _ _ _ H vs Q E hr h=>?_
 obtain⟨p,g,e,j,rfl,R,sz,fs,q⟩:=h
 refine⟨_,(aN (bc 1 F (cK (fW rfl hr) T.dict_ (az (eI ["spot"] [] [] (aD (ff (aj 0) T.cl_Floor y (hr.mono (by decide)))) (cv 0) bj (bZ (aC (aj 0) c_)))))) (ay (eI ["first", "last", "mark"] [] [] (aD (aH z hr (az (aj 1)))) (fG (K:=K) (n:=3) rfl rfl (aq (cv 0) (aq (cv 1) (aq (cv 2) bq))) rfl rfl) bj (iw (K:=K) rfl rfl (az (au dk (bg (az aL)) (aH (by exact A) (by exact hr) (aC (aj 0) (aj 1))))))))),?_⟩
 have f:sizeLine=2^24:=rfl
 obtain⟨dx,fl,za,pa,va,ra,ta,x⟩:=id R
 have rl:=fs.rl
 refine bJ (qE (fg (aa rfl) x.ha (x.no _ (by simp[Do])) ⟨p,g,rfl,R,fs.ln,fs.mo,λl ss H1 s1 nl ⟨as,Z,ht⟩ hs=>⟨l,rfl,⟨_,aF.of Z⟩,λD nD=>?_⟩⟩))
 obtain rfl:=jk hs fs.srt
 refine F0 Z ht nD (by lia) λH2 es s2 hD J=>⟨D,es,_,rfl,hD,J,λd F=>?_⟩
 rw[vL _ (uU (dq fs.r1)),<-DC]
 have C:ah H (upd H2 d (.dT (eG (mj ss)))):=(s1.trans s2).upd F
 have hd:upd H2 d (.dT (eG (mj ss))) d=some (.dT (eG (mj ss))):=ae
 revert C hd
 generalize upd H2 d _=H3
 intro C hd
 have b:(mj ss).length<=500:=by unfold mj;rw[LK];exact rl
 refine bR (aP (af (aa rfl) ao) ⟨d,mj ss,true,rfl,hd,by rw[qA];exact fs.r1,by lia,λp J=>?_,λm us H4 U nm W hr=>⟨m,rfl,⟨_,aF.of W⟩,λD2 B=>?_⟩⟩)
 ·obtain⟨c,_,rfl⟩:=LN.mp J
  rfl
 have rn:=ku (mj ss)
 refine eT (K:=K) (λr=>rt (Gr r)) (λτ=>∃O x1 N:Option V,τ=[O,x1,N]) ⟨none,none,none,rfl⟩ W hr B (by lia) ?_ λH' s G=>q D2 H' ((C.trans U).trans s) (da (C.trans U) B) G
 rintro u r τ H' a ⟨t,fa,la,rfl,h1,h2,h3⟩ s ⟨O,x1,N,rfl⟩ X Y qv
 have sm:=fs.rk sz a
 refine⟨t,_,rfl,bW.of (s _ _ h1),rfl,_,_,rfl,gn ⟨_,_,rfl,gn ⟨_,_,rfl,gn ⟨rfl,dQ ?_⟩⟩⟩⟩
 refine eo ar rfl (aG (dW (dM (vs:=[.str (Str.ofString "rock")]) (af ar ao) (by show 1<=sizeLine;decide) λl0 n0=>?_)))
 have I:=(ah.refl H').upd (o:=.lst [.str (Str.ofString "rock")]) n0
 refine aP (af (aa rfl) (af (aa rfl) ao)) ⟨fa,la,r.1,r.2.1,rfl,I _ _ (s _ _ h2),I _ _ (s _ _ h3),sm,λl H5 S nl M=>⟨l0,l,_,_,rfl,rfl,S _ _ ae,M,?_,λc nc=>iM (vy sm) ?_ (qv _ _ ⟨_,_,_,rfl⟩ ((I.trans S).upd nc))⟩⟩
 ·have:=(xJ sm).2
  rw[LK,LK]
  show 1+(cr r.1 r.2.1).length<=sizeLine
  lia
 ·rw[ae]
  show some (HO.lst (V.str (kS 3)::_))=some (HO.lst (sv (cp (kS 3))::_))
  rw[rJ];rfl
theorem BR (y:cn P w K mg base cFloor "tolls_told" 1 ["self"] (qd cFloor))(z:aA P w K mg base "runs" 2 ["marks"] vN)(A:aA P w K mg base "run_words" 3 ["first", "last"] um):eO P w K mg base 4 "toll_rows" CH ["floor"] (xW cFloor):=by
 refine rd ["floor", "marks"] λG _ _ _ _ _ H vs Q E hr h=>?_
 obtain⟨p,g,f,a,rfl,U,sz,fs,q⟩:=h
 refine⟨_,(aN (bc 1 G (cK (fW rfl hr) T.dict_ (az (ff (aj 0) T.cl_Floor y (hr.mono (by decide)))))) (ay (eI ["first", "last", "toll"] [] [] (aD (aH z hr (az (aj 1)))) (fG (K:=K) (n:=3) rfl rfl (aq (cv 0) (aq (cv 1) (aq (cv 2) bq))) rfl rfl) bj (iw (K:=K) rfl rfl (az (au dk (bg (aC aL (cK bf (by exact T.str_) (az (aj 2))))) (aH (by exact A) (by exact hr) (aC (aj 0) (aj 1))))))))),?_⟩
 have j:sizeLine=2^24:=rfl
 obtain⟨dx,fl,za,pa,va,ra,ta,x⟩:=id U
 have tl:=fs.tl
 refine bJ (qE (fg (aa rfl) x.ha (x.no _ (by simp[Do])) ⟨p,g,rfl,U,tl.2,fs.t2,λl ss H1 s1 nl ⟨bs,hl,ht⟩ hs=>?_⟩))
 rw[fs.tq ss hs] at ht
 refine⟨l,bs,_,rfl,hl,Fh ht (λp F=>let ⟨n,e,_⟩:=(fs.t4 p F).2;⟨n,e⟩),λd G=>?_⟩
 rw[vL _ (Dq (dq fs.t1))]
 have C:ah H (upd H1 d (.dT (eG a))):=s1.upd G
 have hd:upd H1 d (.dT (eG a)) d=some (.dT (eG a)):=ae
 revert C hd
 generalize upd H1 d _=H3
 intro C hd
 refine bR (aP (af (aa rfl) ao) ⟨d,a,false,rfl,hd,fs.t1,by lia,λp F=>let ⟨n,e,_⟩:=(fs.t4 p F).2;⟨_,e⟩,λm us H4 N nm O hr=>⟨m,rfl,⟨_,aF.of O⟩,λD2 B=>?_⟩⟩)
 have rn:=ku a
 refine eT (K:=K) (λr=>rt (GA r)) (λR=>∃S Z M:Option V,R=[S,Z,M]) ⟨none,none,none,rfl⟩ O hr B (by lia) ?_ λH' s I=>q D2 H' ((C.trans N).trans s) (da (C.trans N) B) I
 rintro u r R H' b ⟨t,fa,la,rfl,h1,h2,h3⟩ s ⟨S,Z,M,rfl⟩ X Y qv
 have tk:=fs.tk sz b
 obtain⟨sm,n,en,n1⟩:=id tk
 refine⟨t,_,rfl,bW.of (s _ _ h1),rfl,_,_,rfl,gn ⟨_,_,rfl,gn ⟨_,_,rfl,gn ⟨rfl,dQ ?_⟩⟩⟩⟩
 refine eo ar rfl (aG (dW (dM (vs:=[.str (Str.ofString "toll"),sv (dg n)]) (af ar (af (fV (aa (by rw[en];rfl)) (by lia)) ao)) (by show 2<=sizeLine;decide) λl0 n0=>?_)))
 have D:=(ah.refl H').upd (o:=.lst [.str (Str.ofString "toll"),sv (dg n)]) n0
 refine aP (af (aa rfl) (af (aa rfl) ao)) ⟨fa,la,r.1,r.2.1,rfl,D _ _ (s _ _ h2),D _ _ (s _ _ h3),sm,λl H5 W nl J=>⟨l0,l,_,_,rfl,rfl,W _ _ ae,J,?_,λc nc=>iM (ve tk) ?_ (qv _ _ ⟨_,_,_,rfl⟩ ((D.trans W).upd nc))⟩⟩
 ·have:=(xJ sm).2
  rw[LK,LK]
  show 2+(cr r.1 r.2.1).length<=sizeLine
  lia
 ·rw[ae]
  show some (HO.lst (V.str (kS 4)::sv (dg n)::_))=some (HO.lst (sv (cp (kS 4))::sv (dg (e_ r.2.2))::_))
  rw[rJ,en];rfl
theorem vj (am:cn P w K mg base cFloor "layer_prices" 1 ["self"] (pW cFloor))(bb:cn P w K mg base cFloor "via_prices" 1 ["self"] (A7 cFloor))(Z:cn P w K mg base cBoard "things" 1 ["self"] (jm cBoard))(W:aA P w K mg base "row_of" 1 ["kind", "numbers"] vW)(a3:aA P w K mg base "thing_row" 3 ["thing"] (vH cNet cBundle))(ap:aA P w K mg base "rock_rows" 4 ["floor"] (xM cFloor))(ad:aA P w K mg base "toll_rows" 4 ["floor"] (xW cFloor)):eO P w K mg base 5 "written" sY ["board"] (o_ cNet cBundle cFloor cBoard):=by
 refine rd ["board", "floor", "rows"] λnd _ _ _ _ _ H vs Q E hr h=>?_
 obtain⟨b,g,gs,c,y,rfl,⟨dx,fl,d,f,ps,hb,G,B,F,hd,hT,hF⟩,ok,fs,A,C,J,q⟩:=h
 refine⟨_,(ai (bc 1 nd (a9 (aj 0) rfl)) (ai (bc 2 nd (bg (az (aH W hr (aC aL (a9 (aj 1) rfl)))))) (ai (aO (dh Mm Nm Nn dU (aj 2) (az (eI ["pair"] [] [] (aD (ff (aj 1) T.cl_Floor am (hr.mono (by decide)))) (cv 0) bj (aH (by exact W) (by exact hr) (aC aL (aj 0))))))) (ai (aO (dh Mm Nm Nn dU (aj 2) (az (eI ["price"] [] [] (aD (ff (aj 1) T.cl_Floor bb (hr.mono (by decide)))) (cv 0) bj (aH (by exact W) (by exact hr) (aC aL (bg (az (aj 0))))))))) (ai (aO (dh Mm Nm Nn dU (aj 2) (az (aH ap hr (az (aj 1)))))) (ai (aO (dh Mm Nm Nn dU (aj 2) (az (aH ad hr (az (aj 1)))))) (aN (aO (dh Mm Nm Nn dU (aj 2) (az (eI ["thing"] [] [] (aD (ff (aj 0) T.cl_Board Z (hr.mono (by decide)))) (cv 0) bj (aH (by exact a3) (by exact hr) (az (aj 0))))))) (ay (iw (K:=K) rfl rfl (az (aj 2))))))))))),?_⟩
 have S:sizeLine=2^24:=rfl
 have sz:=ok.z
 have z:=JN ok fs A
 obtain⟨N,U,za,pa,va,ra,ta,x⟩:=id hF
 have M:g.ps.length<=4:=by have:=ok.pl;have:=sz.1;lia
 have O:g.vs.length<=4:=by have:=ok.vl;have:=sz.1;lia
 refine c8 (bQ (aa rfl) hb T.cl_Board T.na_Board_floor G) ?_
 refine fY λR hR=>lF (aG (aP (af ar (af (gC (aa rfl) x.ha T.cl_Floor T.na_Floor_sizes x.f1) ao)) ⟨_,za,[g.z.1,g.z.2.1,g.z.2.2],rfl,.inl x.z,by show 3<=10;decide,λn hn=>?_,by decide,λH1 s1=>⟨by show 1<=sizeLine;decide,λl be=>hR _ _ ?_⟩⟩))
 ·simp only[LS,Md,or_false] at hn
  unfold Sz at sz
  lia
 have j:H l=none:=da s1 be
 have s2:ah H (upd H1 l (.lst [sv (rt (.floor g.z))])):=s1.upd be
 have e2:WL (upd H1 l (.lst [sv (rt (.floor g.z))])) l [rt (.floor g.z)]:=ae
 revert s2 e2
 show ah H (upd H1 l (.lst [sv (rt (.floor g.z))]))->WL (upd H1 l (.lst [sv (rt (.floor g.z))])) l [rt (.floor g.z)]->eU _ _ _ _ (upd H1 l (.lst [sv (rt (.floor g.z))]))
 generalize upd H1 l (.lst [sv (rt (.floor g.z))])=H2
 intro s2 e2
 refine fF (σ':=[_,_,_]) rfl ?_
 refine jt λR2 b0=>?_
 refine jS (K:=K) (u:=λD σ H=>R2 σ H) (g.ps.map λp=>rt (DS p)) j s2 e2 rfl (by rw[LK];show 1+g.ps.length<=1000;lia) (λQv qv=>fg (aa rfl) (s2 _ _ x.ha) (x.no _ (by simp[Do])) ⟨f,g,rfl,hF.same s2,λpl H3 s3 b5 ⟨as,ab,bA⟩=>⟨pl,rfl,⟨_,aF.of ab⟩,λD nD=>?_⟩⟩) λH3 s3 e3=>b0 _ _ ?_
 ·refine eT (K:=K) (R:=λu p=>∃a,u=.ref a/\P2 H3 a p) (λp=>rt (DS p)) (λτ=>∃x0:Option V,τ=[x0]) ⟨none,rfl⟩ ab (gX (R:=λu p=>∃a,u=.ref a/\P2 H3 a p) (Paired.mapP bA λa _ e=>⟨a,rfl,e⟩)) nD (by lia) ?_ λH' s hD=>qv D H' (s3.trans s) hD
  rintro u p τ H' hp ⟨a,rfl,ha⟩ s ⟨x0,rfl⟩ X Y o
  have lo:=zX ok hp
  exact gn (dQ (aP (af ar (af (aa rfl) ao)) ⟨_,a,[p.1,p.2],rfl,.inl (s _ _ ha),by show 2<=10;decide,λn hn=>by
   simp only[LS,Md,or_false] at hn
   rcases hn with rfl|rfl
   ·exact lo.1
   ·exact lo.2,by decide,λH2 s2=>o _ _ ⟨_,rfl⟩ s2⟩))
 refine jt λR3 b4=>?_
 refine jS (K:=K) (u:=λD σ H=>R3 σ H) (g.vs.map λn=>rt (.via n)) j s3 e3 rfl (by simp only[LP,LK];show 1+g.ps.length+g.vs.length<=1000;lia) (λQv qv=>fg (aa rfl) (s3 _ _ x.ha) (x.no _ (by simp[Do])) ⟨f,g,rfl,hF.same s3,λpl H4 s4 b5 ab=>⟨pl,rfl,⟨_,aF.of ab⟩,λD nD=>?_⟩⟩) λH4 s4 e4=>b4 _ _ ?_
 ·refine eT (K:=K) (R:=λu n=>u=.int (n:Nat)) (λn=>rt (.via n)) (λτ=>∃x0:Option V,τ=[x0]) ⟨none,rfl⟩ ab (p6 g.vs) nD (by lia) ?_ λH' s hD=>qv D H' (s4.trans s) hD
  rintro u n τ H' hn rfl s ⟨x0,rfl⟩ X Y o
  have lo:n<10^14:=Br ok hn
  refine gn (dQ (bI (a_ ar (aG (dM (vs:=[.int (n:Nat)]) (af (aa rfl) ao) (by show 1<=sizeLine;decide) λl1 n1=>?_)))))
  exact⟨_,l1,[n],rfl,.inr ae,by show 1<=10;decide,λm hm=>by rw[LY.mp hm];exact lo,by decide,λH2 s2=>o _ _ ⟨_,rfl⟩ (((ah.refl H').upd n1).trans s2)⟩
 have I:WL H4 l ([rt (.floor g.z)]++(g.ps.map λp=>rt (DS p))++g.vs.map λn=>rt (.via n)):=e4
 refine jt λR4 bD=>?_
 refine jS (K:=K) (u:=λD σ H=>R4 σ H) _ j s4 I rfl (by simp only[LP,LK];show 1+g.ps.length+g.vs.length+(cm (mj c)).length<=1000;lia) (λQv qv=>aP (af (aa rfl) ao) ⟨f,g,c,y,rfl,hF.same s4,sz,fs,λm H5 s5 nm hm=>qv m H5 s5 hm⟩) λH5 s5 e5=>bD _ _ ?_
 refine jt λR5 bn=>?_
 refine jS (K:=K) (u:=λD σ H=>R5 σ H) _ j s5 e5 rfl (by simp only[LP,LK];show 1+g.ps.length+g.vs.length+(cm (mj c)).length+(cm y).length<=1000;lia) (λQv qv=>aP (af (aa rfl) ao) ⟨f,g,c,y,rfl,hF.same s5,sz,fs,λm H6 s6 nm hm=>qv m H6 s6 hm⟩) λH6 s6 e6=>bn _ _ ?_
 have lp:ps.length=gs.length:=Paired.length hT
 refine jS (K:=K) (gs.map λt=>rt (pC t)) j s6 e6 rfl (by simp only[LP,LK];show 1+g.ps.length+g.vs.length+(cm (mj c)).length+(cm y).length+gs.length<=1000;lia) (λQv qv=>fg (aa rfl) (s6 _ _ hb) F ⟨b,dx,d,fl,ps,gs,rfl,s6 _ _ hb,B,s6 _ _ hd,lp,C,λH7 m s7 nm hm=>⟨m,rfl,⟨_,aF.of hm⟩,λD nD=>?_⟩⟩) λH7 s7 e7=>?_
 ·refine eT (K:=K) (R:=λu t=>∃p,u=.ref p/\lD cNet cBundle H7 p t) (λt=>rt (pC t)) (λτ=>∃x0:Option V,τ=[x0]) ⟨none,rfl⟩ hm (gX (R:=λu t=>∃p,u=.ref p/\lD cNet cBundle H7 p t) (Paired.mapP hT λa _ e=>⟨a,rfl,e.same (s6.trans s7)⟩)) nD (by lia) ?_ λH' s hD=>qv D H' (s7.trans s) hD
  rintro u t τ H' ht ⟨p,rfl,hp⟩ s ⟨x0,rfl⟩ X Y o
  exact gn (dQ (aP (af (aa rfl) ao) ⟨p,t,rfl,hp.same s,A t ht,λH2 s2=>o _ _ ⟨_,rfl⟩ s2⟩))
 have e8:WL H7 l ((wr g c y gs).map rt):=by
  unfold WL
  rw[e7]
  unfold wr
  simp only[LQ,L1,LV,Mn,Og,NP,MV]
  rfl
 refine bR (eo ar rfl (a_ (aa rfl) (jJ nl e8 (λw hw=>?_) ?_ (q _ s7))))
 ·obtain⟨r,hr,rfl⟩:=LN.mp hw
  exact LR (qz (z r hr)) (by decide)
 ·rw[LK]
  unfold wr
  simp only[L5,LP,LK]
  lia
theorem vt (c:aA P w K mg base "_law_word" 1 ["spot"] nr):eO P w K mg base 2 "_law_stretch_row" tH ["head", "first", "last"] i5:=by
 refine rd ["head", "first", "last"] λo _ _ _ _ _ H vs Q E hr h=>?_
 obtain⟨h,a,b,f,s,rfl,ha,m,sm,r,q⟩:=h
 refine⟨_,(aN (bM (bB (vI hr) (aj 1) (aj 2)) (ay (au bE (au bE (aj 0) aL) (aH c hr (az (aj 1)))))) (ay (au bE (au bE (au bE (au bE (aj 0) aL) (aH c hr (az (aj 1)))) aL) (aH c hr (az (aj 2)))))),?_⟩
 have l:=sm f (by simp)
 have b2:=sm s (by simp)
 have p:=(jN l).1
 have u:=(jN b2).1
 unfold cr at q
 have g:∀{σ:St},σ[0]?=some (some (sv h))->σ[1]?=some (some (.ref a))->GM (fv (λx y H Q=>∃i j,x=.str i/\y=.str j/\i.length+j.length<=sizeLine/\Q (.str (i++j)) H) (fv (λx y H Q=>∃i j,x=.str i/\y=.str j/\i.length+j.length<=sizeLine/\Q (.str (i++j)) H) (cR 0) (tC (.str (Str.ofString " ")))) (dY nr [] E0 (a8 (cR 1) dw))) σ H (h++[32]++dr f):=λn h1=>gO (gO (qX λ_ _=>aa n) (kr l1) (by show h.length+1<=1000;lia)) (wU h1 ha l) (by rw[LP];show h.length+1+_<=1000;lia)
 refine eX (Bt rfl rfl ha m) (λe=>?_) λe=>?_
 ·rw[if_pos (of_decide_eq_true e)] at q
  refine bR (mn (g rfl rfl) λH2 d=>?_)
  rw[show h++[32]++dr f=jl 32 (h::[f].map dr) from((Kx ..).trans (by simp)).symm]
  exact q H2 d
 ·rw[if_neg (of_decide_eq_false e)] at q
  refine bR (mn (gO (gO (g rfl rfl) (kr l1) (by simp only[LP];show h.length+1+_+1<=1000;lia)) (wU rfl m b2) (by simp only[LP];show h.length+1+_+1+_<=1000;lia)) λH2 d=>?_)
  rw[show h++[32]++dr f++[32]++dr s=jl 32 (h::[f,s].map dr) from((Ki ..).trans (by simp)).symm]
  exact q H2 d
theorem FW (s:aA P w K mg base "_law_word" 1 ["spot"] nr):eO P w K mg base 2 "_law_row" GF ["thing"] BQ:=by
 refine rd ["thing", "name", "half", "room", "ones", "others", "words"] λx _ _ _ _ _ H vs Q E hr h=>?_
 obtain⟨v,g,rfl,⟨t,a,b,rfl,ht,⟨as,l,m⟩,bs,f,j⟩,ok,q⟩:=h
 refine⟨_,(ai (eY (aj 0) (cV rfl (aq (aT 1 x) (aq (aT 2 x) (aq (aT 3 x) (aq (aT 4 x) (aq (aT 5 x) bq))))))) (ai (m9 6 ["spot"] [] [] x (aD (aj 4)) (cv 0) bj (aH (by exact s) (by exact hr) (az (aj 0)))) (aN (bM (bB (p_ hr) (aj 5) (bg dj)) (ay (iw (K:=K) rfl rfl (az (au dk (bg (aw aL (aw (aj 1) (aC (cK bf T.str_ (az (aj 2))) (cK bf T.str_ (az (aj 3))))))) (aj 6)))))) (ay (iw (K:=K) rfl rfl (az (au dk (au dk (au dk (bg (aw aL (aC (aj 1) (cK bf T.str_ (az (aj 3)))))) (aj 6)) (bg (az aL))) (eI ["spot"] [] [] (aD (aj 5)) (cv 0) bj (aH (by exact s) (by exact hr) (az (aj 0))))))))))),?_⟩
 have r:sizeLine=2^24:=rfl
 have B:=pM ok
 have hh:=ok.hh
 have rr:=ok.rr
 have sh:=ok.sh
 have sm:∀p∈g.es,p.1<16/\p.2.1<16/\p.2.2<16:=λp A=>by have:=ok.s4 p A;unfold S4 at this;lia
 refine⟨_,rfl,t,_,rfl,bW.of ht,rfl,_,_,rfl,_,_,rfl,_,_,rfl,_,_,rfl,_,_,rfl,rfl,?_⟩
 refine⟨_,rfl,a,rfl,⟨_,aF.of l⟩,λD nD=>?_⟩
 refine mP (K:=K) (rest:=[]) dr (.inl ⟨rfl,l⟩) m nD (by lia) (λc p H' A u Qv I=>aP (af (aa rfl) ao) ⟨c,p,rfl,sm p (MM _ A),.inl u,I⟩) λH1 R W=>?_
 try dsimp only
 refine fF (σ':=[_,_,_,_,_,_,_]) rfl ?_
 refine gq (qu (K:=K) (λH2 y=>aa rfl) (R _ _ f)) (λe H2 y=>?_) λe H2 y=>?_
 ·rw[fL j] at e
  have C:pC g=.net g.nm g.h g.r g.ss:=if_pos (wC e)
  rw[C] at B q
  refine bR (eo ar rfl (aG (dW (dM (vs:=[cp (kS 5),g.nm,dg g.h,dg g.r].map sv) (af (aY ar KB) (af (aa rfl) (af (fV (aa rfl) (by lia)) (af (fV (aa rfl) (by lia)) ao)))) (by show 4<=sizeLine;decide) λl0 G=>cZ (aa rfl) ?_))))
  have z:=(ah.refl H2).upd (o:=.lst ([cp (kS 5),g.nm,dg g.h,dg g.r].map sv)) G
  exact gT (us:=g.ss.map dr) ae (z _ _ (y _ _ W)) (by rw[LK];show 4+g.ss.length<=1000;lia) λc H4 O u=>iM B (by rw[u];rfl) (q _ ((R.trans y).trans (z.trans O)))
 ·rw[fL j] at e
  have C:pC g=.bun g.nm g.r g.ss g.gs:=if_neg (wI e)
  rw[C] at B q
  have n:=B.2.2.1
  refine bR (eo ar rfl (aG (dW (dW (dW (dM (vs:=[cp (kS 6),g.nm,dg g.r].map sv) (af (aY ar K_) (af (aa rfl) (af (fV (aa rfl) (by lia)) ao))) (by show 3<=sizeLine;decide) λl0 G=>cZ (aa rfl) ?_))))))
  have z:=(ah.refl H2).upd (o:=.lst ([cp (kS 6),g.nm,dg g.r].map sv)) G
  refine gT (us:=g.ss.map dr) ae (z _ _ (y _ _ W)) (by rw[LK];show 3+g.ss.length<=1000;lia) λc H4 O u=>dM (vs:=[L "to"].map sv) (af (aY ar GE.symm) ao) (by show 1<=sizeLine;decide) λl1 Z=>?_
  have S:=(ah.refl H4).upd (o:=.lst ([L "to"].map sv)) Z
  refine gT (us:=[L "to"]) (S _ _ u) ae (by rw[LP,LK];show 3+g.ss.length+1<=1000;lia) λc2 H6 Y J=>?_
  have d:=(R.trans y).trans ((z.trans O).trans (S.trans Y))
  refine⟨_,rfl,b,rfl,⟨_,aF.of (d _ _ f)⟩,λD2 F=>?_⟩
  refine mP (K:=K) (rest:=[]) dr (.inl ⟨rfl,d _ _ f⟩) (aX.same j d) F (by lia) (λc p H' A u Qv I=>aP (af (aa rfl) ao) ⟨c,p,rfl,sm p (MC _ A),.inl u,I⟩) λH7 U M=>?_
  refine gT (U _ _ J) M (by simp only[LP,LK];show 3+g.ss.length+1+g.gs.length<=1000;lia) λc3 H8 X N=>iM B ?_ (q _ (d.trans (U.trans X)))
  rw[N,Mn,Mn];rfl
theorem zO (s:fO P w K mg base cNet "Net" 3 ["self", "name", "pins", "half", "room"] (jZ cNet) 2)(u:fO P w K mg base cBundle "Bundle" 3 ["self", "name", "starts", "goals", "room"] (ju cBundle) 1):eO P w K mg base 5 "_law_made" Cb ["thing"] (xj cNet cBundle):=by
 refine rd ["thing", "name", "half", "room", "ones", "others"] λD _ _ _ _ _ H vs Q E hr h=>?_
 obtain⟨v,g,rfl,⟨t,a,b,rfl,Y,I,O⟩,ok,q⟩:=h
 refine⟨_,(ai (eY (aj 0) (cV rfl (aq (aT 1 D) (aq (aT 2 D) (aq (aT 3 D) (aq (aT 4 D) (aq (aT 5 D) bq))))))) (ai (bM (ie (bB (p_ hr) (aj 5) (bg dj)) (ie (bB di (aj 2) ag) (iP (bB di (aj 3) ag)))).pt (ay (D_ s (hr.mono (by decide)) (by rfl) (aC (aj 1) (cK bz T.list_ (az (aj 4))))))) (ai (bM (bB (p_ hr) (aj 5) (bg dj)) (ay (lM s (hr.mono (by decide)) (by rfl) (aw (aj 1) (aw (cK bz T.list_ (az (aj 4))) (aC (aj 2) (aj 3))))))) (aN (bM (bB di (aj 3) ag) (ay (Ez u (hr.mono (by decide)) (by rfl) (aw (aj 1) (aC (cK bz T.list_ (az (aj 4))) (cK bz T.list_ (az (aj 5)))))))) (ay (lM u (hr.mono (by decide)) (by rfl) (aw (aj 1) (aw (cK bz T.list_ (az (aj 4))) (aC (cK bz T.list_ (az (aj 5))) (aj 3)))))))))),?_⟩
 obtain⟨bs,r,f⟩:=id O
 have S:=ok.sh
 have o:g.gs=[]->∀{H3:Hp} {l:Addr},ah H H3->AL H3 l g.ss->∀p dx,H3 p=none->H3 dx=none->dx≠p->jZ cNet [.ref p,sv g.nm,.ref l,.int (g.h:Nat),.int (g.r:Nat)] (upd (upd H3 dx (.own p)) p (.ins cNet dx [])) (λv H2=>v=.non/\Q (.ref p) H2) E0:=by
  intro e H3 l x y p dx B A W
  have sm:ah H3 (upd (upd H3 dx (.own p)) p (.ins cNet dx [])):=eN B A
  have J:2<=g.ss.length/\g.ss.length<=6:=by
   rcases S with ⟨_,h⟩|⟨h,_⟩
   ·exact h
   ·exact absurd e h
  exact⟨p,dx,l,g.st,g.h,g.r,g.ss,rfl,ok.hh,ok.rr,ae,y.same sm,λc Z=>ok.s4 c (MM _ Z),(MQ.mp ok.nd).1,J.1,J.2,jw ok.gd,lS ok.gd,λH4 N R=>⟨rfl,q p H4 (x.trans (bU.same sm B N)) (da x B) (.inl ⟨e,R⟩)⟩⟩
 have j:g.gs≠[]->∀{H3:Hp} {l m:Addr},ah H H3->AL H3 l g.ss->AL H3 m g.gs->∀p dx,H3 p=none->H3 dx=none->dx≠p->ju cBundle [.ref p,sv g.nm,.ref l,.ref m,.int (g.r:Nat)] (upd (upd H3 dx (.own p)) p (.ins cBundle dx [])) (λv H2=>v=.non/\Q (.ref p) H2) E0:=by
  intro e H3 l m x y G p dx B A W
  have sm:ah H3 (upd (upd H3 dx (.own p)) p (.ins cBundle dx [])):=eN B A
  obtain⟨h0,l1,U,J,M⟩:g.h=0/\1<=g.ss.length/\g.ss.length<=6/\g.ss.length<=g.gs.length/\g.gs.length<=12:=by
   rcases S with ⟨h,_⟩|⟨_,h⟩
   ·exact absurd h e
   ·exact h
  exact⟨p,dx,l,m,g.st,g.r,g.ss,g.gs,rfl,ok.rr,ae,y.same sm,G.same sm,ok.s4,ok.nd,l1,U,J,M,jw ok.gd,lS ok.gd,λH4 N R=>⟨rfl,q p H4 (x.trans (bU.same sm B N)) (da x B) (.inr ⟨e,h0,R⟩)⟩⟩
 refine⟨_,rfl,t,_,rfl,bW.of Y,rfl,_,_,rfl,_,_,rfl,_,_,rfl,_,_,rfl,_,_,rfl,rfl,?_⟩
 refine fF (σ':=[_,_,_,_,_,_]) rfl ?_
 refine gq (AF (qu (K:=K) (λH2 z=>aa rfl) r) (AF (AK λH1 _=>aB (fU (aa rfl) ar)) (AK λH1 _=>aB (fU (aa rfl) ar)))) (λe H2 z=>?_) λ_ H2 z=>?_
 ·rw[fL f,MD,MD,decide_eq_true_iff,decide_eq_true_iff] at e
  have n:= @o (wC e.1)
  rw[e.2.1,e.2.2] at n
  exact bR (gD (a_ (aa rfl) (iY (K:=K) rfl (I.same z) λl H3 x _ y=>n (z.trans x) y)))
 refine gq (qu (K:=K) (λH2 z=>aa rfl) (z _ _ r)) (λe H3 x=>?_) λe H3 x=>?_
 ·rw[fL f] at e
  exact bR (gD (a_ (aa rfl) (iY (K:=K) rfl (I.same (z.trans x)) λl H4 C _ y=>a_ (aa rfl) (a_ (aa rfl) (o (wC e) ((z.trans x).trans C) y)))))
 rw[fL f] at e
 have d:=z.trans x
 refine eX (aB (fU (aa rfl) ar)) (λX=>?_) λ_=>?_
 ·have n:= @j (wI e)
  rw[of_decide_eq_true X] at n
  exact bR (gD (a_ (aa rfl) (iY (K:=K) rfl (I.same d) λl H4 C _ y=>iY (K:=K) rfl (O.same (d.trans C)) λm H5 F _ G=>n (d.trans (C.trans F)) (y.same F) G)))
 ·exact bR (gD (a_ (aa rfl) (iY (K:=K) rfl (I.same d) λl H4 C _ y=>iY (K:=K) rfl (O.same (d.trans C)) λm H5 F _ G=>a_ (aa rfl) (j (wI e) (d.trans (C.trans F)) (y.same F) G))))
theorem CM (l:aA P w K mg base "_law_same" 5 ["found", "due"] (gH 5)):eO P w K mg base 6 "_law_thing_good" CD ["found", "thing"] (xm cNet cBundle):=by
 refine rd ["found", "thing", "name", "half", "room", "ones", "others"] λs _ _ _ _ _ H vs Q E hr h=>?_
 obtain⟨p,v,g,rfl,th,⟨t,a,b,rfl,U,I,G⟩,ok,q⟩:=h
 refine⟨_,(ai (eY (aj 1) (cV rfl (aq (aT 2 s) (aq (aT 3 s) (aq (aT 4 s) (aq (aT 5 s) (aq (aT 6 s) bq))))))) (ai (bM (cg (cx (aH l hr (aC (bg (aw (a9 (aj 0) rfl) (aC (a9 (aj 0) rfl) (a9 (aj 0) rfl)))) (bg (aw (aj 2) (aC (aj 3) (aj 4)))))))) (ay c_)) (ai (bM (bB (p_ hr) (aj 6) (bg dj)) (ay (gJ (br bF T.isinstance_ (aC (aj 0) (iA (by rfl) T.mg_Net))) (h9 (aH l hr (aC (a9 (aj 0) rfl) (cK cG T.tuple_ (az (aj 5))))))))) (aN (bM (eL (cg (cx (br bF T.isinstance_ (aC (aj 0) (iA (by rfl) T.mg_Bundle))))) (dN (cg (cx (aH l hr (aC (a9 (aj 0) rfl) (cK cG T.tuple_ (az (aj 5))))))))).pt (ay c_)) (ay (aH l hr (aC (a9 (aj 0) rfl) (cK cG T.tuple_ (az (aj 6)))))))))),?_⟩
 obtain⟨bs,j,f⟩:=id G
 have Y:=ok.ln
 refine⟨_,rfl,t,_,rfl,bW.of U,rfl,_,_,rfl,_,_,rfl,_,_,rfl,_,_,rfl,_,_,rfl,rfl,?_⟩
 dsimp only
 refine fF (σ':=[_,_,_,_,_,_,_]) rfl ?_
 refine gq (b:=false) (λH1 m Q q=>?_) (λe=>nomatch e) λ_ H2 z=>?_
 ·have A:=th.same m
  refine jh (aG (dM (vs:=[sv g.nm,.int (g.h:Nat),.int (g.r:Nat)]) (af (mw A (aa rfl) T.cl_Net T.na_Net_name T.cl_Bundle T.na_Bundle_name (λ_ _ b _=>b.name)) (af (mw A (aa rfl) T.cl_Net T.na_Net_half T.cl_Bundle T.na_Bundle_half (λ_ _ b e=>e▸b.half)) (af (mw A (aa rfl) T.cl_Net T.na_Net_room T.cl_Bundle T.na_Bundle_room (λ_ _ b _=>b.room)) ao))) (by show 3<=sizeLine;decide) λD X=>?_))
  have M:=(ah.refl H1).upd (o:=.lst [sv g.nm,.int (g.h:Nat),.int (g.r:Nat)]) X
  refine aG (dM (vs:=[sv g.nm,.int (g.h:Nat),.int (g.r:Nat)]) (af (aa rfl) (af (aa rfl) (af (aa rfl) ao))) (by show 3<=sizeLine;decide) λO C=>?_)
  have F:=(ah.refl (upd H1 D (.lst [sv g.nm,.int (g.h:Nat),.int (g.r:Nat)]))).upd (o:=.lst [sv g.nm,.int (g.h:Nat),.int (g.r:Nat)]) C
  exact⟨_,_,rfl,.inr (.inr ⟨D,O,_,_,rfl,rfl,.inl ⟨F _ _ ae,ae⟩,by show 3<=1000;decide,.cons (.inr (.inl ⟨_,rfl,rfl⟩)) (.cons xX (.cons xX .nil))⟩),λH3 n=>⟨true,rfl,q H3 (M.trans (F.trans n))⟩⟩
 refine gq (qu (K:=K) (λH1 m=>aa rfl) (z _ _ j)) (λe H3 n=>?_) λe H3 n=>?_
 ·rw[fL f] at e
  have c:=z.trans n
  rcases th with ⟨_,dx,fs,J,h1,W,h2,B⟩|⟨y,_⟩
  ·exact bR (E9 (kL (.ins (c _ _ h1) T.cl_Net T.qN T.qg T.qt T.oN) T.kNN (.ref cNet) (aa rfl) ar) (ux (K:=K) (gC (aa rfl) (c _ _ h1) T.cl_Net T.na_Net_pins h2) rfl (B.up λ_ _ e=>c _ _ e) (I.same c) (by lia) λH4 u=>q H4 (c.trans u)))
  ·exact absurd (wC e) y
 ·rw[fL f] at e
  have c:=z.trans n
  rcases th with ⟨y,_⟩|⟨_,_,dx,fs,J,up,h1,W,h2,B,S,R⟩
  ·exact absurd y (wI e)
  ·refine gq (b:=false) (I_ (a:=false) (b:=false) (AK λH1 m=>jo (ji (kL (.ins ((c.trans m) _ _ h1) T.cl_Bundle T.qB T.qg T.qt T.oB) T.kBB (.ref cBundle) (aa rfl) ar))) (λH1 m Q q=>ux (K:=K) (Q:=λx H1=>∃b,x=.bl b/\Q (!b) H1) (gC (aa rfl) ((c.trans m) _ _ h1) T.cl_Bundle T.na_Bundle_starts h2) rfl (S.up λ_ _ e=>(c.trans m) _ _ e) (I.same (c.trans m)) (by lia) λH4 u=>⟨true,rfl,q H4 u⟩)) (λe=>nomatch e) λ_ H4 u=>?_
   have d:=c.trans u
   exact bR (ux (K:=K) (gC (aa rfl) (d _ _ h1) T.cl_Bundle T.na_Bundle_goals B) rfl (R.up λ_ _ e=>d _ _ e) (G.same d) (by lia) λH5 N=>q H5 (d.trans N))
theorem Dr (bn:cn P w K mg base cFloor "layer_prices" 1 ["self"] (pW cFloor))(ci:cn P w K mg base cFloor "via_prices" 1 ["self"] (A7 cFloor))(bA:cn P w K mg base cFloor "rocks_told" 1 ["self"] (ql cFloor))(b0:cn P w K mg base cFloor "tolls_told" 1 ["self"] (qd cFloor))(be:cn P w K mg base cBoard "things" 1 ["self"] (jm cBoard))(bl:aA P w K mg base "_law_same" 5 ["found", "due"] (gH 5))(bt:aA P w K mg base "_law_thing_good" 6 ["found", "thing"] (xm cNet cBundle)):eO P w K mg base 7 "_law_board_good" AN ["board", "sizes", "prices", "vias", "rocks", "tolls", "things"] (xu cNet cBundle cFloor cBoard):=by
 refine rd ["board", "sizes", "prices", "vias", "rocks", "tolls", "things", "floor", "found", "k"] λnd _ _ _ _ _ H vs Q E hr h=>?_
 obtain⟨b,sz,pr,vi,ro,td,th,g,gs,a4,y,us,rfl,⟨dx,fl,d,f,ps,hb,ap,Z,an,hd,hT,hF⟩,ok,fs,a2,av,X,a1,N,am,R,a0,ab,q⟩:=h
 refine⟨_,(ai (bc 7 nd (a9 (aj 0) rfl)) (ai (bM (cg (cx (aH bl hr (aC (bg (aw (a9 (aj 7) rfl) (aC (ff (aj 7) T.cl_Floor bn (hr.mono (by decide))) (ff (aj 7) T.cl_Floor ci (hr.mono (by decide)))))) (bg (aw (aj 1) (aC (aj 2) (aj 3)))))))) (ay c_)) (ai (bM (cg (cx (aH bl hr (aC (ff (aj 7) T.cl_Floor bA (hr.mono (by decide))) (aj 4))))) (ay c_)) (ai (bM (cg (cx (aH bl hr (aC (ff (aj 7) T.cl_Floor b0 (hr.mono (by decide))) (eI ["spot"] ["tolls"] [5] (aD (br (eQ rfl) T.sorted_ (az (aj 5)))) (cv 0) bj (bZ (aC (aj 0) (gV (by exact(bL.one hr)) (aj 1) (aj 0) (λ_ _=>rfl))))))))) (ay c_)) (ai (bc 8 nd (ff (aj 0) T.cl_Board be (hr.mono (by decide)))) (ai (bM (eL (cg (cx (br bF T.isinstance_ (aC (aj 8) (eS (v:=.ty "list") (by rfl) T.list_ jz (by rfl)))))) (dN (bB f_ (br aU T.len_ (az (aj 8))) (br aU T.len_ (az (aj 6)))))).pt (ay c_)) (aN (dH (qT T.range_ (az (br aU T.len_ (az (aj 6))))) (aT 9 nd) (aE (bM (cg (cx (aH bt hr (aC (aR aV (aj 8) (aj 9)) (aR aV (aj 6) (aj 9)))))) (ay c_)))) (ay c_)))))))),?_⟩
 have a6:sizeLine=2^24:=rfl
 obtain⟨a7,bd,za,pa,va,ra,ta,x⟩:=id hF
 have z:=ok.z
 have a5:g.ps.length<=4:=by have:=ok.pl;have:=z.1;lia
 have bb:g.vs.length<=4:=by have:=ok.vl;have:=z.1;lia
 refine c8 (bQ (aa rfl) hb T.cl_Board T.na_Board_floor ap) ?_
 refine fF (σ':=[_,_,_,_,_,_,_,_,_,_]) rfl ?_
 refine gq (b:=false) (λH1 s1 Q q=>?_) (λe=>nomatch e) λ_ H2 s2=>?_
 ·refine jh (aG (lF (a_ (gC (aa rfl) (s1 _ _ x.ha) T.cl_Floor T.na_Floor_sizes x.f1) (aG (fg (aa rfl) (s1 _ _ x.ha) (x.no _ (by simp[Do])) ⟨f,g,rfl,hF.same s1,λpl H3 s3 d9 cB=>aG (fg (aa rfl) ((s1.trans s3) _ _ x.ha) (x.no _ (by simp[Do])) ⟨f,g,rfl,hF.same (s1.trans s3),λvl H4 s4 dp c4=>⟨by show 3<=sizeLine;decide,λla na=>?_⟩⟩)⟩)))))
  have s5:=(ah.refl H4).upd (o:=.lst [.ref za,.ref pl,.ref vl]) na
  have e5:upd H4 la (.lst [.ref za,.ref pl,.ref vl]) la=some (.lst [.ref za,.ref pl,.ref vl]):=ae
  revert s5 e5
  show ah H4 (upd H4 la (.lst [.ref za,.ref pl,.ref vl]))->_->a8 _ _ _ (upd H4 la (.lst [.ref za,.ref pl,.ref vl])) _
  generalize upd H4 la (.lst [.ref za,.ref pl,.ref vl])=H5
  intro s5 e5
  refine aG (dM (vs:=[.ref sz,.ref pr,.ref vi]) (af (aa rfl) (af (aa rfl) (af (aa rfl) ao))) (by show 3<=sizeLine;decide) λlb c3=>?_)
  have s6:=(ah.refl H5).upd (o:=.lst [.ref sz,.ref pr,.ref vi]) c3
  have M:=s5.trans s6
  have I:=s4.trans M
  have r:=s1.trans (s3.trans I)
  exact⟨_,_,rfl,.inr (.inr ⟨la,lb,_,_,rfl,rfl,.inl ⟨s6 _ _ e5,ae⟩,by show 3<=1000;decide,.cons (GD (r _ _ x.z) (r _ _ a2)) (.cons (Hg (cB.up (λ_ e=>I _ _ e) λ_ _ e=>I _ _ e) (av.up (λ_ e=>r _ _ e) λ_ _ e=>r _ _ e) (by lia)) (.cons (.inr (.inr ⟨vl,vi,_,_,rfl,rfl,.inl ⟨M _ _ c4,r _ _ X⟩,by rw[LK];lia,uP λv hv=>by obtain⟨i,_,rfl⟩:=LN.mp hv;exact⟨_,rfl⟩⟩)) .nil))⟩),λH7 s7=>⟨true,rfl,q H7 (s3.trans (I.trans s7))⟩⟩
 refine gq (b:=false) (λH1 s1 Q q=>?_) (λe=>nomatch e) λ_ H3 s3=>?_
 ·have B:=s2.trans s1
  refine jh (aG (fg (aa rfl) (B _ _ x.ha) (x.no _ (by simp[Do])) ⟨f,g,rfl,hF.same B,fs.ln,fs.mo,λl ss H4 s4 nl hl hs=>a_ (aa rfl) ⟨_,_,rfl,?_,λH5 s5=>⟨true,rfl,q H5 (s4.trans s5)⟩⟩⟩))
  obtain rfl:=jk hs fs.srt
  exact JU hl (a1.same (B.trans s4)) (by have:=fs.rl;lia)
 have S:=s2.trans s3
 refine gq (b:=false) (λH1 s1 Q q=>?_) (λe=>nomatch e) λ_ H4 s4=>?_
 ·have B:=S.trans s1
  have nd:=dq fs.t1
  have tl:=fs.tl
  refine jh (aG (fg (aa rfl) (B _ _ x.ha) (x.no _ (by simp[Do])) ⟨f,g,rfl,hF.same B,tl.2,fs.t2,λl ss H4 s4 nl hl hs=>?_⟩))
  rw[fs.tq ss hs] at hl
  have A:=B.trans s4
  refine aG ⟨_,rfl,td,eG y,(y.map (·.1)).map t3,rfl,A _ _ N,ma y,rB _,by rw[LK,LK];lia,gv fs.t1,λm bs ds nm C hp ho=>⟨m,rfl,⟨_,aF.of ae⟩,λD nD=>?_⟩⟩
  obtain⟨a3,rfl,W⟩:=mM hp ho
  obtain rfl:=jk W (gw fs.t1)
  have s5:=(ah.refl H4).upd (o:=.lst (bs.map V.ref)) nm
  have e5:upd H4 m (.lst (bs.map V.ref)) m=some (.lst (bs.map V.ref)):=ae
  have C:=aX.same C s5
  revert s5 e5 C nD
  generalize upd H4 m (.lst (bs.map V.ref))=H5
  intro nD s5 e5 C
  have F:=A.trans s5
  refine se (K:=K) (λ_=>true) (IT y) [some (.ref td)] nD (λH' s=>aF.of (s _ _ e5)) C (by rw[Paired.length C,LK,LK];lia) (λa c H' hc e s=>⟨λQ q=>q,λ_=>?_⟩) λH6 es s6 hD hq=>?_
  ·obtain⟨p,hp,rfl⟩:=LN.mp hc
   obtain⟨q,hq,rfl⟩:=LN.mp hp
   have O:=rM ((F.trans s) _ _ N) (s _ _ e)
   rw[(An nd hq (let ⟨n,e,_⟩:=(fs.t4 q hq).2;⟨n,e⟩)).1] at O
   exact iZ (aa rfl) (aa rfl) O
  ·have ee:((((y.map (·.1)).map t3).filter λ_=>true).map λc=>(c,IT y c))=y.map λp=>(t3 p.1,((e_ p.2:Nat):Int)):=by
    rw[OH.mpr (λ_ _=>rfl)]
    simp only[LV]
    refine My λp hp=>?_
    show(t3 p.1,IT y (t3 p.1))=_
    rw[(An nd hp (let ⟨n,e,_⟩:=(fs.t4 p hp).2;⟨n,e⟩)).2]
   rw[ee] at hq
   obtain⟨ls,ac,Y⟩:=hl
   exact⟨_,_,rfl,Ia ⟨ls,(s5.trans s6) _ _ ac,tP Y λ_ _ e=>(s5.trans s6) _ _ e⟩ ⟨es,hD,hq⟩ (by rw[LK];lia) (λq hq=>by obtain⟨p,_,rfl⟩:=LN.mp hq;show 3<=1000;decide),λH7 s7=>⟨true,rfl,q H7 (s4.trans (s5.trans (s6.trans s7)))⟩⟩
 have A:=S.trans s4
 have lp:ps.length=gs.length:=Paired.length hT
 have lu:us.length=gs.length:=Paired.length R
 refine bJ (fg (aa rfl) (A _ _ hb) an ⟨b,dx,d,fl,ps,gs,rfl,A _ _ hb,Z,A _ _ hd,lp,ab,λH5 m s5 nm hm=>?_⟩)
 refine fF (σ':=[_,_,_,_,_,_,_,_,_,_]) rfl ?_
 have F:=A.trans s5
 have G:=F _ _ am
 refine c9 (fR (jo (ji (kL (.lst hm) T.kll (.ty "list") (aa rfl) ar))) λ_=>aB (iz (dJ (K:=K) (aa rfl) hm) (dJ (K:=K) (aa rfl) G))) (by rw[LK,lp,lu];simp) ?_
 refine qy (j:=((us.length:Nat):Int)) (af (dJ (K:=K) (aa rfl) G) ao) (by lia) (by lia) ?_
 rw[MH]
 refine dC (n:=us.length) (λi σ H'=>∃x9:Option V,σ=[some (.ref b),some (.ref sz),some (.ref pr),some (.ref vi),some (.ref ro),some (.ref td),some (.ref th),some (.ref f),some (.ref m),x9]/\ah H5 H') ⟨_,rfl,ah.refl H5⟩ ?_ ?_
 ·rintro i σ H' hi ⟨x9,rfl,s⟩
  refine gn ?_
  refine fF (σ':=[some (.ref b),some (.ref sz),some (.ref pr),some (.ref vi),some (.ref ro),some (.ref td),some (.ref th),some (.ref f),some (.ref m),some (.int (i:Nat))]) (by rw[show(0:Int)+(i:Nat)=(i:Nat) by lia];rfl) ?_
  obtain⟨u,ch⟩:∃u,us[i]?=some u:=⟨_,Mi hi⟩
  obtain⟨t,ht,ad⟩:=ba R ch
  obtain⟨p,hp⟩:∃p,ps[i]?=some p:=⟨_,Mi (by lia)⟩
  obtain⟨t',J,U⟩:=ba hT hp
  rw[ht] at J
  cases J
  have r:=F.trans s
  exact ox (jh (a_ (cM (aa rfl) (aa rfl) (aF.of (s _ _ hm)) (bS (by rw[L7,hp];rfl))) (a_ (cM (aa rfl) (aa rfl) (aF.of (s _ _ G)) (bS ch)) ⟨p,u,t,rfl,U.same r,ad.same r,a0 t (L9 ht),λH7 s7=>⟨true,rfl,eF ⟨_,rfl,s.trans s7⟩⟩⟩)))
 ·rintro σ H' ⟨x9,rfl,s⟩
  exact st (cU ar (q H' (F.trans s)))
theorem DG (cB:aA P w K mg base "_law_spot_at" 1 ["sizes", "number"] m6)(cd:aA P w K mg base "_law_stretch_row" 2 ["head", "first", "last"] i5):eO P w K mg base 3 "_law_marked" Am ["cells", "sizes"] xC:=by
 refine rd ["cells", "sizes", "rocks", "tolls", "rows", "at", "cell", "left", "many", "kind", "toll", "spots", "spot"] λnd _ _ _ _ _ H vs Q E hr h=>?_
 obtain⟨c,a,cs,z,rfl,hc,ha,hz,bi,q⟩:=h
 refine⟨_,(ai (bc 2 nd (bg dj)) (ai (bc 3 nd gx) (ai (bc 4 nd (bg (aC (bg dj) (bg dj)))) (ai (bc 5 nd ag) (aN (dH (aD (aj 0)) (aT 6 nd) (ai (bc 5 nd (au aS (aj 5) (au cf (aj 6) ag))) (ai (bM (bB xx (aj 5) (au gW (au gW (aR aI (aj 1) ag) (aR aI (aj 1) ag)) (aR aI (aj 1) ag))) sO) (ai (bc 7 nd (au dO (aR aI (aj 1) ag) (au cf (aj 5) (aR aI (aj 1) ag)))) (ai (bc 8 nd (br (gA rfl) T.min_ (aC (au aS ag (au cf (au dz (aj 6) ag) ag)) (aj 7)))) (ai (bc 9 nd (au cf (au dz (aj 6) ag) ag)) (ai (bc 10 nd (au aS ag (au cf (au gW (aj 6) ag) (au dO (au pN ag ag) ag)))) (ai (m9 11 ["k"] ["sizes", "at"] [1,5] nd (qT T.range_ (az (aj 8))) (cv 0) bj (aH (by exact cB) (by exact hr) (aC (aj 1) (au aS (aj 2) (aj 0))))) (ai (jc (bB di (au cf (aj 9) ag) ag) (aN (aO (dh Mm Nm Nn dU (aj 2) (az (aj 11)))) (aO (dh Mm Nk Nl dD (aR aV (aj 4) ag) (az (aH cd hr (aw aL (aC (aR aV (aj 11) ag) (aR aV (aj 11) (oG j9 ag))))))))) fH) (ai (bM (bB di (aj 9) ag) (bc 11 nd (cD cW (aj 11) eB (bT ag)))) (ai (jc (bB oK (aj 9) ag) (aN (dH (aD (aj 11)) (aT 12 nd) (aE (i6 (bL.one hr) (aj 3) (aj 12) (aj 10) (by rfl)))) (aO (dh Mm Nk Nl dD (aR aV (aj 4) ag) (az (aH cd hr (aw (au bE aL (cK bf T.str_ (az (aj 10)))) (aC (aR aV (aj 11) ag) (aR aV (aj 11) (oG j9 ag))))))))) fH) (ai (bc 5 nd (au aS (aj 5) (aj 8))) (aN (jc (ie (bB di (aj 9) ag) (iP (bB jV (aj 8) (aj 7)))).pt (ai (bc 12 nd (aH cB hr (aC (aj 1) (aj 5)))) (ai (i6 (bL.one hr) (aj 3) (aj 12) (au aS (aj 10) ag) (by rfl)) (aN (aO (dh Mm Nk Nl dD (aR aV (aj 4) ag) (az (aH cd hr (aw (au bE aL (cK bf T.str_ (az (au aS (aj 10) ag)))) (aC (aj 12) (aj 12))))))) (bc 5 nd (au aS (aj 5) ag))))) fH) (bM (bB oK (au cf (aj 5) (aR aI (aj 1) ag)) ag) (bc 5 nd (au aS (aj 5) ag)))))))))))))))) (ay (bZ (aw (aj 2) (aC (aj 3) (au dk (aR aV (aj 4) ag) (aR aV (aj 4) ag))))))))))),?_⟩
 have b8:sizeLine=2^24:=rfl
 obtain⟨⟨z0,z1⟩,⟨z2,z3⟩,z4,z5⟩:=id hz
 have tp:0<z.1*z.2.1*z.2.2:=Nat.mul_pos (Nat.mul_pos (by lia) (by lia)) (by lia)
 have te:((z.1:Int)*(z.2.1:Nat)*(z.2.2:Nat))=((z.1*z.2.1*z.2.2:Nat):Int):=by push_cast;rfl
 refine gj (vs:=[]) ao (by show 0<=sizeLine;decide) λra n1=>?_
 refine bJ λtd n2=>?_
 refine fY λR hR=>lF (aG (dM (vs:=[]) ao (by show 0<=sizeLine;decide) λr0 n3=>aG (dM (vs:=[]) ao (by show 0<=sizeLine;decide) λr1 n4=>⟨by show 2<=sizeLine;decide,λrl n5=>hR _ _ ?_⟩)))
 obtain⟨H1,dl⟩:∃H1,H1=upd (upd (upd (upd (upd H ra (.lst [])) td (.dT [])) r0 (.lst [])) r1 (.lst [])) rl (.lst [.ref r0,.ref r1]):=⟨_,rfl⟩
 have f1:td≠ra:=λe=>by rw[e,ae] at n2;cases n2
 have f2:r0≠td:=λe=>by rw[e,ae] at n3;cases n3
 have D:upd H ra (.lst []) r0=none:=by rw[ak f2] at n3;exact n3
 have f3:r0≠ra:=λe=>by rw[e,ae] at D;cases D
 have f4:r1≠r0:=λe=>by rw[e,ae] at n4;cases n4
 have F:upd (upd H ra (.lst [])) td (.dT []) r1=none:=by rw[ak f4] at n4;exact n4
 have f5:r1≠td:=λe=>by rw[e,ae] at F;cases F
 have u:upd H ra (.lst []) r1=none:=by rw[ak f5] at F;exact F
 have f6:r1≠ra:=λe=>by rw[e,ae] at u;cases u
 have f7:rl≠r1:=λe=>by rw[e,ae] at n5;cases n5
 have I:upd (upd (upd H ra (.lst [])) td (.dT [])) r0 (.lst []) rl=none:=by rw[ak f7] at n5;exact n5
 have f8:rl≠r0:=λe=>by rw[e,ae] at I;cases I
 have x:upd (upd H ra (.lst [])) td (.dT []) rl=none:=by rw[ak f8] at I;exact I
 have f9:rl≠td:=λe=>by rw[e,ae] at x;cases x
 have r:upd H ra (.lst []) rl=none:=by rw[ak f9] at x;exact x
 have W:rl≠ra:=λe=>by rw[e,ae] at r;cases r
 have N:JZ H ra td rl r0 r1:=⟨n1,by rw[ak f1] at n2;exact n2,by rw[ak W] at r;exact r,by rw[ak f3] at D;exact D,by rw[ak f6] at u;exact u,W.symm,f3.symm,f6.symm,f8.symm,f7.symm,f4.symm⟩
 have M1:kZ H H1 ra td rl r0 r1 [] [] [] []:=by
  rw[dl]
  refine⟨((((((ah.refl H).upd n1).upd n2).upd n3).upd n4).upd n5),⟨[],?_,.nil⟩,?_,ae,?_,?_⟩
  ·rw[ak W.symm,ak f6.symm,ak f3.symm,ak f1.symm,ae];rfl
  ·rw[ak f9.symm,ak f5.symm,ak f2.symm,ae];rfl
  ·show upd _ rl _ r0=_;rw[ak f8.symm,ak f4.symm,ae];rfl
  ·show upd _ rl _ r1=_;rw[ak f7.symm,ae];rfl
 rw[<-dl]
 clear dl r x I n5 u F n4 D n3 n2 hR R
 refine c8 ar ?_
 refine fF (σ':=[_,_,_,_,_,_,_,_,_,_,_,_,_]) rfl ?_
 refine kE (λσ H'=>∃x5 x6 x7 x8 x9 C d b:Option V,σ=[some (.ref c),some (.ref a),some (.ref ra),some (.ref td),some (.ref rl),x5,x6,x7,x8,x9,C,d,b]/\kZ H H' ra td rl r0 r1 ((kX z cs).1.flatMap bG) ((kX z cs).1.map Hh) ((kX z cs).2.flatMap bu) ((kX z cs).2.map DT)/\(kX z cs).1.length+(kX z cs).2.length<=900) (λR hR=>?_) ?_
 ·refine⟨_,rfl,⟨c,rfl,⟨_,aF.of (M1.sm _ _ hc)⟩,?_⟩⟩
  refine bN (K:=K) (xs:=cs.map V.int) (λi σ H'=>∃(n:Nat) (x6 x7 x8 x9 C d b:Option V),σ=[some (.ref c),some (.ref a),some (.ref ra),some (.ref td),some (.ref rl),some (.int (n:Nat)),x6,x7,x8,x9,C,d,b]/\Kr z H ra td rl r0 r1 cs i n H') ⟨0,none,none,none,none,none,none,none,rfl,[],[],M1,rfl,rfl,(λ_ h=>nomatch h),LL _,LL _,LL _,LL _⟩ (λi σ H' _ ⟨_,_,_,_,_,_,_,_,_,m⟩=>aF.of (m.sm _ _ hc)) ?_ ?_
  ·rintro i v σ H2 hi ⟨n,x6,x7,x8,x9,C,d,b,rfl,A,B,M,e1,e2,lt,l1,l2,l3,l4⟩
   obtain⟨k,hk,rfl⟩:=fT hi
   have il:=bO hk
   have ed:cs.drop i=k::cs.drop (i+1):=by
    rw[List.drop_eq_getElem_cons il]
    rw[Mi il] at hk
    rw[Option.some.inj hk]
   rw[ed] at e1 e2
   refine gn ?_
   have ip:∀{σ:St} {H':Hp} (m:Int) (y:Nat),ah H H'->σ[1]?=some (some (.ref a))->jq ((t3 z).map V.int) m=some (.int (y:Nat))->Ev (fv (nW K) (cR 1) (tC (.int m))) σ H' (.int (y:Nat)):=λm y s hv he=>fc (aa hv) ar (bW.of (s _ _ ha)) he
   have s2:=M.sm
   have m4:=Na k (show(4:Int)≠0 by decide)
   have bt:=Nb k (show(0:Int)<4 by decide)
   obtain⟨a0,dm⟩:∃a0,a0=n+(k%4).toNat:=⟨_,rfl⟩
   refine c8 (v:=.int (a0:Nat)) (aY (aQ (g:=λi j=>V.int (i+j)) (aa rfl) (cz (aa rfl) ar (by decide))) (by show V.int ((n:Nat)+k%4)=_;congr 1;lia)) ?_
   refine fF (σ':=[_,_,_,_,_,_,_,_,_,_,_,_,_]) rfl ?_
   refine eX (aB (wR (aa rfl) (aY (cz (cz (ip 0 z.1 s2 rfl rfl) (ip 1 z.2.1 s2 rfl rfl) (DV (by lia) (by lia))) (ip 2 z.2.2 s2 rfl rfl) (DV (by lia) (by lia))) (congrArg V.int te)))) (λe=>?_) λe=>?_
   ·have e:=Int.ofNat_le.mp (of_decide_eq_true e)
    rw[wu (by rw[<-dm];lia)] at e1 e2
    have e1:(kX z cs).1=A:=e1.trans (Mb _)
    have e2:(kX z cs).2=B:=e2.trans (Mb _)
    exact hR _ _ ⟨_,_,_,_,_,_,_,_,rfl,by rw[e1,e2];exact M,by rw[e1,e2];lia⟩
   have GN:a0<z.1*z.2.1*z.2.2:=by have:=of_decide_eq_false e;lia
   rw[wB (by rw[<-dm];exact GN),<-dm] at e1 e2
   have am:=NJ a0 (show 0<z.2.2 by lia)
   obtain⟨my,cc⟩:∃my,my=iW z a0 k:=⟨_,rfl⟩
   have bb:=md (show 0<z.2.2 by lia) a0 k
   rw[<-cc] at bb
   have bm:my<=3:=by rw[cc];unfold iW;lia
   refine c8 (v:=.int (z.2.2 - a0%z.2.2:Nat)) (aY (aQ (g:=λi j=>V.int (i - j)) (ip 2 z.2.2 s2 rfl rfl) (cz (aa rfl) (ip 2 z.2.2 s2 rfl rfl) (by show(0:Int)<_;lia))) (by show V.int (((z.2.2:Nat):Int) - (a0:Nat)%(z.2.2:Nat))=_;congr 1;lia)) ?_
   refine c8 (v:=.int (my:Nat)) (aY (de (af (aQ (g:=λi j=>V.int (i+j)) ar (cz (cz (aa rfl) ar ⟨by decide,by decide⟩) ar (by decide))) (af (aa rfl) ao)) λQ' q'=>⟨_,_,rfl,q'⟩) (by rw[cc,Dt];unfold iW;congr 1;lia)) ?_
   obtain⟨ck,cN⟩:∃ck,ck=knd k:=⟨_,rfl⟩
   refine c8 (v:=.int (ck:Nat)) (aY (cz (cz (aa rfl) ar ⟨by decide,by decide⟩) ar (by decide)) (by show V.int (k/12%5)=_;rw[cN];unfold knd;congr 1;lia)) ?_
   obtain⟨tn,Z,bD,b6⟩:=Gn k
   refine c8 (v:=.int (tn:Nat)) (aY (aQ (g:=λi j=>V.int (i+j)) ar (cz (cz (aa rfl) ar (DV (by decide) (by decide))) (aQ (g:=λi j=>V.int (i - j)) (cz ar ar (Kk (by decide) (by decide) (by decide))) ar) (by show(0:Int)<10^12 - 1;decide))) (congrArg V.int Z)) ?_
   refine fF (σ':=[_,_,_,_,_,_,_,_,_,_,_,_,_]) rfl ?_
   refine Iq (j:=((my:Nat):Int)) (af (aa rfl) ao) (by lia) (by lia) λl nl=>?_
   rw[MH]
   refine ml (n:=my) (λj τ H'=>∃(x0:Option V) (as:List Addr),τ=[x0,some (.ref a),some (.int (a0:Nat))]/\ah H2 H'/\H' l=some (.lst (as.map V.ref))/\aX H' as (((List.range j).map (fQ (eV z a0))).map t3)/\as.length=j) ⟨none,[],rfl,(ah.refl H2).upd nl,ae,.nil,rfl⟩ ?_ ?_
   ·rintro j τ H3 hj ⟨x0,as,rfl,s3,U,Y,a1⟩
    refine gn (dQ ?_)
    refine aP (vs:=[.ref a,.int ((a0+j:Nat):Int)]) (af (aa rfl) (af (aY (aQ (g:=λi j=>V.int (i+j)) (aa rfl) (aa rfl)) (by show V.int ((a0:Nat)+(0+(j:Nat)))=_;congr 1;lia)) ao)) ⟨a,z,a0+j,rfl,(s2.trans s3) _ _ ha,hz,λt H4 s4 nt d7=>?_⟩
    rw[pZ (by lia)] at d7
    have ab:=s4 _ _ U
    refine⟨_,ab,by rw[LK];lia,_,as++[t],rfl,bK (s3.trans s4) nl,by rw[ae,LQ];rfl,?_,by rw[LP,a1];rfl⟩
    rw[NS,LQ,LQ]
    exact dX (cA (Y.same s4) (gz ab)) (.cons (gz ab _ _ d7) .nil)
   rintro τ H3 ⟨x0,as,rfl,s3,U,Y,a1⟩
   have av:∀v:V,aX H3 as ((bG (eV z a0,my - 1,v)).map t3):=λv=>by unfold bG;rw[show my - 1+1=my by lia];exact Y
   have a2:∀v:V,AL H3 l (bG (eV z a0,my - 1,v)):=λv=>⟨as,U,av v⟩
   refine fF (σ':=[_,_,_,_,_,_,_,_,_,_,_,_,_]) rfl ?_
   have sm:∀i,i<=my - 1->Sm [eV z a0,fQ (eV z a0) i]:=λi hi=>Cp hz (oO hz GN (k:=my - 1) (by lia) (i:=0) (by lia)) (oO hz GN (k:=my - 1) (by lia) hi)
   have M3:=M.same s3
   have bA:H l=none:=da s2 nl
   have nA:l≠ra:=λe=>by obtain⟨_,⟨_,z,_⟩,_⟩:=M;rw[<-e,nl] at z;cases z
   have n0:l≠r0:=λe=>by obtain⟨_,_,_,_,z,_⟩:=M;rw[<-e] at z;exact nomatch nl.symm.trans z
   have bv:l≠r1:=λe=>by obtain⟨_,_,_,_,_,z⟩:=M;rw[<-e] at z;exact nomatch nl.symm.trans z
   refine kE (λσ H'=>σ=[some (.ref c),some (.ref a),some (.ref ra),some (.ref td),some (.ref rl),some (.int (a0:Nat)),some (.int k),some (.int (z.2.2 - a0%z.2.2:Nat)),some (.int (my:Nat)),some (.int (ck:Nat)),some (.int (tn:Nat)),some (.ref l),b]/\kZ H H' ra td rl r0 r1 ((A++kh (V.bl true) z a0 k).flatMap bG) ((A++kh (V.bl true) z a0 k).map Hh) (B.flatMap bu) (B.map DT)/\∀v:V,AL H' l (bG (eV z a0,my - 1,v))) (λR2 ce=>?_) ?_
   ·refine gF (aB (fU (cz (aa rfl) ar (by decide)) ar)) (λe=>?_) (λe=>ce _ _ ⟨rfl,?_,a2⟩)
    ·have e:knd k%2=0:=by have:=of_decide_eq_true e;rw[<-cN];lia
     have er:kh (V.bl true) z a0 k=[(eV z a0,my - 1,V.bl true)]:=by unfold kh;rw[if_pos e,cc]
     obtain⟨_,⟨ad,O,a7⟩,_,_,_,_⟩:=id M3
     have la:ad.length<=3*i:=by rw[Paired.length a7,LK];exact l1
     refine fZ (eo (aa rfl) (.inl ⟨rfl,_,aF.of O⟩) (a_ (aa rfl) ⟨ra,l,_,_,rfl,rfl,O,U,by rw[LK,LK];lia,?_⟩))
     have M4:=M3.pR N (qs:=bG (eV z a0,my - 1,V.bl true)) O (av (V.bl true))
     have o:∀v:V,AL (upd H3 ra (.lst (ad.map V.ref++as.map V.ref))) l (bG (eV z a0,my - 1,v)):=λv=>(a2 v).put nA O
     revert M4 o
     generalize upd H3 ra (.lst (ad.map V.ref++as.map V.ref))=H4
     intro M4 o
     obtain⟨bs,fa,la,b1,b2,b3,b4,b5⟩:=vQ (o (V.bl true))
     obtain⟨_,_,_,h3,h4,_⟩:=id M4
     refine qU (K:=K) (h:=cp (kS 3)) rfl h3 (bS (j:=0) rfl) h4 (by rw[LK];lia) (aY ar (vz (kS 3))) (cM (aa rfl) ar (aF.of b1) b2) (cM (aa rfl) (EI ar) (aF.of b1) b3) b4 b5 (sm _ (LL _)) (by decide+kernel) λH5 s5=>ce _ _ ⟨rfl,?_,λv=>((o v).same s5).put n0 (s5 _ _ h4)⟩
     rw[er,MT,MJ,LQ]
     exact(M4.same s5).p0 N _
    ·have e:¬knd k%2=0:=by have:=of_decide_eq_false e;rw[<-cN];lia
     rw[show kh (V.bl true) z a0 k=[] by unfold kh;rw[if_neg e],Mb]
     exact M3
   rintro σ H4 ⟨rfl,M4,o⟩
   obtain⟨n2,ct⟩:∃n2,n2=if knd k=4 then 0 else my - 1:=⟨_,rfl⟩
   have a6:n2<=my - 1:=by rw[ct];split<;>lia
   refine kE (λσ H'=>∃l',σ=[some (.ref c),some (.ref a),some (.ref ra),some (.ref td),some (.ref rl),some (.int (a0:Nat)),some (.int k),some (.int (z.2.2 - a0%z.2.2:Nat)),some (.int (my:Nat)),some (.int (ck:Nat)),some (.int (tn:Nat)),some (.ref l'),b]/\kZ H H' ra td rl r0 r1 ((A++kh (V.bl true) z a0 k).flatMap bG) ((A++kh (V.bl true) z a0 k).map Hh) (B.flatMap bu) (B.map DT)/\AL H' l' (bG (eV z a0,n2,V.int (tn:Nat)))) (λR2 ce=>?_) ?_
   ·refine gF (aB (fU (aa rfl) ar)) (λe=>?_) (λe=>ce _ _ ⟨l,rfl,M4,?_⟩)
    ·have e:knd k=4:=by have:=of_decide_eq_true e;rw[<-cN];lia
     rw[if_pos e] at ct
     obtain⟨bs,J,G⟩:=o (V.int (tn:Nat))
     have bl:1<=bs.length:=by rw[Paired.length G,LK,iE];lia
     refine Eb (vK (aa rfl) ar (aF.of J) λl' d4=>ce _ _ ⟨l',rfl,M4.same ((ah.refl H4).upd d4),bs.take 1,?_,?_⟩)
     ·rw[ae,show(1:Int)=((1:Nat):Int) from rfl,ud _ _ (by rw[LK];exact bl),M_]
     ·rw[ct]
      have:=iT G 1
      rw[<-M_] at this
      have e2:(bG (eV z a0,my - 1,V.int (tn:Nat))).take 1=bG (eV z a0,0,V.int (tn:Nat)):=by
       unfold bG
       rw[<-M_,List.take_range,M9 (by show 1<=my - 1+1;lia)]
      rw[e2] at this
      exact aX.same this ((ah.refl H4).upd d4)
    ·have e:¬knd k=4:=by have:=of_decide_eq_false e;rw[<-cN];lia
     rw[ct,if_neg e];exact o _
   rintro σ H5 ⟨l',rfl,M5,a4⟩
   refine kE (λσ H'=>∃d b:Option V,σ=[some (.ref c),some (.ref a),some (.ref ra),some (.ref td),some (.ref rl),some (.int (a0:Nat)),some (.int k),some (.int (z.2.2 - a0%z.2.2:Nat)),some (.int (my:Nat)),some (.int (ck:Nat)),some (.int (tn:Nat)),d,b]/\kZ H H' ra td rl r0 r1 ((A++kh (V.bl true) z a0 k).flatMap bG) ((A++kh (V.bl true) z a0 k).map Hh) ((B++iU V.int z a0 k).flatMap bu) ((B++iU V.int z a0 k).map DT)) (λR2 ce=>?_) ?_
   ·refine gF (aB (rS (aa rfl) ar)) (λe=>?_) (λe=>ce _ _ ⟨_,_,rfl,?_⟩)
    ·have e:¬knd k=0:=by have:=of_decide_eq_true e;rw[<-cN];lia
     have et:iU V.int z a0 k=[(eV z a0,n2,V.int (tn:Nat))]:=by unfold iU;rw[if_neg e,<-cc,<-ct,Z]
     obtain⟨bs,J,G⟩:=a4
     obtain⟨_,_,hd,_⟩:=id M5
     refine⟨_,rfl,l',rfl,⟨_,aF.of J⟩,pT (K:=K) J G hd (by unfold eG;rw[LK,iE];show _+(n2+1)<=_;lia) (λ_=>rfl) (λ_=>rfl) (λ_ _=>aa rfl) λc1 H6 ew s6 d3=>?_⟩
     rw[jO _ _ (Jw _) λp hp hm=>?_] at d3
     ·have M6:=M5.pD N s6 d3
      have a3:AL H6 l' (bG (eV z a0,n2,V.int (tn:Nat))):=Sb.al s6 hd ⟨bs,J,G⟩
      obtain⟨S,rfl⟩:∃S:Option V,c1=[some (.ref c),some (.ref a),some (.ref ra),some (.ref td),some (.ref rl),some (.int (a0:Nat)),some (.int k),some (.int (z.2.2 - a0%z.2.2:Nat)),some (.int (my:Nat)),some (.int (ck:Nat)),some (.int (tn:Nat)),some (.ref l'),S]:=by
       rcases ew with rfl|⟨v,rfl⟩
       ·exact⟨_,rfl⟩
       ·exact⟨_,rfl⟩
      obtain⟨b7,fa,la,b1,b2,b3,b4,b5⟩:=vQ a3
      obtain⟨_,_,_,h3,_,h5⟩:=id M6
      refine qU (K:=K) (h:=jl 32 [cp (kS 4),dg tn]) rfl h3 (bS (j:=1) rfl) h5 (by rw[LK];lia) (F4 (aa rfl) (by lia)) (cM (aa rfl) ar (aF.of b1) b2) (cM (aa rfl) (EI ar) (aF.of b1) b3) b4 b5 (sm _ a6) (zV (by lia)) λH7 s7=>ce _ _ ⟨_,_,rfl,?_⟩
      rw[et,qL,p9 (f:=DT),Ai]
      exact(M6.same s7).p1 N _
     ·obtain⟨m,a5,rfl⟩:=LN.mp hm
      have:=lt m a5
      have:=(uG hp).1
      lia
    ·have e:knd k=0:=by have:=of_decide_eq_false e;rw[<-cN];lia
     rw[show iU V.int z a0 k=[] by unfold iU;rw[if_pos e],Mb]
     exact M5
   rintro σ H6 ⟨d,S,rfl,M6⟩
   have X:∀m∈(B++iU V.int z a0 k).flatMap bu,gG z m.1<a0+my:=λm hm=>by
    rw[MT] at hm
    rcases L_.mp hm with hm|hm
    ·have:=lt m hm;lia
    ·unfold iU at hm
     split at hm
     ·cases hm
     ·rw[MJ,<-cc,<-ct] at hm
      have:=(uG (qp hm)).2
      lia
   refine c8 (v:=.int (a0+my:Nat)) (aY (aQ (g:=λi j=>V.int (i+j)) (aa rfl) (aa rfl)) (by rw[MK])) ?_
   refine fF (σ':=[_,_,_,_,_,_,_,_,_,_,_,_,_]) rfl ?_
   refine kE (λσ H'=>∃d b:Option V,σ=[some (.ref c),some (.ref a),some (.ref ra),some (.ref td),some (.ref rl),some (.int (pV z a0 k:Nat)),some (.int k),some (.int (z.2.2 - a0%z.2.2:Nat)),some (.int (my:Nat)),some (.int (ck:Nat)),some (.int (tn:Nat)),d,b]/\kZ H H' ra td rl r0 r1 ((A++kh (V.bl true) z a0 k).flatMap bG) ((A++kh (V.bl true) z a0 k).map Hh) ((B++iU V.int z a0 k++oh V.int z a0 k).flatMap bu) ((B++iU V.int z a0 k++oh V.int z a0 k).map DT)) (λR2 ce=>?_) ?_
   ·have no:¬Hb z a0 k->R2 [some (.ref c),some (.ref a),some (.ref ra),some (.ref td),some (.ref rl),some (.int (a0+my:Nat)),some (.int k),some (.int (z.2.2 - a0%z.2.2:Nat)),some (.int (my:Nat)),some (.int (ck:Nat)),some (.int (tn:Nat)),d,S] H6:=λnt=>ce _ _ ⟨_,_,by unfold pV;rw[if_neg nt,cc],by unfold oh;rw[if_neg nt,Mb];exact M6⟩
    refine jH (xI (aB (fU (aa rfl) ar)) (λe=>eF (no λt=>?_)) λe=>gN (aB (rF (aa rfl) (aa rfl))) (rG (λe2=>?_) λe2=>no λt=>?_))
    ·have:=of_decide_eq_false e
     have:=t.1
     lia
    ·have tw:Hb z a0 k:=⟨by have:=of_decide_eq_true e;lia,by have:=of_decide_eq_true e2;rw[<-cc];lia⟩
     have bd:oh V.int z a0 k=[(eV z (a0+my),0,V.int ((tn+1:Nat):Int))]:=by unfold oh;rw[if_pos tw,<-cc,Z];rfl
     have e3:=tw.2
     rw[<-cc] at e3
     have s6:=M6.sm
     refine bJ (aP (vs:=[.ref a,.int ((a0+my:Nat):Int)]) (af (aa rfl) (af (aa rfl) ao)) ⟨a,z,a0+my,rfl,s6 _ _ ha,hz,λt H7 s7 nt dp=>?_⟩)
     have M7:=M6.same s7
     obtain⟨_,_,hd,_⟩:=id M7
     refine fF (σ':=[_,_,_,_,_,_,_,_,_,_,_,_,_]) rfl ?_
     have bl:((B++iU V.int z a0 k).flatMap bu).length<=4*i+3:=by
      rw[MT,LP]
      have:((iU V.int z a0 k).flatMap bu).length<=3:=by
       unfold iU
       split
       ·exact L0 _
       ·rw[MJ,<-cc,<-ct];unfold bu;rw[LK,iE];show n2+1<=3;lia
      lia
     refine ES (v:=.int ((tn+1:Nat):Int)) (aY (aQ (g:=λi j=>V.int (i+j)) (aa rfl) ar) (by rw[MK];rfl)) (aa rfl) (aa rfl) (lx.t hd (j5 dp) (by unfold eG;rw[LK];lia)) ?_
     have pn:=jO (m:=V.int ((tn+1:Nat):Int)) [eV z (a0+my)] ((B++iU V.int z a0 k).flatMap bu) (by simp) λp hp hm=>by
      rw[LY.mp hp] at hm
      obtain⟨m,hm,em⟩:=LN.mp hm
      have:=X m hm
      have em:m.1=eV z (a0+my):=em
      rw[em,iQ] at this
      lia
     have pn:c6 (eG ((B++iU V.int z a0 k).flatMap bu)) (iK (t3 (eV z (a0+my)))) (V.int ((tn+1:Nat):Int))=eG ((B++iU V.int z a0 k).flatMap bu++[(eV z (a0+my),V.int ((tn+1:Nat):Int))]):=pn
     obtain⟨H8,dc⟩:∃H8,H8=upd H7 td (.dT (c6 (eG ((B++iU V.int z a0 k).flatMap bu)) (iK (t3 (eV z (a0+my)))) (V.int ((tn+1:Nat):Int)))):=⟨_,rfl⟩
     have M8:kZ H H8 ra td rl r0 r1 ((A++kh (V.bl true) z a0 k).flatMap bG) ((A++kh (V.bl true) z a0 k).map Hh) ((B++iU V.int z a0 k).flatMap bu++[(eV z (a0+my),V.int ((tn+1:Nat):Int))]) ((B++iU V.int z a0 k).map DT):=by
      rw[dc]
      exact M7.pD N (Sb.refl td H7).set (by rw[ae,pn])
     have ap:A3 H8 t (eV z (a0+my)):=by
      rw[dc]
      show upd H7 td _ t=_
      rw[ak (cQ dp hd (λw=>nomatch w))]
      exact dp
     rw[<-dc]
     obtain⟨_,_,_,h3,_,h5⟩:=id M8
     have an:In z (eV z (a0+my)):=by rw[pZ (by lia)];exact oO hz GN (k:=my) (by lia) (LL _)
     refine Hz (K:=K) (h:=jl 32 [cp (kS 4),dg (tn+1)]) (s:=fQ (eV z (a0+my)) 0) rfl h3 (bS (j:=1) rfl) h5 (by rw[LK,LP];have:(iU V.int z a0 k).length<=1:=by{unfold iU;split<;>simp};lia) (F4 (aY (aQ (g:=λi j=>V.int (i+j)) (aa rfl) ar) (by rw[MK];rfl)) (by lia)) (aa rfl) (aa rfl) ap ap (Cp hz an an) (zV (by lia)) λH9 s9=>qJ (v:=.int (a0+my+1:Nat)) (aY (aQ (g:=λi j=>V.int (i+j)) (aa rfl) ar) (by rw[MK (a0+my)];rfl)) (ce _ _ ⟨_,_,by unfold pV;rw[if_pos tw,<-cc];rfl,?_⟩)
     rw[bd,qL,p9 (f:=DT),Ai]
     exact(M8.same s9).p1 N _
    ·have:=of_decide_eq_false e2
     have:=t.2
     rw[<-cc] at this
     lia
   rintro σ H7 ⟨b0,bn,rfl,M7⟩
   have ac:Kr z H ra td rl r0 r1 cs (i+1) (qV z a0 k) H7:=by
    have bl:=qr z a0 k
    have al:=(mQ z a0 k).1
    rw[<-cc] at bl
    have t1:(kh (V.bl true) z a0 k).length<=1/\((kh (V.bl true) z a0 k).flatMap bG).length<=3:=by
     unfold kh
     split
     ·refine⟨LL _,?_⟩
      rw[MJ,iE,<-cc];show my - 1+1<=3;lia
     ·exact⟨L0 _,L0 _⟩
    have t2:(iU V.int z a0 k).length<=1/\((iU V.int z a0 k).flatMap bu).length<=3:=by
     unfold iU
     split
     ·exact⟨L0 _,L0 _⟩
     ·refine⟨LL _,?_⟩
      rw[MJ,<-cc,<-ct];unfold bu;rw[LK,iE];show n2+1<=3;lia
    have b9:(oh V.int z a0 k).length<=1/\((oh V.int z a0 k).flatMap bu).length<=1:=by
     unfold oh
     split
     ·exact⟨LL _,LL _⟩
     ·exact⟨L0 _,L0 _⟩
    refine⟨A++kh (V.bl true) z a0 k,B++iU V.int z a0 k++oh V.int z a0 k,M7,by rw[e1,Mn],by rw[e2,Mn,Mn],λm hm=>?_,by rw[MT,LP];lia,by rw[LP];lia,by rw[MT,MT,LP,LP];lia,by rw[LP,LP];lia⟩
    rw[MT] at hm
    rcases L_.mp hm with hm|hm
    ·have:=X m hm;lia
    ·unfold oh at hm
     split at hm
     ·next tw=>
      have be:pV z a0 k=a0+my+1:=by unfold pV;rw[if_pos tw,<-cc]
      rw[MJ,<-cc] at hm
      have:=(uG (qp hm)).2
      lia
     ·cases hm
   refine gF (aB (rS (cz (aa rfl) (ip 2 z.2.2 M7.sm rfl rfl) (by show(0:Int)<_;lia)) ar)) (λe=>?_) (λe=>?_)
   ·have ea:qV z a0 k=pV z a0 k+1:=by unfold qV;rw[if_pos (by have:=of_decide_eq_true e;lia)]
    exact qJ (v:=.int (qV z a0 k:Nat)) (aY (aQ (g:=λi j=>V.int (i+j)) (aa rfl) ar) (by rw[ea,MK];rfl)) ⟨qV z a0 k,_,_,_,_,_,_,_,rfl,ac⟩
   ·have ea:qV z a0 k=pV z a0 k:=by unfold qV;rw[if_neg (by have:=of_decide_eq_false e;lia)]
    rw[ea] at ac
    exact⟨pV z a0 k,_,_,_,_,_,_,_,rfl,ac⟩
  ·rintro σ H2 ⟨n,x6,x7,x8,x9,C,d,b,rfl,A,B,M,e1,e2,lt,l1,l2,l3,l4⟩
   rw[LK] at e1 e2 l2 l4
   rw[List.drop_length] at e1 e2
   have e1:(kX z cs).1=A:=e1.trans (Mb _)
   have e2:(kX z cs).2=B:=e2.trans (Mb _)
   exact hR _ _ ⟨_,_,_,_,_,_,_,_,rfl,by rw[e1,e2];exact M,by rw[e1,e2];lia⟩
 ·rintro σ H2 ⟨x5,x6,x7,x8,x9,C,d,b,rfl,⟨s,h1,h2,h3,h4,h5⟩,hl⟩
  refine bR (a_ (aa rfl) (a_ (aa rfl) (aG (dW (cZ (cM (aa rfl) ar (aF.of h3) (bS (j:=0) rfl)) (cZ (cM (aa rfl) ar (aF.of h3) (bS (j:=1) rfl)) (gT h4 h5 (by rw[LK,LK];lia) λc3 H3 s3 eC=>?_)))))))
  refine⟨by show 3<=sizeLine;decide,λt nt=>q t ra td c3 _ ((s.trans s3).upd nt) ae (h1.same (s3.upd nt)) ((s3.upd nt) _ _ h2) ?_⟩
  exact((ah.refl H3).upd nt) _ _ eC
theorem ui (cN:aA P w K mg base "_law_ends" 2 ["cells", "sizes", "rocks", "half", "room", "lying"] ya)(cF:aA P w K mg base "_law_name" 1 ["head", "names", "place"] wX):eO P w K mg base 3 "_law_things" tQ ["cells", "sizes", "rocks", "place"] pq:=by
 refine rd ["cells", "sizes", "rocks", "place", "things", "lying", "at", "head", "half", "room", "many", "ends", "cut", "name"] λnd _ _ _ _ _ H vs Q E hr h=>?_
 obtain⟨c,a,d,cs,z,J,f,rfl,hc,bv,ha,hz,hd,a0,q⟩:=h
 refine⟨_,(ai (bc 4 nd (bg dj)) (ai (bc 5 nd (bg dj)) (ai (bc 6 nd ag) (aN (CT PassesOwn.never (ie (bB jV (aj 6) (br aU T.len_ (az (aj 0)))) (iP (bB jV (br aU T.len_ (az (aj 4))) ag))).pt (ai (bc 7 nd (aR aV (aj 0) (aj 6))) (ai (bc 8 nd (aR aV (bg (aC (au cf (au dz (aj 7) ag) ag) ag)) (au cf (aj 7) ag))) (ai (bc 9 nd (au cf (au dz (aj 7) ag) ag)) (ai (bc 10 nd (aR aV (bg (aC (au aS ag (au cf (au dz (aj 7) ag) ag)) (au aS ag (au cf (au dz (aj 7) ag) ag)))) (au cf (aj 7) ag))) (ai (bc 11 nd (aH cN hr (aw (cD cW (aj 0) (bT (au aS (aj 6) ag)) (bT (au aS (au aS (aj 6) ag) (aj 10)))) (aw (aj 1) (aw (aj 2) (aw (aj 8) (aC (aj 9) (aj 5)))))))) (aN (bc 6 nd (au aS (au aS (aj 6) ag) (aj 10))) (jc (bB xx (br aU T.len_ (az (aj 11))) ag) (ai (bc 12 nd (br aU T.len_ (az (aj 11)))) (ai (bM (bB di (au cf (aj 7) ag) ag) (bc 12 nd (br (gA rfl) T.min_ (aC ag (br (eM rfl) T.max_ (aC (au aS ag (au cf (au dz (aj 7) ag) (au dz (br aU T.len_ (az (aj 11))) ag))) (au dO (br aU T.len_ (az (aj 11))) ag))))))) (ai (bc 13 nd (aH cF hr (aw (aj 7) (aC (eI ["thing"] [] [] (aD (aj 4)) (cv 0) bj (aR (wH (K:=K) rfl) (aj 0) ag)) (aj 3))))) (aN (aO (dh Mm Nk Nl dD (aj 4) (az (bZ (aw (aj 13) (aw (aj 8) (aw (aj 9) (aC (cD cW (aj 11) eB (bT (aj 12))) (cD cW (aj 11) (bT (aj 12)) eB))))))))) (aO (dh Mm Nm Nn dU (aj 5) (az (eI ["end"] ["half", "room"] [8,9] (aD (aj 11)) (cv 0) bj (bZ (aw (aj 0) (aC (aj 1) (aj 2)))))))))))) fH)))))))) (ay (aj 4)))))),?_⟩
 have b0:sizeLine=2^24:=rfl
 refine gj (vs:=[]) ao (by show 0<=sizeLine;decide) λtl n1=>?_
 refine gj (vs:=[]) ao (by show 0<=sizeLine;decide) λly n2=>?_
 have f1:ly≠tl:=λe=>by rw[e,ae] at n2;cases n2
 have bt:H ly=none:=by rw[ak f1] at n2;exact n2
 have I0:Ll z J cs H tl ly cs.length 0 (upd (upd H tl (.lst [])) ly (.lst [])):=⟨[],[],[],rfl,((ah.refl H).upd n1).upd n2,by rw[ak f1.symm,ae],.nil,ae,.nil,⟨NN,by decide,λ_ h=>(nomatch h),λ_ h=>(nomatch h),List.Pairwise.nil⟩,λ_ h=>nomatch h⟩
 revert I0
 generalize upd (upd H tl (.lst [])) ly (.lst [])=H1
 intro I0
 refine c8 ar ?_
 refine fF (σ':=[_,_,_,_,_,_,_,_,_,_,_,_,_,_]) rfl ?_
 refine Cn (λm σ H'=>∃(n:Nat) (x7 x8 x9 ad a2 ap ab:Option V),σ=[some (.ref c),some (.ref a),some (.ref d),some (.int (f:Nat)),some (.ref tl),some (.ref ly),some (.int (n:Nat)),x7,x8,x9,ad,a2,ap,ab]/\Ll z J cs H tl ly m n H') ⟨_,0,none,none,none,none,none,none,none,rfl,I0⟩ ?_
 rintro m σ H2 ⟨n,x7,x8,x9,ad,a2,ap,ab,rfl,us,vs,gs,em,s2,h1,h2,h3,h4,ok,tn⟩
 have bi:=h1
 have an:=s2 _ _ hc
 have lu:us.length=gs.length:=Paired.length h2
 refine⟨_,vk (aB (rF (aa rfl) (dJ (K:=K) (aa rfl) an))) λ_=>aB (rF (dJ (K:=K) (aa rfl) h1) ar),λe N hN=>?_,λ_=>cU (aa rfl) (q tl us gs H2 s2 n1 h1 (Paired.mapP h2 λ_ _ ⟨t,a,b,e,k1,k2,k3,_⟩=>⟨t,a,b,e,k1,k2,k3⟩) ok tn)⟩
 rw[MD,decide_eq_true_iff,decide_eq_true_iff,LK] at e
 have nl:n<cs.length:=by lia
 have gl:gs.length<12:=by lia
 obtain⟨k,hk⟩:∃k,cs[n]?=some k:=⟨_,Mi nl⟩
 have k2:=Na k (show(2:Int)≠0 by decide)
 have bD:=Nb k (show(0:Int)<2 by decide)
 refine c8 (v:=.int k) (cM (aa rfl) (aa rfl) (aF.of an) (bS (by rw[L7,hk];rfl))) ?_
 obtain⟨hf,db⟩:∃hf:Nat,(if k%2=0 then k/2%3 else 0)=((hf:Nat):Int):=⟨(if k%2=0 then k/2%3 else 0).toNat,by split<;>lia⟩
 have U:hf<=2/\(k%2=1->hf=0):=by split at db<;>lia
 refine bJ (sj (K:=K) (k:=k) (cz (cz (aa rfl) ar ⟨by decide,by decide⟩) ar (by decide)) ar (λ_=>cz (aa rfl) ar (by decide)) λH3 s3=>?_)
 rw[db]
 obtain⟨ro,dT⟩:∃ro:Nat,k/6%4=((ro:Nat):Int):=⟨(k/6%4).toNat,by lia⟩
 refine c8 (v:=.int (ro:Nat)) (aY (cz (cz (aa rfl) ar ⟨by decide,by decide⟩) ar (by decide)) (congrArg V.int dT)) ?_
 obtain⟨my,dl⟩:∃my:Nat,(if k%2=0 then 2+k/24%5 else 2+k/24%17)=((my:Nat):Int):=⟨(if k%2=0 then 2+k/24%5 else 2+k/24%17).toNat,by split<;>lia⟩
 have be:(k%2=0->my<=6)/\my<=18:=by split at dl<;>lia
 refine bJ (sj (K:=K) (k:=k) (aQ (g:=λi j=>V.int (i+j)) ar (cz (cz (aa rfl) ar ⟨by decide,by decide⟩) ar (by decide))) (aQ (g:=λi j=>V.int (i+j)) ar (cz (cz (aa rfl) ar ⟨by decide,by decide⟩) ar (by decide))) (λ_=>cz (aa rfl) ar (by decide)) λH4 s4=>?_)
 rw[dl]
 refine fF (σ':=[_,_,_,_,_,_,_,_,_,_,_,_,_,_]) rfl ?_
 have y:=s3.trans s4
 have Z:=s2.trans y
 have h1:=y _ _ h1
 have h3:=y _ _ h3
 have h2:Paired (yC tl ly H4) us gs:=Paired.mapP h2 λ_ _ e=>e.same y
 have h4:Paired (Ly H4) vs (xc gs):=Paired.mapP h4 λ_ _ e=>e.same y
 refine bJ (bI (aG (HZ (K:=K) (i:=((n+1:Nat):Int)) (j:=((n+1+my:Nat):Int)) (aa rfl) (aY (aQ (g:=λi j=>V.int (i+j)) (aa rfl) ar) (by rw[MK];rfl)) (aY (aQ (g:=λi j=>V.int (i+j)) (aQ (g:=λi j=>V.int (i+j)) (aa rfl) ar) (aa rfl)) (by simp only[MK];rfl)) (aF.of (Z _ _ hc)) λsl d0=>?_)))
 obtain⟨G,bn,bA⟩:=Jv cs (n+1) (n+1+my) (by lia)
 rw[bn]
 have s5:=(ah.refl H4).upd (o:=.lst (G.map V.int)) d0
 have e5:upd H4 sl (.lst (G.map V.int)) sl=some (.lst (G.map V.int)):=ae
 revert s5 e5
 generalize upd H4 sl (.lst (G.map V.int))=H5
 intro s5 e5
 have am:=Z.trans s5
 refine a_ (aa rfl) (a_ (aa rfl) (a_ (aa rfl) (a_ (aa rfl) (a_ (aa rfl) ⟨sl,a,d,ly,G,z,iH J,hf,ro,vs,xc gs,rfl,e5,am _ _ ha,am _ _ hd,s5 _ _ h3,Paired.mapP h4 (λ_ _ e=>e.same s5),U.1,hz,by lia,λen ps H6 s6 dm ⟨as,l,A⟩ ch S=>?_⟩))))
 have I:=s5.trans s6
 have a5:=Z.trans I
 have h1:=I _ _ h1
 have h3:=I _ _ h3
 have h2:Paired (yC tl ly H6) us gs:=Paired.mapP h2 λ_ _ e=>e.same I
 have h4:Paired (Ly H6) vs (xc gs):=Paired.mapP h4 λ_ _ e=>e.same I
 have la:as.length=ps.length:=by rw[Paired.length A,LK]
 have S:ps.length<=my:=by lia
 refine c8 (v:=.int (n+1+my:Nat)) (aY (aQ (g:=λi j=>V.int (i+j)) (aQ (g:=λi j=>V.int (i+j)) (aa rfl) ar) (aa rfl)) (by simp only[MK];rfl)) ?_
 refine fF (σ':=[_,_,_,_,_,_,_,_,_,_,_,_,_,_]) rfl ?_
 refine gF (aB (wR (dJ (K:=K) (aa rfl) l) ar)) (λe=>?_) (λ_=>hN (cs.length - (n+1+my)) _ _ (by lia) ⟨_,_,_,_,_,_,_,_,rfl,us,vs,gs,rfl,a5,h1,h2,h3,h4,ok,tn⟩)
 have p2:2<=ps.length:=by have:=of_decide_eq_true e;rw[LK] at this;lia
 refine c8 (v:=.int (ps.length:Nat)) (aY (dJ (K:=K) (aa rfl) l) (by rw[LK,la])) ?_
 refine fF (σ':=[_,_,_,_,_,_,_,_,_,_,_,_,_,_]) rfl ?_
 refine kE (λσ H'=>∃ct:Nat,σ=[some (.ref c),some (.ref a),some (.ref d),some (.int (f:Nat)),some (.ref tl),some (.ref ly),some (.int (n+1+my:Nat)),some (.int k),some (.int (hf:Nat)),some (.int (ro:Nat)),some (.int (my:Nat)),some (.ref en),some (.int (ct:Nat)),ab]/\H6=H'/\ct<=ps.length/\((k%2=0/\ct=ps.length)\/(k%2=1/\1<=ct/\ct<=6/\ct<=ps.length - ct/\ps.length - ct<=12))) (λR hR=>?_) ?_
 ·refine gF (aB (fU (cz (aa rfl) ar (by decide)) ar)) (λe=>?_) (λe=>hR _ _ ⟨ps.length,rfl,rfl,LL _,.inl ⟨by have:=of_decide_eq_false e;lia,rfl⟩⟩)
  have e:k%2=1:=of_decide_eq_true e
  have q0:=Na (k/408) (show(((ps.length/2:Nat):Int))≠0 by lia)
  have q1:=Nb (k/408) (show(0:Int)<((ps.length/2:Nat):Int) by lia)
  have ed:((ps.length:Nat):Int)/2=((ps.length/2:Nat):Int):=by lia
  obtain⟨ct,dP⟩:∃ct:Nat,min (6:Int) (max (1+k/408%((ps.length/2:Nat):Int)) ((ps.length:Nat) - 12))=((ct:Nat):Int):=⟨(min (6:Int) (max (1+k/408%((ps.length/2:Nat):Int)) ((ps.length:Nat) - 12))).toNat,by lia⟩
  refine qJ (v:=.int (ct:Nat)) (aY (de (af ar (af (de (af (aQ (g:=λi j=>V.int (i+j)) ar (cz (cz (aa rfl) ar ⟨by decide,by decide⟩) (cz (aY (dJ (K:=K) (aa rfl) l) (by rw[LK,la])) ar ⟨by decide,by decide⟩) (by show(0:Int)<((ps.length:Nat):Int)/2;lia))) (af (aQ (g:=λi j=>V.int (i - j)) (aY (dJ (K:=K) (aa rfl) l) (by rw[LK,la])) ar) ao)) λQ' q'=>⟨_,_,rfl,q'⟩) ao)) λQ' q'=>⟨_,_,rfl,q'⟩) (by rw[Dt,Gg,ed];exact congrArg V.int dP)) (hR _ _ ⟨ct,rfl,rfl,by lia,.inr ⟨e,by lia,by lia,by lia,by lia⟩⟩)
 rintro σ _ ⟨ct,rfl,rfl,ac,bm⟩
 refine bJ (bI (a_ (aa rfl) (aG ⟨_,rfl,tl,rfl,⟨_,aF.of h1⟩,λD nD=>?_⟩)))
 refine eT (K:=K) (R:=yC tl ly H6) (λg=>g.nm) (λτ=>∃x0:Option V,τ=[x0]) ⟨none,rfl⟩ h1 h2 nD (by lia) ?_ λH7 s7 hD=>a_ (aa rfl) ⟨k,D,gs.map Tn.nm,f,rfl,hD,by rw[LK];lia,a0,λi H8 d4 s8=>?_⟩
 ·rintro u g τ H' hg ⟨t,a',b',rfl,ht,_⟩ s ⟨x0,rfl⟩ X Y qv
  exact gn (dQ (cZ (fc (aa rfl) ar (bW.of (s _ _ ht)) rfl) (qv _ _ ⟨_,rfl⟩ (ah.refl H'))))
 have x:=s7.trans s8
 have h1:=x _ _ h1
 have h3:=x _ _ h3
 have h2:Paired (yC tl ly H8) us gs:=Paired.mapP h2 λ_ _ e=>e.same x
 have h4:Paired (Ly H8) vs (xc gs):=Paired.mapP h4 λ_ _ e=>e.same x
 have l:=x _ _ l
 have A:=aX.same A x
 refine fF (σ':=[_,_,_,_,_,_,_,_,_,_,_,_,_,_]) rfl ?_
 obtain⟨g,eg⟩:∃g:Tn,g=⟨qw f k i,hf,ro,ps.take ct,ps.drop ct⟩:=⟨_,rfl⟩
 have C:g.es=ps:=by rw[eg];exact List.take_append_drop ct ps
 have a4:iu g:=by
  refine⟨by rw[eg];exact AR a0,by rw[eg];exact U.1,by rw[eg];show ro<=3;lia,λp hp=>?_,by rw[C];exact ch.nd,?_⟩
  ·rw[C] at hp
   exact Cm hz (ch.ok p hp).1
  ·rw[eg]
   show(ps.drop ct=[]/\2<=(ps.take ct).length/\(ps.take ct).length<=6)\/(ps.drop ct≠[]/\hf=0/\1<=(ps.take ct).length/\(ps.take ct).length<=6/\(ps.take ct).length<=(ps.drop ct).length/\(ps.drop ct).length<=12)
   rw[Mg,List.length_drop,M9 ac]
   rcases bm with ⟨e0,e1⟩|⟨e0,e1,e2,e3,e4⟩
   ·exact .inl ⟨by rw[e1,List.drop_length],by lia,by have:=be.1 e0;lia⟩
   ·exact .inr ⟨λz=>by have:=congrArg List.length z;rw[List.length_drop,List.length_nil] at this;lia,U.2 e0,e1,e2,e3,e4⟩
 have bl:kG z J (gs++[g]):=EE ok (by rw[eg];exact d4) gl a4.ln (λc hc=>by
  rw[C] at hc
  exact⟨(ch.ok c hc).1,by rw[eg];exact G4 (ch.ok c hc).2.1⟩) λc hc=>by
  rw[C] at hc
  rw[eg];exact(ch.ok c hc).2.2
 have ll:(xc gs).length<=18*gs.length:=EG ok.ln
 have lv:vs.length=(xc gs).length:=Paired.length h4
 refine fZ (eo (aa rfl) (.inl ⟨rfl,_,aF.of h1⟩) (aG (AU (aa rfl) (aa rfl) (aa rfl) (aG (vK (K:=K) (aa rfl) (aa rfl) (aF.of l) λa1 ce=>?_)))))
 rw[ud _ _ (by rw[LK,la];exact ac),<-M_]
 have s9:=(ah.refl H8).upd (o:=.lst ((as.take ct).map V.ref)) ce
 have e9:AL (upd H8 a1 (.lst ((as.take ct).map V.ref))) a1 (ps.take ct):=⟨_,ae,aX.same (jY (e:=en) A).1 s9⟩
 revert s9 e9
 generalize upd H8 a1 (.lst ((as.take ct).map V.ref))=H9
 intro s9 e9
 refine aG (Au (K:=K) (aa rfl) (aa rfl) (aF.of (s9 _ _ l)) λb1 cd=>?_)
 rw[uy _ _ (by rw[LK,la];exact ac),<-List.map_drop]
 have B:=(ah.refl H9).upd (o:=.lst ((as.drop ct).map V.ref)) cd
 have M:AL (upd H9 b1 (.lst ((as.drop ct).map V.ref))) b1 (ps.drop ct):=⟨_,ae,aX.same (jY (e:=en) A).2 (s9.trans B)⟩
 revert B M
 generalize upd H9 b1 (.lst ((as.drop ct).map V.ref))=c3
 intro B M
 refine⟨by show 5<=sizeLine;decide,λt nt=>?_⟩
 have F:=(ah.refl c3).upd (o:=.tup [sv (qw f k i),.int (hf:Nat),.int (ro:Nat),.ref a1,.ref b1]) nt
 have O:upd c3 t (.tup [sv (qw f k i),.int (hf:Nat),.int (ro:Nat),.ref a1,.ref b1]) t=some (.tup [sv (qw f k i),.int (hf:Nat),.int (ro:Nat),.ref a1,.ref b1]):=ae
 revert F O
 generalize upd c3 t (.tup [sv (qw f k i),.int (hf:Nat),.int (ro:Nat),.ref a1,.ref b1])=b4
 intro F O
 have a7:=s9.trans B
 have r:=a7.trans F
 have av:a1≠tl/\a1≠ly:=⟨(λe=>by rw[e,h1] at ce;cases ce),(λe=>by rw[e,h3] at ce;cases ce)⟩
 have a3:b1≠tl/\b1≠ly:=⟨(λe=>by rw[e,s9 _ _ h1] at cd;cases cd),(λe=>by rw[e,s9 _ _ h3] at cd;cases cd)⟩
 have bb:yC tl ly b4 (.ref t) g:=by
  rw[eg]
  exact⟨t,a1,b1,rfl,O,e9.same (B.trans F),M.same F,⟨av.1,a3.1⟩,av.2,a3.2⟩
 have h1:=r _ _ h1
 have h3:=r _ _ h3
 refine⟨tl,us,_,rfl,rfl,h1,by lia,?_⟩
 have W:ah H (upd b4 tl (.lst (us++[.ref t]))):=bK (a5.trans (x.trans r)) n1
 have k1:upd b4 tl (.lst (us++[.ref t])) tl=some (.lst (us++[.ref t])):=ae
 have k2:Paired (yC tl ly (upd b4 tl (.lst (us++[.ref t])))) (us++[.ref t]) (gs++[g]):=cI (bb.put h1 (.inl rfl)) (Paired.mapP h2 λ_ _ e=>(e.same r).put h1 (.inl rfl))
 have k3:upd b4 tl (.lst (us++[.ref t])) ly=some (.lst vs):=by rw[ak f1];exact h3
 have k4:Paired (Ly (upd b4 tl (.lst (us++[.ref t])))) vs (xc gs):=Paired.mapP h4 λ_ _ e=>(e.same r).put h1
 have a6:en≠tl:=λe=>by rw[e,s5 _ _ (y _ _ bi)] at dm;cases dm
 have ke:upd b4 tl (.lst (us++[.ref t])) en=some (.lst (as.map V.ref)):=by rw[ak a6];exact r _ _ l
 have kt:aX (upd b4 tl (.lst (us++[.ref t]))) as (ps.map t3):=cA (A.same r) λ_ _ e=>by rw[ak (cQ e h1 (λw=>nomatch w))];exact e
 revert W k1 k2 k3 k4 ke kt
 generalize upd b4 tl (.lst (us++[.ref t]))=fl
 intro W k1 k2 k3 k4 ke kt
 obtain⟨zs,rfl,rfl,bd⟩:=mC kt
 refine iX (eo (aa rfl) (.inl ⟨rfl,_,aF.of k3⟩) (aG ⟨_,rfl,en,rfl,⟨_,aF.of ke⟩,λD2 ea=>?_⟩))
 rw[LV] at ke
 refine jg (K:=K) (rest:=[some (.int (hf:Nat)),some (.int (ro:Nat))]) zs (λz=>V.ref z.1) (λH v z=>Ly H v (z.2,hf,ro)) (λ⟨t,a,e,x1,x2⟩ s e'=>⟨t,a,e,j8 x1 s e',j8 x2 s e'⟩) ke ea (by rw[LK] at S;lia) (λz ec H' s _ Qv qv=>eP (vs:=[.ref z.1,.int (hf:Nat),.int (ro:Nat)]) (af (aa rfl) (af (aa rfl) (af (aa rfl) ao))) (by show 3<=sizeLine;decide) λp np=>qv _ _ ((ah.refl H').upd np) ⟨p,z.1,rfl,ae,((ah.refl H').upd np) _ _ (s _ _ (bd z ec))⟩) λws H13 ca d1 hw=>?_
 have k3:=ca _ _ k3
 have lw:=Paired.length hw
 have hw:Paired (Ly H13) ws (zs.map λz=>((z.2,hf,ro):Lg)):=ub hw
 rw[LK] at S
 refine⟨ly,D2,_,_,rfl,rfl,k3,d1,by lia,hN (cs.length - (n+1+my)) _ _ (by lia) ⟨_,_,_,_,_,_,_,_,rfl,us++[.ref t],vs++ws,gs++[g],rfl,bK (W.trans ca) bt,?_,Paired.mapP k2 (λ_ _ e=>(e.same ca).put k3 (.inr rfl)),ae,?_,bl,?_⟩⟩
 ·rw[ak f1.symm];exact ca _ _ k1
 ·have el:xc (gs++[g])=xc gs++zs.map λz=>((z.2,hf,ro):Lg):=by
   unfold xc
   rw[qL,C,eg,LV];rfl
  rw[el]
  exact kD (Paired.mapP k4 λ_ _ e=>(e.same ca).put k3) (Paired.mapP hw λ_ _ e=>e.put k3)
 ·intro t ht
  rcases L_.mp ht with ht|ht
  ·exact tn t ht
  ·rw[LY.mp ht];exact a4
theorem GS (hf:g6 P w K mg base cFloor "Floor" 3 ["self", "sizes", "prices", "vias", "rocks", "tolls"] (lY cFloor))(gd:g6 P w K mg base cBoard "Board" 6 ["self", "floor", "things"] (mf cNet cBundle cFloor cBoard))(hX:aA P w K mg base "read_board" 8 ["page"] (Dj cNet cBundle cFloor cBoard))(hN:aA P w K mg base "thing_row" 3 ["thing"] (vH cNet cBundle))(fC:aA P w K mg base "written" 5 ["board"] (o_ cNet cBundle cFloor cBoard))(hW:aA P w K mg base "_law_cell_at" 1 ["script", "k"] (CA K))(g5:aA P w K mg base "_law_marked" 3 ["cells", "sizes"] xC)(f6:aA P w K mg base "_law_things" 3 ["cells", "sizes", "rocks", "place"] pq)(ge:aA P w K mg base "_law_row" 2 ["thing"] BQ)(hz:aA P w K mg base "_law_made" 5 ["thing"] (xj cNet cBundle))(f4:aA P w K mg base "_law_same" 5 ["found", "due"] (gH 5))(g7:aA P w K mg base "_law_board_good" 7 ["board", "sizes", "prices", "vias", "rocks", "tolls", "things"] (xu cNet cBundle cFloor cBoard)):eO P w K mg base 9 "law" IZ ["script"] (xP K):=by
 refine rd ["script", "head", "sizes", "prices", "vias", "layer", "rocks", "tolls", "rows", "stones", "spot", "things", "page", "handed", "floor", "made", "k", "board"] λnd _ _ _ _ _ H vs Q E hr h=>?_
 obtain⟨a,eH,rfl,ha,e3,q⟩:=h
 refine G0 14 Le ?_ λt2 d2 r2=>?_
 ·refine⟨_,(ai (bc 13 nd gx) (ai (dH (aD (mK rfl (by rfl) T.list_ (by rfl) T.reversed_ (br (eQ rfl) T.sorted_ (az (aj 7))))) (aT 10 nd) (aE (i6 (bL.one hr) (aj 13) (aj 10) (gV (bL.one hr) (aj 7) (aj 10) (λ_ _=>rfl)) (by rfl)))) (ai (aO (dh PySem.F.plainAttrs_dict PySem.F.slot_dict_setdefault PySem.F.type_dict_setdefault (zD hr) (aj 13) (aC (bZ (aw ag (aC ag ag))) ag))) (ai (bc 14 nd (xT hf (hr.mono (by decide)) (by rfl) (aw (aj 2) (aw (cK bz T.list_ (az (aj 3))) (aw (cK bz T.list_ (az (aj 4))) (aC (au dk (mK rfl (by rfl) T.list_ (by rfl) T.reversed_ (aj 6)) (cD cW (aj 6) eB (bT ag))) (aj 13))))))) (ai (m9 15 ["thing"] [] [] nd (aD (aj 11)) (cv 0) bj (aH (by exact hz) (by exact hr) (az (aj 0)))) (ai (dH (qT T.range_ (az (br aU T.len_ (az (aj 11))))) (aT 16 nd) (aE (bM (cg (cx (aH f4 hr (aC (aH hN hr (az (aR aV (aj 15) (aj 16)))) (aH ge hr (az (aR aV (aj 11) (aj 16)))))))) (ay c_)))) (ai (bM (cg (cx (aH f4 hr (aC (aH fC hr (az (xT gd (hr.mono (by decide)) (by rfl) (aC (aj 14) (aj 15))))) (aj 12))))) (ay c_)) (aN (bc 17 nd (aH hX hr (az (aj 12)))) (ay (gJ (aH g7 hr (aw (aj 17) (aw (aj 2) (aw (aj 3) (aw (aj 4) (aw (aj 6) (aC (aj 7) (aj 11)))))))) (h9 (aH f4 hr (aC (aH fC hr (az (aj 17))) (aj 12)))))))))))))),?_⟩
  have ex:sizeLine=2^24:=rfl
  rintro σ H ⟨x0,x1,x5,x8,x9,J,sa,pr,vi,ra,td,th,z,ps,ns,A,B,F,y,us,gs,hs,hp,hv,hr,ht,N,an,m,p⟩
  have lm:=m.l
  have sz:=p.sz
  have dm:=p.gk.few
  have lu:us.length=gs.length:=Paired.length an
  have nd:=dq m.t1
  generalize hP:DN (.floor z::jb ps ns A B gs)=pg
  refine bJ λhd hu=>?_
  have s1:ah H (upd H hd (.dT [])):=(ah.refl H).upd hu
  have a5:upd H hd (.dT []) hd=some (.dT (eG [])):=ae
  revert s1 a5
  generalize upd H hd (.dT [])=H1
  intro s1 a5
  dsimp only
  refine fF (σ':=wS x0 x1 sa pr vi x5 ra td x8 x9 J th pg (rr hd) none none none none) (by kernel_rfl) ?_
  refine kE (λσ H'=>∃J:Option V,σ=wS x0 x1 sa pr vi x5 ra td x8 x9 J th pg (rr hd) none none none none/\ah H H'/\H' hd=some (.dT (eG y.reverse))) (λR hR=>?_) ?_
  ·refine⟨_,rfl,td,eG y,(y.map (·.1)).map t3,rfl,s1 _ _ ht,ma y,rB _,by rw[LK,LK];lia,gv m.t1,λsl bs ds hI ad n3 ho=>?_⟩
   obtain⟨ss,rfl,ef⟩:=mM n3 ho
   obtain rfl:=jk ef (gw m.t1)
   refine⟨sl,_,rfl,aF.of ae,λrl l7=>⟨rl,rfl,⟨_,aF.of ae⟩,?_⟩⟩
   have s2:ah H1 (upd (upd H1 sl (.lst (bs.map V.ref))) rl (.lst (bs.map V.ref).reverse)):=((ah.refl H1).upd hI).upd l7
   have e2:upd (upd H1 sl (.lst (bs.map V.ref))) rl (.lst (bs.map V.ref).reverse) rl=some (.lst (bs.reverse.map V.ref)):=by rw[ae,NL]
   have ad:=tS (aX.same ad s2)
   revert s2 e2 ad
   generalize upd (upd H1 sl (.lst (bs.map V.ref))) rl (.lst (bs.map V.ref).reverse)=H2
   intro s2 e2 ad
   rw[<-NL,<-NL] at ad
   have lb:bs.reverse.length=y.reverse.length:=by rw[Paired.length ad,LK,LK]
   have d9:=s1.trans s2
   refine bN (K:=K) (xs:=bs.reverse.map V.ref) (λi σ H'=>∃J:Option V,σ=wS x0 x1 sa pr vi x5 ra td x8 x9 J th pg (rr hd) none none none none/\Sb hd H2 H'/\H' hd=some (.dT (eG (y.reverse.take i)))) ⟨_,rfl,Sb.refl hd H2,s2 _ _ a5⟩ (λi σ H' _ ⟨_,_,sb,_⟩=>aF.of (sb _ _ (cQ e2 (s2 _ _ a5) (λw=>nomatch w)) e2)) ?_ ?_
   ·rintro i v σ H3 hi ⟨M,rfl,sb,G⟩
    obtain⟨b,hb,rfl⟩:=dR hi
    obtain⟨c,hc,bt⟩:=fj ad hb
    rw[LV] at hc
    obtain⟨s,bl,rfl⟩:=fT hc
    have ii:=bO bl
    rw[NR] at ii
    have bt:A3 H2 b s.1:=bt
    have sm:=MR.mp (L9 bl)
    have d7:A3 H3 b s.1:=sb _ _ (cQ bt (s2 _ _ a5) (λw=>nomatch w)) bt
    have ej:td≠hd:=ax ht hu
    have eR:=sb _ _ ej (d9 _ _ ht)
    have dT:=rM eR d7
    rw[pQ nd (p:=s.1) (v:=s.2) sm] at dT
    refine gn ?_
    refine qG (iZ (aa rfl) (aa rfl) dT) (aa rfl) (aa rfl) (lx.t G (j5 d7) (by unfold eG;rw[LK,Mg,NR];lia)) ⟨_,rfl,sb.set,?_⟩
    rw[ae,bh bl]
    have pn:=jO (m:=s.2) [s.1] (y.reverse.take i) (by simp) λp hp hm=>by
     rw[LY.mp hp] at hm
     rw[M_] at hm
     refine xg (l:=y.reverse.map (·.1)) (i:=i) (a:=s.1) (by rw[NL];exact mq nd) (by rw[L7,bl];rfl) hm
    exact congrArg (λx=>some (HO.dT x)) pn
   ·rintro σ H3 ⟨M,rfl,sb,G⟩
    rw[LK,lb,Mc] at G
    exact hR _ _ ⟨_,rfl,((Sb.of d9).trans sb).same hu,G⟩
  rintro σ H2 ⟨M,rfl,s2,db⟩
  have d4:eG y.reverse=j7 (y.reverse.map λp=>(p.1,e_ p.2)):=Fk λp hp=>m.i p (MR.mp hp)
  refine kE (λσ H'=>σ=wS x0 x1 sa pr vi x5 ra td x8 x9 M th pg (rr hd) none none none none/\ah H H'/\H' hd=some (.dT (j7 (nU y)))) (λR hR=>?_) ?_
  ·refine iX (eo (aa rfl) (.inr (.inr (.inl ⟨rfl,.inr ⟨_,db⟩⟩))) (aG (eP (vs:=(t3 (0,0,0)).map V.int) (af ar (af ar (af ar ao))) (by show 3<=sizeLine;decide) λt nt=>a_ ar ?_)))
   have s3:=(ah.refl H2).upd (o:=.tup ((t3 (0,0,0)).map V.int)) nt
   have G:=s3 _ _ db
   have ky:(bX (eG y.reverse) (iK (t3 (0,0,0)))).isSome=decide ((0,0,0)∈y.map (·.1)):=by
    rw[zL,Nv,fD,decide_eq_true_iff,NL,MR]
   refine⟨hd,t,eG y.reverse,iK (t3 (0,0,0)),.int 0,rfl,rfl,G,j5 ae,by unfold eG;rw[LK,NR];lia,λv ev=>hR _ _ ⟨rfl,s2.trans s3,?_⟩,λev=>hR _ _ ⟨rfl,bK (s2.trans s3) hu,?_⟩⟩
   ·rw[ev] at ky
    have:(0,0,0)∈y.map (·.1):=of_decide_eq_true ky.symm
    unfold nU zU
    rw[if_pos this,MV,Mb,<-d4];exact G
   ·rw[ev] at ky
    have:¬(0,0,0)∈y.map (·.1):=of_decide_eq_false ky.symm
    unfold nU zU
    rw[ae,if_neg this,nJ _ ev,d4]
    unfold j7
    rw[LQ];rfl
  rintro σ H3 ⟨rfl,s3,G⟩
  have Z:lH H3 pr ps:=hp.up (λ_ e=>s3 _ _ e) λ_ _ e=>s3 _ _ e
  have t_:=s3 _ _ hv
  have dP:=K1 m p
  have eq:=KA (ps:=ps) (ns:=ns) m sz
  refine fY λR hR=>gD (a_ (aa rfl) ?_)
  obtain⟨as,bd,b8⟩:=id Z
  refine Cv (K:=K) rfl bd λl1 H4 s4 _ kw=>Cv (K:=K) rfl (s4 _ _ t_) λl2 H5 s5 _ ix=>?_
  obtain⟨bs,am,ab⟩:=id (hr.same s3)
  have c7:=s4.trans s5
  have lb:bs.length=F.length:=by rw[Paired.length ab,LK]
  refine aG (dW ⟨_,rfl,ra,_,rfl,aF.of (c7 _ _ am),λl3 l9=>?_⟩)
  have s6:=(ah.refl H5).upd (o:=.lst (bs.map V.ref).reverse) l9
  have e6:upd H5 l3 (.lst (bs.map V.ref).reverse) l3=some (.lst (bs.map V.ref).reverse):=ae
  revert s6 e6
  generalize upd H5 l3 (.lst (bs.map V.ref).reverse)=H6
  intro s6 e6
  refine vK (K:=K) (aa rfl) ar (aF.of ((c7.trans s6) _ _ am)) λl4 nA=>?_
  rw[Ec]
  have s7:=(ah.refl H6).upd (o:=.lst ((bs.take 1).map V.ref)) nA
  have e7:upd H6 l4 (.lst ((bs.take 1).map V.ref)) l4=some (.lst ((bs.take 1).map V.ref)):=ae
  revert s7 e7
  generalize upd H6 l4 (.lst ((bs.take 1).map V.ref))=H7
  intro s7 e7
  refine⟨l3,l4,_,_,rfl,rfl,s7 _ _ e6,e7,by rw[NR,LK,LK,Mg];lia,λl5 nu=>?_⟩
  have s8:=(ah.refl H7).upd (o:=.lst ((bs.map V.ref).reverse++(bs.take 1).map V.ref)) nu
  have e8:upd H7 l5 (.lst ((bs.map V.ref).reverse++(bs.take 1).map V.ref)) l5=some (.lst ((bs.reverse++bs.take 1).map V.ref)):=by rw[ae,LQ,NL]
  revert s8 e8
  generalize upd H7 l5 (.lst ((bs.map V.ref).reverse++(bs.take 1).map V.ref))=H8
  intro s8 e8
  have ci:=s6.trans (s7.trans s8)
  have cB:=s5.trans ci
  have c5:=s4.trans cB
  refine a_ (aa rfl) ?_
  intro fp hE kp i7 rf
  have sm:ah H8 (upd (upd H8 hE (.own fp)) fp (.ins cFloor hE [])):=eN kp i7
  have a6:=c5.trans sm
  have dL:=cB.trans sm
  refine⟨fp,hE,sa,l1,l2,l5,hd,Ij z ps ns F y,F.reverse++F.take 1,rfl,ae,dP,by rw[LP,NR,Mg];lia,λc hc=>?_,Hy (dq m.r1),(s3.trans a6) _ _ hs,⟨as,dL _ _ kw,Paired.mapP b8 λ_ _ e=>a6 _ _ e⟩,(ci.trans sm) _ _ ix,⟨_,sm _ _ e8,?_⟩,a6 _ _ G,λH9 b9 hF=>⟨rfl,hR _ _ ?_⟩⟩
  ·rcases L_.mp hc with hc|hc
   ·exact m.r2 c (MR.mp hc)
   ·exact m.r2 c (List.mem_of_mem_take hc)
  ·rw[LQ,NL,M_]
   exact dX (tS (aX.same ab a6)) (iT (aX.same ab a6) 1)
  have bv:ah H H9:=(s3.trans c5).trans (bU.same sm kp b9)
  clear hR R dL a6 sm c5 cB ci s8 e8 s7 e7 s6 e6 c7 s4 s5 bd b8 Z t_ am ab kw ix G s3 s2 db s1 a5
  refine fF (σ':=wS x0 x1 sa pr vi x5 ra td x8 x9 M th pg (rr hd) (rr fp) none none none) (by kernel_rfl) ?_
  refine jt λR hR=>⟨_,rfl,th,rfl,⟨_,aF.of (bv _ _ N)⟩,λD nD=>?_⟩
  refine DU (K:=K) (R0:=zH H9) (λH v g=>∃q,v=.ref q/\lD cNet cBundle H q g) (λ⟨q,e,t⟩ sb ⟨xs,eD⟩=>⟨q,e,t.up (λb ys h=>sb _ _ (cQ h eD (λw=>nomatch w)) h) λC dx fs _ h=>sb _ _ (cQ h eD (λw=>nomatch w)) h⟩) (bv _ _ N) (Paired.mapP an λ_ _ e=>e.same bv) nD (by lia) (λu g H' hg dn s Qv qv=>aP (af (aa rfl) ao) ⟨u,g,rfl,dn.same s,p.gt g hg,λq H2 s2 nq hq=>qv _ H2 s2 ⟨q,rfl,hq⟩⟩) λvs HA sA hD mb=>hR _ _ ?_
  clear hR R
  obtain⟨qs,rfl,dc⟩:=G7 mb
  have cN:=bv.trans sA
  have ek:=hF.same sA
  refine fF (σ':=wS x0 x1 sa pr vi x5 ra td x8 x9 M th pg (rr hd) (rr fp) (rr D) none none) (by kernel_rfl) ?_
  have co:=cN _ _ N
  have lq:qs.length=gs.length:=Paired.length dc
  refine kE (λσ H'=>∃a2:Option V,σ=wS x0 x1 sa pr vi x5 ra td x8 x9 M th pg (rr hd) (rr fp) (rr D) a2 none/\ah HA H') (λR hR=>?_) ?_
  ·refine lX (j:=((us.length:Nat):Int)) (af (dJ (K:=K) (aa rfl) co) ao) (by lia) (by lia) ?_
   rw[MH]
   refine dC (n:=us.length) (λi σ H'=>∃a2:Option V,σ=wS x0 x1 sa pr vi x5 ra td x8 x9 M th pg (rr hd) (rr fp) (rr D) a2 none/\ah HA H') ⟨_,rfl,ah.refl HA⟩ ?_ λσ H' h=>hR _ _ h
   rintro i σ H' hi ⟨a2,rfl,s⟩
   refine gn ?_
   refine fF (σ':=wS x0 x1 sa pr vi x5 ra td x8 x9 M th pg (rr hd) (rr fp) (rr D) (some (.int (i:Nat))) none) (by rw[show(0:Int)+(i:Nat)=(i:Nat) by lia];rfl) ?_
   obtain⟨u,iv⟩:∃u,us[i]?=some u:=⟨_,Mi hi⟩
   obtain⟨t,dt,ee⟩:=ba an iv
   obtain⟨qa,i1⟩:∃q,qs[i]?=some q:=⟨_,Mi (by lia)⟩
   obtain⟨t',dK,ec⟩:=ba dc i1
   rw[dt] at dK
   cases dK
   have tk:=p.gt t (L9 dt)
   exact ox (jh (aG (aP (af (cM (aa rfl) (aa rfl) (aF.of (s _ _ hD)) (bS (by rw[L7,i1];rfl))) ao) ⟨qa,t,rfl,ec.same s,tk,λHB sB=>aG (aP (af (cM (aa rfl) (aa rfl) (aF.of ((s.trans sB) _ _ co)) (bS iv)) ao) ⟨u,t,rfl,ee.same (cN.trans (s.trans sB)),tk,λHC sC=>⟨_,_,rfl,.inr (.inl ⟨_,rfl,rfl⟩),λHD' sD=>⟨true,rfl,eF ⟨_,rfl,s.trans (sB.trans (sC.trans sD))⟩⟩⟩⟩)⟩)))
  rintro σ HB ⟨a2,rfl,sB⟩
  have eg:=cN.trans sB
  have W0:pg=DN (wr (Ij z ps ns F y) F y gs):=by rw[<-hP];exact congrArg DN (GO (g:=Ij z ps ns F y) m).symm
  have W1:pg=DN (wr (Gm z ps ns F y) F y gs):=by rw[<-hP];exact congrArg DN (GO (g:=Gm z ps ns F y) m).symm
  have dp:(cm (mj F)).length+(cm y).length<=200:=by rw[m.rr,m.rt,LK,LK];lia
  refine gq (b:=false) (λH1 s1 Q q=>?_) (λe=>nomatch e) λ_ HC sC=>?_
  ·refine jh (aG (bI (aG (gD (a_ (aa rfl) (a_ (aa rfl) ?_))))))
   intro bp hK hS i3 q6
   have sm:ah H1 (upd (upd H1 hK (.own bp)) bp (.ins cBoard hK [])):=eN hS i3
   have ch:=(sB.trans s1).trans sm
   refine⟨bp,hK,fp,D,qs,gs,Ij z ps ns F y,rfl,ae,ek.same ch,sz,ch _ _ hD,Paired.mapP dc (λ_ _ e=>e.same ch),p.gk.rev,λH2 b2 gg=>⟨rfl,?_⟩⟩
   refine⟨bp,Ij z ps ns F y,gs,F,y,rfl,gg,dP,eq,p.gt,dm,dp,λH3 s3=>a_ (aa rfl) ?_⟩
   rw[<-W0]
   exact⟨_,_,rfl,.inr (.inl ⟨_,rfl,rfl⟩),λH4 s4=>⟨true,rfl,q H4 ((bU.same sm hS b2).trans (s3.trans s4))⟩⟩
  have ep:=eg.trans sC
  have c0:∀r∈(Rw.floor z::jb ps ns A B gs:List Rw),gR r:=λr hr=>by
   rcases LS.mp hr with rfl|hr
   ·exact sz
   ·exact(wq p m hr).1
  have er:(Rw.floor z::jb ps ns A B gs:List Rw).length<=300:=by
   unfold jb
   simp only[L5,LP,LK]
   have:=p.pl
   have:=p.nl
   have:=sz.1
   lia
  refine bJ (aP (af (aa rfl) ao) ⟨ss pg,z,jb ps ns A B gs,rfl,by rw[<-hP];exact JP c0 (by simp) er,Jo p m,Js,λr hr g hg=>?_,by rw[AD m,C4 p.gt];exact p.gk,λbp HD sD hS gg=>?_⟩)
  ·have:g∈(jb ps ns A B gs).filterMap uw:=MF.mpr ⟨r,hr,hg⟩
   rw[C4 p.gt] at this
   exact p.gt g this
  rw[AD m,C4 p.gt] at gg
  have U:=ep.trans sD
  have d6:=KD m p
  have ea:=KU (ps:=ps) (ns:=ns) m
  refine fF (σ':=wS x0 x1 sa pr vi x5 ra td x8 x9 M th pg (rr hd) (rr fp) (rr D) a2 (rr bp)) (by kernel_rfl) ?_
  refine bR (bI (a_ (aa rfl) (a_ (aa rfl) (a_ (aa rfl) (a_ (aa rfl) (a_ (aa rfl) (a_ (aa rfl) (a_ (aa rfl) ⟨bp,sa,pr,vi,ra,td,th,Gm z ps ns F y,gs,F,y,us,rfl,gg,d6,ea,U _ _ hs,hp.up (λ_ e=>U _ _ e) (λ_ _ e=>U _ _ e),U _ _ hv,hr.same U,U _ _ ht,U _ _ N,Paired.mapP an (λ_ _ e=>e.same U),p.gt,dm,λHE sE=>⟨true,rfl,?_⟩⟩))))))))
  refine bI (aG (aP (af (aa rfl) ao) ⟨bp,Gm z ps ns F y,gs,F,y,rfl,?_,d6,ea,p.gt,dm,dp,λHF sF=>a_ (aa rfl) ?_⟩))
  ·obtain⟨dx,fl,d,f,ey,b1,b2,b3,b4,b5,b6,b7⟩:=gg
   exact⟨dx,fl,d,f,ey,sE _ _ b1,b2,b3,b4,sE _ _ b5,Paired.mapP b6 λ_ _ e=>e.same sE,b7.same sE⟩
  ·rw[<-W1]
   exact⟨_,_,rfl,.inr (.inl ⟨_,rfl,rfl⟩),λH4 _=>q H4⟩
 ·refine⟨_,(ai (m9 1 ["k"] ["script"] [0] nd (qT T.range_ (az ag)) (cv 0) bj (aH (by exact hW) (by exact hr) (aC (aj 1) (aj 0)))) (ai (bc 2 nd (bZ (aw (au aS ag (au cf (aR aV (aj 1) ag) ag)) (aC (au aS ag (au cf (aR aV (aj 1) ag) ag)) (au aS ag (au cf (aR aV (aj 1) ag) ag)))))) (ai (bc 3 nd (bg dj)) (ai (bc 4 nd (bg dj)) (ai (dH (qT T.range_ (az (aR aI (aj 2) ag))) (aT 5 nd) (aE (aO (dh Mm Nk Nl dD (aj 3) (az (bZ (aC (au aS ag (au cf (aR aV (aj 1) (au aS ag (aj 5))) (au pN ag ag))) (au aS ag (au cf (au gW (aR aV (aj 1) (au aS ag (aj 5))) ag) (au pN ag ag)))))))))) (ai (dH (qT T.range_ (az (au dO (aR aI (aj 2) ag) ag))) (aT 5 nd) (aE (aO (dh Mm Nk Nl dD (aj 4) (az (au aS ag (au cf (au gW (aR aV (aj 1) (au aS ag (aj 5))) ag) (au pN ag ag)))))))) (ai (eY (aH g5 hr (aC (Ak rfl (aj 0) (bT ag) ag) (aj 2))) (cV rfl (aq (aT 6 nd) (aq (aT 7 nd) (aq (aT 8 nd) bq))))) (ai (bc 9 nd gx) (ai (dH (aD (aj 6)) (aT 10 nd) (aE (i6 (bL.one hr) (aj 9) (aj 10) c_ (by rfl)))) (ai (bc 11 nd (aH f6 hr (aw (Ak rfl (aj 0) (bT ag) ag) (aw (aj 2) (aC (aj 9) (au cf (au dz (aR aV (aj 1) ag) ag) ag)))))) (ai (bc 12 nd (bg (az (au bE aL (iw (K:=K) rfl rfl (az (eI ["size"] [] [] (A9 (aj 2)) (cv 0) bj (cK bf (by exact T.str_) (az (aj 0)))))))))) (ai (bc 12 nd (au dk (aj 12) (eI ["ahead", "across"] [] [] (aD (aj 3)) (fG (K:=K) (n:=2) rfl rfl (aq (cv 0) (aq (cv 1) bq)) rfl rfl) bj (au bE (au bE (au bE aL (cK bf (by exact T.str_) (az (aj 0)))) aL) (cK bf (by exact T.str_) (az (aj 1))))))) (ai (bc 12 nd (au dk (aj 12) (eI ["price"] [] [] (aD (aj 4)) (cv 0) bj (au bE aL (cK bf (by exact T.str_) (az (aj 0))))))) (ai (bc 12 nd (iw (K:=K) rfl rfl (az (au dk (au dk (aj 12) (aj 8)) (eI ["thing"] [] [] (aD (aj 11)) (cv 0) bj (aH (by exact ge) (by exact hr) (az (aj 0)))))))) d2)))))))))))))),?_⟩
  have ex:sizeLine=2^24:=rfl
  refine⟨7,rfl,by decide,by decide,λhl ks=>?_⟩
  refine ml (λi τ H'=>∃(x0:Option V) (bs:List Int),τ=[x0,some (.ref a)]/\ah H H'/\H' hl=some (.lst (bs.map V.int))/\bs.length=i) ⟨none,[],rfl,(ah.refl H).upd ks,ae,rfl⟩ ?_ ?_
  ·rintro i τ H1 hi ⟨x0,bs,rfl,s1,h1,l1⟩
   have hi:i<7:=hi
   exact gn (dQ (aP (af (aa rfl) (af (aa rfl) ao)) ⟨a,eH,_,rfl,s1.seq ha,by lia,λv=>⟨_,h1,by rw[LK];lia,_,bs++[v],rfl,bK s1 ks,by rw[ae,LQ];rfl,by rw[LP,l1];rfl⟩⟩))
  rintro τ H1 ⟨x0,bs,rfl,s1,h1,l1⟩
  have l1:bs.length=7:=l1
  have hx:∀i:Nat,i<7->∃v:Int,jq (bs.map V.int) (i:Int)=some (.int v):=λi hi=>⟨bs[i]'(by lia),bS (by rw[L7,Mi (by lia)];rfl)⟩
  have cc:∀{σ:St} {H':Hp} {i:Int} {v:Int},σ[1]?=some (some (.ref hl))->ah H1 H'->jq (bs.map V.int) i=some (.int v)->Ev (fv (ow K) (cR 1) (tC (.int i))) σ H' (.int v):=λhv s e=>cM (aa hv) ar (aF.of (s _ _ h1)) e
  obtain⟨v0,e0⟩:=hx 0 (by decide)
  obtain⟨v1,e1⟩:=hx 1 (by decide)
  obtain⟨v2,e2⟩:=hx 2 (by decide)
  dsimp only
  refine fF (σ':=[_,_,_,_,_,_,_,_,_,_,_,_,_,_,_,_,_,_]) rfl ?_
  have m0:=Na v0 (show(4:Int)≠0 by decide)
  have e5:=Nb v0 (show(0:Int)<4 by decide)
  have m1:=Na v1 (show(16:Int)≠0 by decide)
  have e9:=Nb v1 (show(0:Int)<16 by decide)
  have m2:=Na v2 (show(16:Int)≠0 by decide)
  have e4:=Nb v2 (show(0:Int)<16 by decide)
  obtain⟨z,ez⟩:∃z:P3,z=((1+v0%4).toNat,(1+v1%16).toNat,(1+v2%16).toNat):=⟨_,rfl⟩
  have z0:((z.1:Nat):Int)=1+v0%4:=by rw[ez];show(((1+v0%4).toNat:Nat):Int)=_;lia
  have z1:((z.2.1:Nat):Int)=1+v1%16:=by rw[ez];show(((1+v1%16).toNat:Nat):Int)=_;lia
  have z2:((z.2.2:Nat):Int)=1+v2%16:=by rw[ez];show(((1+v2%16).toNat:Nat):Int)=_;lia
  have sz:Sz z:=⟨⟨by lia,by lia⟩,⟨by lia,by lia⟩,by lia,by lia⟩
  clear ez
  have a7:=ah.refl H1
  refine vD (vs:=(t3 z).map V.int) (af (aY (aQ (g:=λi j=>V.int (i+j)) ar (cz (cc rfl a7 e0) ar (by decide))) (congrArg V.int z0.symm)) (af (aY (aQ (g:=λi j=>V.int (i+j)) ar (cz (cc rfl a7 e1) ar (by decide))) (congrArg V.int z1.symm)) (af (aY (aQ (g:=λi j=>V.int (i+j)) ar (cz (cc rfl a7 e2) ar (by decide))) (congrArg V.int z2.symm)) ao))) (by show 3<=sizeLine;decide) λsa n7=>?_
  have s2:=(ah.refl H1).upd (o:=.tup ((t3 z).map V.int)) n7
  have a4:A3 (upd H1 sa (.tup ((t3 z).map V.int))) sa z:=ae
  revert s2 a4
  generalize upd H1 sa (.tup ((t3 z).map V.int))=H2
  intro s2 a4
  refine gj (vs:=[]) ao (by show 0<=sizeLine;decide) λpr k2=>?_
  refine gj (vs:=[]) ao (by show 0<=sizeLine;decide) λvi gm=>?_
  have f1:vi≠pr:=λe=>by rw[e,ae] at gm;cases gm
  have ed:H2 vi=none:=by rw[ak f1] at gm;exact gm
  have s3:ah H2 (upd (upd H2 pr (.lst [])) vi (.lst [])):=((ah.refl H2).upd k2).upd gm
  have Z:upd (upd H2 pr (.lst [])) vi (.lst []) pr=some (.lst []):=by rw[ak f1.symm,ae]
  have t_:upd (upd H2 pr (.lst [])) vi (.lst []) vi=some (.lst []):=ae
  revert s3 Z t_
  generalize upd (upd H2 pr (.lst [])) vi (.lst [])=H3
  intro s3 Z t_
  refine fF (σ':=[_,_,_,_,_,_,_,_,_,_,_,_,_,_,_,_,_,_]) rfl ?_
  have cF:∀x:Int,∃n:Nat,1+x%10^12=((n:Nat):Int)/\Pr n:=λx=>by
   have a0:=Na x (show((10:Int)^12)≠0 by decide)
   have a1:=Nb x (show(0:Int)<10^12 by decide)
   exact⟨(1+x%10^12).toNat,by lia,by unfold Pr;lia⟩
  refine kE (λσ H'=>∃(x5:Option V) (ps:List (Nat×Nat)),σ=[rr a,rr hl,rr sa,rr pr,rr vi,x5,none,none,none,none,none,none,none,none,none,none,none,none]/\ah H2 H'/\lH H' pr ps/\H' vi=some (.lst [])/\ps.length=z.1/\∀p∈ps,Pr p.1/\Pr p.2) (λR hR=>?_) ?_
  ·refine lX (j:=((z.1:Nat):Int)) (af (fP rfl (s3 _ _ a4) rfl) ao) (by lia) (by lia) ?_
   rw[MH]
   refine dC (n:=z.1) (λi σ H'=>∃(x5:Option V) (as:List Addr) (ps:List (Nat×Nat)),σ=[rr a,rr hl,rr sa,rr pr,rr vi,x5,none,none,none,none,none,none,none,none,none,none,none,none]/\ah H2 H'/\H' pr=some (.lst (as.map V.ref))/\Paired (P2 H') as ps/\H' vi=some (.lst [])/\ps.length=i/\∀p∈ps,Pr p.1/\Pr p.2) ⟨_,[],[],rfl,s3,Z,.nil,t_,rfl,λ_ h=>nomatch h⟩ ?_ ?_
   ·rintro i σ H4 hi ⟨x5,as,ps,rfl,s4,I,ca,W,ck,pp⟩
    refine gn ?_
    obtain⟨w,ew⟩:=hx (3+i) (by lia)
    obtain⟨n1,c3,p1⟩:=cF w
    obtain⟨n2,eu,p2⟩:=cF (w*104729)
    have eh:Ev (fv (ow K) (cR 1) (fv (r8 λi j=>V.int (i+j)) (tC (.int 3)) (cR 5))) [rr a,rr hl,rr sa,rr pr,rr vi,some (.int (0+(i:Nat))),none,none,none,none,none,none,none,none,none,none,none,none] H4 (.int w):=cM (aa rfl) (aY (aQ (g:=λi j=>V.int (i+j)) ar (aa rfl)) (by show V.int (3+(0+(i:Nat)))=V.int ((3+i:Nat):Int);congr 1;lia)) (aF.of ((s2.trans s4) _ _ h1)) ew
    have la:=Paired.length ca
    refine iX (eo (aa rfl) (.inl ⟨rfl,_,aF.of I⟩) (aG (eP (vs:=[.int (n1:Nat),.int (n2:Nat)]) (af (aY (aQ (g:=λi j=>V.int (i+j)) ar (cz eh (cz ar ar (Kk (by decide) (by decide) (by decide))) (by show(0:Int)<10^12;decide))) (congrArg V.int c3)) (af (aY (aQ (g:=λi j=>V.int (i+j)) ar (cz (cz eh ar (DV (by decide) (by decide))) (cz ar ar (Kk (by decide) (by decide) (by decide))) (by show(0:Int)<10^12;decide))) (congrArg V.int eu)) ao)) (by show 2<=sizeLine;decide) λt nt=>⟨pr,_,_,rfl,rfl,by rw[ak (ax I nt)];exact I,by rw[LK];lia,?_⟩)))
    have em:t≠pr:=L8 (ax I nt)
    refine⟨_,as++[t],ps++[(n1,n2)],rfl,bK (s4.upd nt) k2,by rw[ae,LQ];rfl,cI (R:=P2 _) ?_ (Paired.mapP ca λb c (e:H4 b=some (.tup _))=>fo I nt _ _ e),by rw[ak f1,ak (ax W nt)];exact W,by rw[LP,ck];rfl,λp hp=>?_⟩
    ·unfold P2;rw[ak em,ae]
    ·rcases L_.mp hp with hp|hp
     ·exact pp p hp
     ·rw[LY.mp hp];exact⟨p1,p2⟩
   ·rintro σ H4 ⟨x5,as,ps,rfl,s4,I,ca,W,ck,pp⟩
    exact hR _ _ ⟨_,ps,rfl,s4,⟨as,I,ca⟩,W,ck,pp⟩
  rintro σ H4 ⟨x5,ps,rfl,s4,I,W,en,pp⟩
  refine kE (λσ H'=>∃(x5:Option V) (ns:List Nat),σ=[rr a,rr hl,rr sa,rr pr,rr vi,x5,none,none,none,none,none,none,none,none,none,none,none,none]/\ah H2 H'/\lH H' pr ps/\H' vi=some (.lst (ni ns))/\ns.length+1=z.1/\∀n∈ns,Pr n) (λR hR=>?_) ?_
  ·refine lX (j:=((z.1 - 1:Nat):Int)) (af (aY (aQ (g:=λi j=>V.int (i - j)) (fP rfl (s4 _ _ a4) rfl) ar) (by show V.int (((z.1:Nat):Int) - 1)=_;congr 1;lia)) ao) (by lia) (by lia) ?_
   rw[MH]
   refine dC (n:=z.1 - 1) (λi σ H'=>∃(x5:Option V) (ns:List Nat),σ=[rr a,rr hl,rr sa,rr pr,rr vi,x5,none,none,none,none,none,none,none,none,none,none,none,none]/\ah H2 H'/\lH H' pr ps/\H' vi=some (.lst (ni ns))/\ns.length=i/\∀n∈ns,Pr n) ⟨_,[],rfl,s4,I,W,rfl,λ_ h=>nomatch h⟩ ?_ ?_
   ·rintro i σ H5 hi ⟨bA,ns,rfl,s5,av,S,du,np⟩
    refine gn ?_
    obtain⟨w,ew⟩:=hx (3+i) (by lia)
    obtain⟨n1,c3,p1⟩:=cF (w*48271)
    refine iX (eo (aa rfl) (.inl ⟨rfl,_,aF.of S⟩) (a_ (v:=.int (n1:Nat)) (aY (aQ (g:=λi j=>V.int (i+j)) ar (cz (cz (cM (v:=.int w) (aa rfl) (aY (aQ (g:=λi j=>V.int (i+j)) ar (aa rfl)) (by show V.int (3+(0+(i:Nat)))=V.int ((3+i:Nat):Int);congr 1;lia)) (aF.of ((s2.trans s5) _ _ h1)) ew) ar (DV (by decide) (by decide))) (cz ar ar (Kk (by decide) (by decide) (by decide))) (by show(0:Int)<10^12;decide))) (congrArg V.int c3)) ⟨vi,_,_,rfl,rfl,S,by rw[LK];lia,?_⟩))
    refine⟨_,ns++[n1],rfl,bK s5 ed,av.up (λxs e=>by rw[ak f1.symm];exact e) (λb xs e=>by rw[ak (cQ e S (λw=>nomatch w))];exact e),by rw[ae];unfold ni;rw[LQ];rfl,by rw[LP,du];rfl,λn hn=>?_⟩
    rcases L_.mp hn with hn|hn
    ·exact np n hn
    ·rw[LY.mp hn];exact p1
   ·rintro σ H5 ⟨bA,ns,rfl,s5,av,S,du,np⟩
    exact hR _ _ ⟨_,ns,rfl,s5,av,S,by have:=sz.1;lia,np⟩
  rintro σ H5 ⟨bA,ns,rfl,s5,av,S,et,np⟩
  have bb:=s2.trans s5
  have b0:A3 H5 sa z:=s5 _ _ a4
  have d3:=(s1.trans bb).seq ha
  refine E8 (bI (aG (Bm (K:=K) rfl (by decide) d3 λsl cs hI r6=>a_ (aa rfl) ?_)))
  have s6:=(ah.refl H5).upd (o:=.lst (cs.map V.int)) hI
  refine⟨sl,sa,cs,z,rfl,ae,s6 _ _ b0,sz,by lia,λt ra td rl H7 s7 ht gp hj he=>?_⟩
  have m:=KF sz (cs:=cs) (by lia)
  revert gp hj he m
  generalize (kX z cs).1=A
  generalize (kX z cs).2=B
  generalize A.flatMap bG=F
  generalize B.flatMap bu=y
  intro gp hj he m
  have d0:=s6.trans s7
  refine⟨t,_,rfl,bW.of ht,rfl,_,_,rfl,_,_,rfl,_,_,rfl,rfl,?_⟩
  refine fF (σ':=[_,_,_,_,_,_,_,_,_,_,_,_,_,_,_,_,_,_]) rfl ?_
  have lm:=m.l
  refine bJ λst jp=>?_
  have s8:ah H7 (upd H7 st (.dT [])):=(ah.refl H7).upd jp
  have bn:upd H7 st (.dT []) st=some (.dT []):=ae
  revert s8 bn
  generalize upd H7 st (.dT [])=H8
  intro s8 bn
  dsimp only
  refine fF (σ':=[_,_,_,_,_,_,_,_,_,_,_,_,_,_,_,_,_,_]) rfl ?_
  obtain⟨as,am,ab⟩:=id (gp.same s8)
  refine kE (λσ H'=>∃J:Option V,σ=[rr a,rr hl,rr sa,rr pr,rr vi,bA,rr ra,rr td,rr rl,rr st,J,none,none,none,none,none,none,none]/\ah H7 H'/\H' st=some (.dT (iH F))) (λR hR=>?_) ?_
  ·refine⟨_,rfl,ra,rfl,⟨_,aF.of am⟩,pT (K:=K) am ab bn (by show 0+F.length<=_;lia) (λ_=>rfl) (λ_=>rfl) (λ_ _=>ar) λfr H9 mu s9 O=>hR _ _ ?_⟩
   have pn:F.foldl (kj (V.bl true)) []=eG ([]++F.map λp=>(p,V.bl true)):=jO F [] (dq m.r1) λ_ _ h=>nomatch h
   rw[pn] at O
   have O:H9 st=some (.dT (iH F)):=by rw[O,<-DC];rfl
   have d5:ah H7 H9:=((Sb.of s8).trans s9).same jp
   rcases mu with rfl|⟨v,rfl⟩
   ·exact⟨_,rfl,d5,O⟩
   ·exact⟨_,rfl,d5,O⟩
  rintro σ H9 ⟨J,rfl,s9,O⟩
  have cd:=d0.trans s9
  have ap:=bb.trans cd
  refine bJ (bI (aG (Bm (K:=K) rfl (by decide) ((s1.trans ap).seq ha) λhy gl kk o3=>?_)))
  have ac:=(ah.refl H9).upd (o:=.lst (gl.map V.int)) kk
  have bD:upd H9 hy (.lst (gl.map V.int)) hy=some (.lst (gl.map V.int)):=ae
  revert ac bD
  generalize upd H9 hy (.lst (gl.map V.int))=rb
  intro ac bD
  obtain⟨pl,n9⟩:∃pl:Nat,v0/4%10=((pl:Nat):Int):=⟨(v0/4%10).toNat,by lia⟩
  refine a_ (aa rfl) (a_ (aa rfl) (a_ (v:=.int (pl:Nat)) (aY (cz (cz (cc rfl (ap.trans ac) e0) ar ⟨by decide,by decide⟩) ar (by decide)) (congrArg V.int n9)) ⟨hy,sa,st,gl,z,F,pl,rfl,bD,by lia,(cd.trans ac) _ _ b0,sz,ac _ _ O,by lia,λth us gs H11 a7 mI N an gk gt=>?_⟩))
  have ct:=ac.trans a7
  have be:=cd.trans ct
  have bm:=s9.trans ct
  refine fF (σ':=[_,_,_,_,_,_,_,_,_,_,_,_,_,_,_,_,_,_]) rfl ?_
  have c1:A3 H11 sa z:=be _ _ b0
  have eb:lH H11 pr ps:=av.up (λ_ e=>be _ _ e) λ_ _ e=>be _ _ e
  have c2:=be _ _ S
  have eC:=gp.same bm
  have eE:=bm _ _ hj
  have el:=bm _ _ he
  have p:IV z ps ns F gs:=⟨sz,en,pp,et,np,gk,gt⟩
  clear bm be ct a7 ac bD ap cd O s9 bn s8 am ab d0 ht s7 s6 d3 b0 bb s5 av S gp hj he s4 I W s3 Z t_ a4 s2
  have c0:∀r∈(Rw.floor z::jb ps ns A B gs:List Rw),gR r:=λr hr=>by
   rcases LS.mp hr with rfl|hr
   ·exact sz
   ·exact(wq p m hr).1
  have lz:=sz.1
  have lg:=gk.few
  have eA:∀q∈ps,q.1<10^14/\q.2<10^14:=λq hq=>by have:=pp q hq;unfold Pr at this;lia
  have ei:∀n∈ns,n<10^14:=λn hn=>by have:=np n hn;unfold Pr at this;lia
  refine fY λR hR=>lF (aG (mn (x:=rt (.floor z)) ?_ λH12 m5=>⟨by show 1<=sizeLine;decide,λl1 nf=>hR _ _ ?_⟩))
  ·rw[show rt (Rw.floor z)=cp (Str.ofString "floor ")++jl 32 ([z.1,z.2.1,z.2.2].map dg) by
    show jl 32 (cp (kS 0)::[z.1,z.2.1,z.2.2].map dg)=_
    rw[dG (by simp),show cp (Str.ofString "floor ")=cp (kS 0)++[32] by decide+kernel,Mn];rfl]
   have dV:∀n∈[z.1,z.2.1,z.2.2],n<10^14:=λn hn=>by
    simp only[LS,Md,or_false] at hn
    unfold Sz at sz
    lia
   have dl:∀w∈[z.1,z.2.1,z.2.2].map dg,w.length<=14:=λw hw=>by
    obtain⟨n,hn,rfl⟩:=LN.mp hw
    exact cj (k:=14) (by decide) (dV n hn)
   refine gO (kr rfl) (λH1' ka Q q=>eo ar rfl (aG ⟨_,rfl,sa,rfl,⟨_,bW.of (ka _ _ c1)⟩,λD nD=>xi (K:=K) (rest:=[]) [z.1,z.2.1,z.2.2] dV (by show 3<=1000;decide) (.inr ⟨rfl,ka _ _ c1⟩) nD λH' s hD=>jJ xA hD (λw hw=>LR (dl w hw) (by decide)) (by show 3<=1000;decide) (q H' s)⟩)) ?_
   rw[show(cp (Str.ofString "floor ")).length=6 by decide+kernel]
   have:=IF (c:=32) (k:=14) dl
   have:([z.1,z.2.1,z.2.2].map dg).length=3:=rfl
   lia
  clear hR R
  have a3:=m5.upd (o:=.lst [sv (rt (.floor z))]) nf
  have ce:WL (upd H12 l1 (.lst [sv (rt (.floor z))])) l1 [rt (.floor z)]:=ae
  revert a3 ce
  show ah H11 (upd H12 l1 (.lst [sv (rt (.floor z))]))->_->eU _ _ _ _ (upd H12 l1 (.lst [sv (rt (.floor z))]))
  generalize upd H12 l1 (.lst [sv (rt (.floor z))])=kt
  intro a3 ce
  refine fF (σ':=[_,_,_,_,_,_,_,_,_,_,_,_,_,_,_,_,_,_]) rfl ?_
  obtain⟨as,bd,b8⟩:=id eb
  refine fY λR hR=>dW (cZ (aa rfl) ⟨_,rfl,pr,rfl,⟨_,aF.of (a3 _ _ bd)⟩,λD nD=>?_⟩)
  refine eT (K:=K) (R:=λu p=>∃a,u=.ref a/\P2 kt a p) (λp=>rt (DS p)) (λτ=>∃x0 x1:Option V,τ=[x0,x1]) ⟨none,none,rfl⟩ (a3 _ _ bd) (gX (R:=λu p=>∃a,u=.ref a/\P2 kt a p) (Paired.mapP b8 λb _ e=>⟨b,rfl,a3 _ _ e⟩)) nD (by lia) ?_ λH14 ir hD=>gT (ir _ _ ce) hD (by rw[LK];show 1+ps.length<=1000;lia) λl2 H15 bb no=>hR _ _ ?_
  ·rintro u q τ H' hq ⟨b,rfl,hb⟩ s ⟨y0,y1,rfl⟩ X Y qv
   obtain⟨q1,q2⟩:=eA q hq
   have d1:=cj (k:=14) (n:=q.1) (by decide) q1
   have d2:=cj (k:=14) (n:=q.2) (by decide) q2
   refine⟨b,_,rfl,bW.of (s _ _ hb),rfl,_,_,rfl,gn ⟨_,_,rfl,gn ⟨rfl,dQ ?_⟩⟩⟩
   refine mn (x:=cp (Str.ofString "layer ")++dg q.1++[32]++dg q.2) (gO (gO (gO (kr rfl) (qX λ_ _=>fV (aa rfl) q1) ?_) (kr K17.l1) ?_) (qX λ_ _=>fV (aa rfl) q2) ?_) λH2 s2=>?_
   ·rw[show(cp (Str.ofString "layer ")).length=6 by decide+kernel];lia
   ·rw[LP,show(cp (Str.ofString "layer ")).length=6 by decide+kernel];show 6+_+1<=1000;lia
   ·rw[LP,LP,show(cp (Str.ofString "layer ")).length=6 by decide+kernel];show 6+_+1+_<=1000;lia
   ·rw[show cp (Str.ofString "layer ")++dg q.1++[32]++dg q.2=rt (DS q) by
     show _=jl 32 [cp (kS 1),dg q.1,dg q.2]
     rw[Ki,show cp (Str.ofString "layer ")=cp (kS 1)++[32] by decide+kernel]
     simp]
    exact qv _ _ ⟨_,_,rfl⟩ s2
  clear hR R
  have dd:=a3.trans (ir.trans bb)
  refine fF (σ':=[_,_,_,_,_,_,_,_,_,_,_,_,_,_,_,_,_,_]) rfl ?_
  refine fY λR hR=>dW (cZ (aa rfl) ⟨_,rfl,vi,rfl,⟨_,aF.of (dd _ _ c2)⟩,λD nD=>?_⟩)
  refine eT (K:=K) (R:=λu n=>u=.int (n:Nat)) (λn=>rt (.via n)) (λτ=>∃x0:Option V,τ=[x0]) ⟨none,rfl⟩ (dd _ _ c2) (p6 ns) nD (by lia) ?_ λH16 i0 hD=>gT (i0 _ _ no) hD (by simp only[LP,LK];show 1+ps.length+ns.length<=1000;lia) λl3 H17 ms ng=>hR _ _ ?_
  ·rintro u n τ H' hn rfl s ⟨y0,rfl⟩ X Y qv
   have q1:=ei n hn
   have d1:=cj (k:=14) (n:=n) (by decide) q1
   refine gn (dQ (mn (x:=cp (Str.ofString "via ")++dg n) (gO (kr rfl) (qX λ_ _=>fV (aa rfl) q1) ?_) λH2 s2=>?_))
   ·rw[show(cp (Str.ofString "via ")).length=4 by decide+kernel];lia
   ·rw[show cp (Str.ofString "via ")++dg n=rt (.via n) by
     show _=jl 32 [cp (kS 2),dg n]
     rw[Kx,show cp (Str.ofString "via ")=cp (kS 2)++[32] by decide+kernel]
     simp]
    exact qv _ _ ⟨_,rfl⟩ s2
  clear hR R
  have d8:=dd.trans (i0.trans ms)
  refine fF (σ':=[_,_,_,_,_,_,_,_,_,_,_,_,_,_,_,_,_,_]) rfl ?_
  refine fY λR hR=>eo ar rfl (aG (dW (dW (cZ (aa rfl) (cZ (aa rfl) ?_)))))
  refine gT ng (d8 _ _ el) (by simp only[LP,LK];show 1+ps.length+ns.length+(A.length+B.length)<=1000;lia) λl4 H18 nS nP=>?_
  have bi:=d8.trans nS
  refine⟨_,rfl,th,rfl,⟨_,aF.of (bi _ _ N)⟩,λD nD=>?_⟩
  refine eT (K:=K) (R:=zH H18) (λg=>rt (pC g)) (λτ=>∃x0:Option V,τ=[x0]) ⟨none,rfl⟩ (bi _ _ N) (Paired.mapP an λ_ _ e=>e.same bi) nD (by lia) ?_ λH19 ap hD=>gT (ap _ _ nP) hD (by simp only[LP,LK];show 1+ps.length+ns.length+(A.length+B.length)+gs.length<=1000;lia) λl5 H20 me c4=>?_
  ·rintro u g τ H' hg dn s ⟨y0,rfl⟩ X Y qv
   exact gn (dQ (aP (af (aa rfl) ao) ⟨u,g,rfl,dn.same s,gt g hg,λH2 s2=>qv _ _ ⟨_,rfl⟩ s2⟩))
  have c4:WL H20 l5 ((Rw.floor z::jb ps ns A B gs).map rt):=by
   unfold WL
   rw[c4]
   unfold jb
   simp only[LQ,L1,LV,Mn,Og,NP,MV]
   rfl
  refine jJ nl c4 (λw hw=>?_) ?_ (hR _ _ ?_)
  ·obtain⟨r,hr,rfl⟩:=LN.mp hw
   exact LR (qz (c0 r hr)) (by decide)
  ·rw[LK]
   unfold jb
   simp only[L5,LP,LK]
   lia
  have sF:=bi.trans (ap.trans me)
  refine fF (σ':=wS (rr a) (rr hl) sa pr vi bA ra td (rr rl) (rr st) J th (DN (.floor z::jb ps ns A B gs)) none none none none none) (by kernel_rfl) (r2 _ _ ?_)
  exact⟨_,_,_,_,_,_,sa,pr,vi,ra,td,th,z,ps,ns,A,B,F,y,us,gs,sF _ _ c1,eb.up (λ_ e=>sF _ _ e) (λ_ _ e=>sF _ _ e),sF _ _ c2,eC.same sF,sF _ _ eE,sF _ _ N,Paired.mapP an (λ_ _ e=>e.same sF),m,p⟩
end
set_option maxHeartbeats 2000000 in
theorem all_mk {l:PySem.W.OpenLaw}(X:K.In h)(G:h.Ns mainGlobals mg)(fy:mg "law" =some (.ref fa))
  {c3 db c2 c1 c4 h3:Addr} (T:Txt K mg c3 db c2 c1 c4 h3)
  {f7:Addr} {hy eD:Option Addr} {hr:Array (Option Value)} {hN e5 e3 e1 ee eR:Value}
  {T7:Addr} {hv:Option Addr} {f3:Array (Option Value)} {gm ef eh:Value} {h2:Nat}
  {d9:Addr} {e6 et:Option Addr} {e8:Array (Option Value)} {eH ei ez ej ec e0:Value}
  {d6:Addr} {el dK:Option Addr} {eA:Array (Option Value)} {ev du dL ds dl dt:Value}
  {d8:Addr} {em:Option Addr} {en:Array (Option Value)} {eq:Value} {ex:Nat} {dx:Tok} {dc:Tok}
  {d3:Addr} {eu d4:Option Addr} {ey:Array (Option Value)} {e7 d0 d1 dV dp d5:Value}
  {ea:Addr} {e2:Option Addr} {eC:Array (Option Value)} {er:Value} {e4:Nat} {dn:Tok}
  (dT:ClG K db "Net")
  (c5:ClG K c2 "Bundle")
  (dd:ClG K c1 "Floor")
  (eb:ClG K c4 "Board")
  (l0:dI K "inside" wg)
  (l1:dI K "apart" AQ)
  (l2:dI K "square" xV)
  (l3:dI K "check_sizes" wV)
  (l4:dI K "check_price" v9)
  (l5:dI K "check_prices" rh)
  (l6:dI K "check_inside" rq)
  (a7:Mq K (.ref c1) "__init__" =some (some (.ref f7)))
  (i7:Nw K (.ref f7)=true)
  (l7:K.lookup f7=some ⟨hN,hy,.func (Mh "__init__" "Floor.__init__" (cq gM) (bP gM) (aM gM) (.ref T7) e5 e3 e1 eD ee eR),hr⟩)
  (d7:K.lookup T7=some ⟨gm,hv,.seq #[ef,eh] h2,f3⟩)
  (c7:MO K ee "Floor.__init__" =true)
  (k7:Mv K (.ref f7)=true)
  (l8:si K c1 "layer_prices" "Floor.layer_prices" zS)
  (l9:si K c1 "via_prices" "Floor.via_prices" J5)
  (f8:si K c1 "rocks_told" "Floor.rocks_told" Bs)
  (hk:si K c1 "tolls_told" "Floor.tolls_told" AG)
  (hs:si K c1 "is_rock" "Floor.is_rock" vT)
  (hL:dI K "is_name" Ga)
  (hw:dI K "check_unlike" wt)
  (f5:PySem.W.readsIn K c3 (.type "type")=true)
  (hq:PySem.W.findCls K (.ref c3) (.type "type") "__init__" =some (.val (.ref d9)))
  (e9:Oq K (.ref c3) "__getattribute__" =some (some (.builtin "type.__getattribute__")))
  (fp:K.lookup d9=some ⟨eH,e6,.func (Mh "__init__" "Thing.__init__" (cq km) (bP km) (aM km) .none ei ez ej et ec e0),e8⟩)
  (hm:MO K ec "Thing.__init__" =true)
  (eE:Mv K (.ref d9)=true)
  (fl:Mq K (.ref db) "__init__" =some (some (.ref d6)))
  (ga:Nw K (.ref d6)=true)
  (g3:K.lookup d6=some ⟨ev,el,.func (Mh "__init__" "Net.__init__" (cq eJ) (bP eJ) (aM eJ) (.ref d8) du dL ds dK dl dt),eA⟩)
  (eg:K.lookup d8=some ⟨eq,em,.seq #[.int 0 dx,.int 0 dc] ex,en⟩)
  (hS:MO K dl "Net.__init__" =true)
  (ll:Mv K (.ref d6)=true)
  (f0:si K db "ends" "Net.ends" Di)
  (hE:Mq K (.ref c2) "__init__" =some (some (.ref d3)))
  (fx:Nw K (.ref d3)=true)
  (hz:K.lookup d3=some ⟨e7,eu,.func (Mh "__init__" "Bundle.__init__" (cq fA) (bP fA) (aM fA) (.ref ea) d0 d1 dV d4 dp d5),ey⟩)
  (ep:K.lookup ea=some ⟨er,e2,.seq #[.int 0 dn] e4,eC⟩)
  (hD:MO K dp "Bundle.__init__" =true)
  (i3:Mv K (.ref d3)=true)
  (hM:si K c2 "ends" "Bundle.ends" Ce)
  (g0:dI K "fits" Gw)
  (hi:dI K "reach_of" Ds)
  (hu:dI K "clash" C0)
  (h0:dI K "clash_at_all" xa)
  (hc:dI K "check_names" vV)
  (hX:dI K "check_fits" DE)
  (ha:dI K "check_crowds" rg)
  (hT:si K c4 "__init__" "Board.__init__" xq)
  (gd:si K c4 "things" "Board.things" oY)
  (hW:dI K "between" J1)
  (gg:dI K "box" Jj)
  (fr:dI K "goes_on" wy)
  (hg:dI K "runs" GB)
  (fi:dI K "words_in" rp)
  (hj:dI K "rows_of" xH)
  (hQ:dI K "number_in" B9)
  (g7:dI K "spot_in" wY)
  (hC:dI K "spot_word" Dg)
  (fn:dI K "numbers_told" sZ)
  (ho:dI K "spots_told" xf)
  (he:dI K "corners_told" tM)
  (ft:dI K "toll_told" AO)
  (gp:dI K "net_told" Gj)
  (fC:dI K "bundle_told" Ge)
  (f6:dI K "row_told" Gq)
  (hh:dI K "rows_told" Cf)
  (hn:dI K "parts_of" xl)
  (hA:dI K "marked" vY)
  (gt:dI K "floor_told" w6)
  (ge:dI K "thing_told" xn)
  (f9:dI K "read_board" Gi)
  (g4:dI K "row_of" Ca)
  (hK:dI K "spot_words" xY)
  (f4:dI K "run_words" Gb)
  (hJ:dI K "thing_row" F5)
  (gs:dI K "rock_rows" Bu)
  (g2:dI K "toll_rows" CH)
  (h1:dI K "written" sY)
  (hF:dI K "_law_cell_at" Gh)
  (gl:dI K "_law_spot_at" yc)
  (g8:dI K "_law_word" GK)
  (f1:dI K "_law_stretch_row" tH)
  (hR:dI K "_law_marked" Am)
  (f2:dI K "_law_fits" Bc)
  (gk:dI K "_law_near" CU)
  (hx:dI K "_law_ends" BZ)
  (hf:dI K "_law_name" BN)
  (hO:dI K "_law_things" tQ)
  (hb:dI K "_law_row" GF)
  (hY:dI K "_law_made" Cb)
  (g5:dI K "_law_same" Gp)
  (g1:dI K "_law_thing_good" CD)
  (hH:dI K "_law_board_good" AN)
  (hp:dI K "law" IZ)
  :∃fd:FuncData,(∀(s:Shared) (v:Value),BindsTo s fd ⟨[v],[]⟩ [("script",v)])/\∀base:Heap,K.In base->base.Ns mainGlobals mg->fz l.prog w K mg base n8 9 fa fd ["script"] (xP K):=by
 have F7:=qi (st:=gM) l7 c7
 have b7:cC K (Mh "__init__" "Floor.__init__" (cq gM) (bP gM) (aM gM) (.ref T7) e5 e3 e1 eD ee eR) ["self", "sizes", "prices", "vias", "rocks", "tolls"] []:=HN rfl d7 λus hl=>by obtain⟨_,_,_,_,_,_,rfl⟩:=LD hl;exact⟨_,rfl,rfl⟩
 have ek:=vA (st:=km) fp hm eE
 have c0:cC K _ ["self", "name", "half", "room"] []:=ek.binds λ_ _ _ _ _ _ us hl=>by obtain⟨_,_,_,_,rfl⟩:=KI hl;rfl
 have hP:=qi (st:=eJ) g3 hS
 have ci:cC K (Mh "__init__" "Net.__init__" (cq eJ) (bP eJ) (aM eJ) (.ref d8) du dL ds dK dl dt) ["self", "name", "pins", "half", "room"] ([]:List Value):=mE rfl eg 5 rfl λus hl=>(by obtain⟨_,_,_,_,_,rfl⟩:=Lf (us:=us) hl;exact⟨_,rfl,rfl⟩)
 have ck:cC K (Mh "__init__" "Net.__init__" (cq eJ) (bP eJ) (aM eJ) (.ref d8) du dL ds dK dl dt) ["self", "name", "pins", "half", "room"] ([.int 0 dc]:List Value):=mE rfl eg 4 rfl λus hl=>(by obtain⟨_,_,_,_,rfl⟩:=KI (us:=us) hl;exact⟨_,rfl,rfl⟩)
 have cB:cC K (Mh "__init__" "Net.__init__" (cq eJ) (bP eJ) (aM eJ) (.ref d8) du dL ds dK dl dt) ["self", "name", "pins", "half", "room"] ([.int 0 dx,.int 0 dc]:List Value):=mE rfl eg 3 rfl λus hl=>(by obtain⟨_,_,_,rfl⟩:=Lw (us:=us) hl;exact⟨_,rfl,rfl⟩)
 have hI:=qi (st:=fA) hz hD
 have ca:cC K (Mh "__init__" "Bundle.__init__" (cq fA) (bP fA) (aM fA) (.ref ea) d0 d1 dV d4 dp d5) ["self", "name", "starts", "goals", "room"] ([]:List Value):=mE rfl ep 5 rfl λus hl=>(by obtain⟨_,_,_,_,_,rfl⟩:=Lf (us:=us) hl;exact⟨_,rfl,rfl⟩)
 have cd:cC K (Mh "__init__" "Bundle.__init__" (cq fA) (bP fA) (aM fA) (.ref ea) d0 d1 dV d4 dp d5) ["self", "name", "starts", "goals", "room"] ([.int 0 dn]:List Value):=mE rfl ep 4 rfl λus hl=>(by obtain⟨_,_,_,_,rfl⟩:=KI (us:=us) hl;exact⟨_,rfl,rfl⟩)
 obtain⟨fd,F,_,_,_,_,_,_,e⟩:=dI.law X G hp fy
 refine⟨fd,λs v=>by subst e;exact .of_eq rfl,λbase hB _=>?_⟩
 have go:∀{x st k ps sp},dI K x st->qW l.prog w K mg base k x x st ps sp->aA l.prog w K mg base x k ps sp:=dI.go X G
 have me:∀{C x q st k ps sp},si K C x q st->qW l.prog w K mg base k x q st ps sp->cn l.prog w K mg base C x k ps sp:=si.go
 have y:=go l0 (yU T)
 have bd:=go l1 (Bw T)
 have ap:=go l2 (yx T)
 have p:=go l3 (yj T hB)
 have o:=go l4 (zu T hB)
 have j:=go l5 (uf T o)
 have b:=go l6 (uJ T hB y)
 have B:g6 l.prog w K mg base c1 "Floor" 3 ["self", "sizes", "prices", "vias", "rocks", "tolls"] (lY c1):=⟨f7,_,DJ T F7 p j b,⟨dd.mi,a7,i7,dd.kc⟩,Ob X G dd.n,b7⟩
 have N:=me l8 (DI T)
 have b8:=me l9 (H_ T)
 have I:=me f8 (A_ T)
 have J:=me hk (Ac T)
 have am:=me hs (yo T b)
 have cJ:=go hL (Eh T)
 have u:=go hw (yD T hB)
 have M:iV l.prog w K mg base c3 "__init__" 2 ["self", "name", "half", "room"] (lR db c2):=⟨d9,_,Bo T ek hB cJ,⟨⟨_,f5,hq⟩,rfl,e9,eE⟩,c0⟩
 have E:fO l.prog w K mg base db "Net" 3 ["self", "name", "pins", "half", "room"] (jZ db) 2:=⟨d6,_,Dc T hP hB u M,⟨dT.mi,fl,ga,dT.kc⟩,Ob X G dT.n,FB ci ck cB⟩
 have D:=me f0 (BK T)
 have A:fO l.prog w K mg base c2 "Bundle" 3 ["self", "name", "starts", "goals", "room"] (ju c2) 1:=⟨d3,_,BW T hI hB u M,⟨c5.mi,hE,fx,c5.kc⟩,Ob X G c5.n,Ed ca cd⟩
 have H:=me hM (BP T)
 have ch:=go g0 (Ex T y ap am)
 have bl:=go hi (DF T)
 have bD:=go hu (C1 T bd bl)
 have av:=go h0 (yV T bD)
 have ad:=go hc (zo T hB)
 have b6:=go hX (Bx T hB D H ch)
 have Q:=go ha (uE T hB D H av)
 have r:=si.init (P:=l.prog) (w:=w) (base:=base) X G eb hT (zm T ad b6 Q)
 have d:=me gd (sN T)
 have cN:=go hW (GX T)
 have cF:=go gg (Ig T cN)
 have a4:=go fr (zt T)
 have Z:=go hg (Et T a4)
 have S:=go fi (vC T)
 have a5:=go hj (yz T S)
 have O:=go hQ (AA T)
 have an:=go g7 (yy T O)
 have b0:=go hC (Av T)
 have a:=go fn (u5 T O)
 have c:=go ho (yA T an)
 have f:=go he (uO T c)
 have b1:=go ft (Cj T a f)
 have cs:=go gp (F1 T a c)
 have ce:=go fC (Fv T a c)
 have co:=go f6 (EC T a f b1 cs ce)
 have be:=go hh (Dd T hB a5 co)
 have a1:=go hn (zC T)
 have a0:=go hA (zb T cF)
 have a2:=go gt (yr T p o j b B a1 a0)
 have a3:=go ge (zp T E A)
 have b9:=go f9 (ET T r be a2 a3)
 have bn:=go g4 (CL T)
 have n:=go hK (yZ T b0)
 have ab:=go f4 (FI T n)
 have ac:=go hJ (Ey T n)
 have a6:=go gs (zI T I Z ab)
 have b4:=go g2 (BR T J Z ab)
 have R:=go h1 (vj T N b8 d bn ac a6 b4)
 have ct:=go hF (Fj T)
 have m:=go gl (yf T)
 have Y:=go g8 (EJ T)
 have U:=go f1 (vt T Y)
 have bi:=go hR (DG T m U)
 have bt:=go f2 (Dy T)
 have bb:=go gk (BB T)
 have bA:=go hx (Ab T m bt bb)
 have bv:=go hf (DB T)
 have W:=go hO (ui T bA bv)
 have cc:=go hb (FW T Y)
 have bm:=go hY (zO T E A)
 have z:=AV (P:=l.prog) (w:=w) (base:=base) (sp:=gH) X G g5 (by(repeat intro _);exact rfl) (λ_ _ _ _ h=>yd h) (λg=>E7 T g) 5
 have b3:=go g1 (CM T z)
 have b5:=go hH (Dr T N b8 I J d z b3)
 exact(GS T B r b9 ac R ct bi W cc bm z b5).2 F
theorem walk {l:PySem.W.OpenLaw}{j:(Str->Option Value)->Heap->Prop}{e:World->Heap->Prop}{d:DefRec}{K:Params->LO}(p:l.most=some 63)(b:d.params.defaults=[])
  (g:∀(w:World) (h:Heap),e w h->(K w.params).In h)
  (F:∀(w:World) (mg:Str->Option Value) (c:Addr) (h:Heap),(K w.params).In h->h.Ns mainGlobals mg->mg d.name=some (.ref c)->
   ∃fd:FuncData,(∀(s:Shared) (u:Value),BindsTo s fd ⟨[u],[]⟩ [("script",u)])/\∀base:Heap,(K w.params).In base->base.Ns mainGlobals mg->fz l.prog w (K w.params) mg base n8 9 c fd ["script"] (xP (K w.params))):
  PySem.W.WalkO q loose j e l.row.toRowW d [] (λf vs=>PySem.call f vs):=
 L2.walk_of (n:=63) (k:=9) (x:= "script") (CX:=λ_=>n8) (sp:=λw=>xP (K w.params)) p (by decide) b ⟨rfl,by decide,by decide,rfl⟩ g F (λ_ _ a ns m _ o=>⟨a,ns,rfl,o,m,λ_=>rfl⟩) λ_ _ _ _ _ z=>z
end K17

end
/-! these names are taken, so that the head lays no second forms of the greatest of its objects -/
structure PySem.W.Fast:Prop where
 (tw10305929481190243699 tw3109340216897045210 tw3648918629546737705 tw4472951003643588318 tw3592596644917537213 tw2997440996266984163 tw13233100362077882796 tw6436068405928203960 tw6687801376488681502 tw14247291379824464956 tw2702835328782297325 tw2108976268669170153 tw3174372591580055423 tw2863314594612056204 tw1127288573344364227 tw1886567084532418447 tw12411644531559288464 tw16065695464762869089 tw962323082582027590 tw7674651860594884367 tw17261599987889875664 tw66931941594018300 tw4351082006435157983 tw8911821012405481032 tw14621469971509155217 tw707851953875173459 tw8493207593931765272 tw8284110451750912193 tw14997194685953038911 tw8984572130090083181 tw4613301141857675924 tw4427257232114498351 tw16930243711575353352 tw13222297117755038730 tw3398310613639061113 tw13315925108853488935 tw17633705315395722615 tw15665910981978421293 tw2584978152507156379 tw17889278735431262084 tw7528375392864937605 tw11797745736576842340 tw13894877364809726072 tw2464389324112982232 tw8115194897478967108 tw3867160480761687949 tw12813773242302639453 tw3554780863150083143 tw8605817740782360626 tw12235760620747834583 tw6543086703543895383 tw1681721693047860149 tw6693121351571566461 tw13040694049643251820 tw4901959461138513669 tw10565331532891399494 tw16067991066702249219 tw1122333321469767717 tw13823252380130234518 tw10985203772300086483 tw1667159108683819926 tw17021050471089198764 tw11635045037247326390 tw2066162829524499198 tw14349988356953134626 tw12066221129312961505 tw16619257917484251407 tw14209868079652909374 tw15183525477778872846 tw16936947784516903359 tw4134101360481623757 tw13378359268701252956 tw17430272248692817713 tw17054006323031593383 tw7061328345378440449 tw5053010600227318574 tw4108547121572078088 tw318443518270443937 tw16603912689822963279 tw4282143921491737159 tw8157384990800082195 tw12397468688513843936 tw478652343662104172 tw2524265191944383293 tw12841528680149800368 tw9986012033023242643 tw17269805918959060091 tw3832108992104409011 tw11358907454218198285 tw16113605033869953735 tw11006938569747797727 tw15783013223729340610 tw666268403055425448 tw7543672854407821354 tw11090767013404389107 tw4583678059953805282 tw17044937920018625758 tw8359881713302757581 tw16072396209187835604 tw5205233654963755420 tw6828619949846122623 tw13108318864663852459 tw6181976080911233996 tw10349097569190784024 tw4000735336001789623 tw4173100148950223654 tw13584427011106893698 tw1549015803682029168 tw2692130464173114526 tw14478153971958457563 tw3834019155171499665 tw15251954792409796078 tw14037418433497460270 tw13340677934182913171 tw6751456838450688575 tw7678193533698842455 tw9526958141066676786 tw10986430005564545552 tw9071818876475707029 tw6465822528364960202 tw1304918127180586721 tw1164965958603292894 tw17760353438970791532 tw9222426537820838995 tw10286810908878002345 tw11530548494303217941 tw12442085736654046628 tw15937301761304315413 tw11517556358786968072 tw3534082516887691947 tw14628751161977518433 tw1542691821198536219 tw15647206480239547850 tw7821530919490976517 tw6463886462545961905 tw8380254728117694203 tw246220521933539048 tw14211617359704241039 tw1897153907365327215 tw15947302700989291324 tw1274769878514932563 tw17674893758519681399 tw11622461285466423447 tw5920695128209669329 tw17919448535639054397 tw14751542922959538354 tw7490801505278005331 tw575693225683350637 tw14860365387692494384 tw16422498638672784234 tw10733029001351492963 tw94745973496369515 tw7390397386646435363 tw3030192118420393596 tw1865169445063792067 tw16606057156322724116 tw13297962412352352029 tw2037654944056584947 tw6022949617164993812 tw17280997061424160476 tw191518651252344519 tw17731058875469909544 tw353428041060143118 tw15589048017520311962 tw9673258218396872398 tw13396747915238843632 tw9215913057122617497 tw15245713423847269297 tw17244973377613120401 tw18105036829913285182 tw15873572915004532701 tw10013769701772694082 tw16998117313440616692 tw10821367482812240492 tw8966540161194002175 tw4355155153960662990 tw14327413731914295138 tw3725023346838544332 tw16018233178659862190 tw17956837893054761588 tw13147044016531564934 tw17553378091552326020 tw424178912705725281 tw14059603959128775598 tw10146373405220507377 tw6049849835711401241 tw5955819722798070729 tw657616233151377517 tw12875137016839035037 tw10727457794615700985 tw248320611467460475 tw17877994092519734616 tw9037221704227754701 tw3810094560045352904 tw8251861787391438978 tw9539033131673858641 tw17061291092689010318 tw15921672521395557614 tw16989249668953204392 tw3255207149672078190 tw4352660864645988937 tw16473254057890018372 tw15853388057443215316 tw11502670314885951684 tw18248557885391069465 tw12166264756402430879 tw14994875183363452387 tw14167996849825142224 tw592873331763163160 tw5910213183679121847 tw1960380286579332247 tw13327643716725212111 tw15105911988758289969 tw7427831647909423830 tw17718510016043529063 tw13150467106826235429 tw11003111858622765328 tw16236257685994221110 tw4671734500809506291 tw15594370418216552104 tw5621839974935899258 tw11149660776263278897 tw12970638582324554442 tw336426003639664142 tw3423634800872334117 tw9903475439746191227 tw9315059420526804800 tw15292883144484120801 tw3949648386230362008 tw15634731194972137739 tw17171654818052453702 tw8022182145395697125 tw10720849314640918216 tw9309964994760158341 tw15270629069709829208 tw6374530549525334860 tw17758568467713889193 tw16377180230510786419 tw16897569209860210022 tw14699170082454120132 tw7786304263548482904 tw3305733728151492279 tw8542269643077679131 tw6265214771928292769 tw13526488971337194677 tw14939859664965332481 tw161648261349205920 tw13953873760987588029 tw15998275367593521258 tw10562358245820295423 tw6247900869651900385 tw3729082853182359657 tw10665505754766410114 tw355870223690862325 tw5732522209880272140 tw8653229392181438825 tw3568767934277913634 tw9429248736126469425 tw8591458085925259623 tw16823114565819729008 tw9573590387794839408 tw17412397064738812665 tw14287043099610502232 tw11386957781745030660 tw853114863908591296 tw14538866186517874849 tw7190493262693284713 tw12177671839979434898 tw9789486018526359651 tw17536204113516438017 tw3806023717712263051 tw8095673777067934748 tw2459067123909379687 tw4966183230908148524 tw3854808444871410364 tw11650306192983828826 tw7156419969647891669 tw13528575812758176011 tw18041365058480431312 tw14961373076554331320 tw574689485065106686 tw14816926876222972240 tw2230124129124981678 tw13336301890448116923 tw10816342991006893797 tw12210387132887443836 tw2352980375879937652 tw13672636035755594155 tw9485975858765184166 tw16015705976284621289 tw9842043535047376204 tw5181262484731945212 tw16887585829143595319 tw12613286814524585197 tw10720911913813531388 tw14692812590442489994 tw9571958074620152934 tw16337024525432323839 tw11116739604692777054 tw9222226367920959272 tw10486246625373058518 tw9137335270808530685 tw2299384871314575595 tw14676262082042004000 tw14687417589449087056 tw17703665126322797048 tw2389292101751177477 tw12523853667271364676 tw7317265812953768173 tw10784424990351595857 tw11036536959305415427 tw14797057569852767846 tw12852617209496533702 tw7409969421054026678 tw13605154047614175262 tw14045511658917577635 tw13611675983535902253 tw742964188331805979 tw741042808470870178 tw16779700248259933735 tw1291490112858821819 tw7832818562256645717 tw9557917099271329855 tw6228922082866314437 tw12663044207248926330 tw13749650682646351158 tw10399820661774205621 tw1325586758360941576 tw15196901117275427345 tw4704877154074034658 tw18016125393193255726 tw15775616012326163210 tw16944690845937167374 tw2738715619363987608 tw6031465058428565369 tw12250683744188244764 tw9055647095964232166 tw3914832588960883872 tw7880319998239079904:True)
open PySem PySem.W PyProof.Rows
set_option maxRecDepth 100000 in
set_option tactic.hygienic true in
set_option maxHeartbeats 0 in
theorem PySem.Challenge.cw_wirefloor_k17_whole_board_there_and_back_holds : PySem.Challenge.rw_wirefloor_k17_whole_board_there_and_back.Holds := by
  w_on; o_law; k_head; (case hw => w_witness2)
  k_fill
  refine K17.walk (l := PySem.Challenge.rw_wirefloor_k17_whole_board_there_and_back) rfl rfl (fun w h Y => PySem.W.kIn_of Y) ?F
  case F =>
    intro w mg fa h KX G hmg
    have N := fun {n} e => @PySem.W.mg_none_of _ _ _ n KX G e
    have M := fun {n v} e => @PySem.W.mg_of _ _ _ n v KX G e
    refine' K17.all_mk KX G hmg ⟨N ?u0, N ?u1, N ?u2, N ?u3, N ?u4, N ?u5, N ?u6, N ?u7, N ?u8, N ?u9, N ?u10, N ?u11, N ?u12, N ?u13, N ?u14, N ?u15, N ?u16, N ?u17, N ?u18, N ?u19, ⟨?u21, ?u22, ?u23, ?u24⟩, M ?u20, L2.ClG.cl ?h0, M (L2.ClG.n ?h0), ?u25, ?u26, ?u27, ?u28, L2.ClG.cl ?h1, M (L2.ClG.n ?h1), ?u29, ?u30, ?u31, ?u32, ?u33, L2.ClG.cl ?h2, M (L2.ClG.n ?h2), ?u34, ?u35, ?u36, ?u37, ?u38, L2.ClG.cl ?h3, M (L2.ClG.n ?h3), ?u39, ?u40, ⟨_, M (by k_is), ⟨_, rfl⟩⟩, ⟨_, M (by k_is), ⟨_, rfl⟩⟩, ⟨_, M (by k_is), ⟨_, rfl⟩⟩, ⟨_, M (by k_is), ⟨_, rfl⟩⟩, ⟨_, M (by k_is), ⟨_, rfl⟩⟩, ⟨_, M (by k_is), ⟨_, rfl⟩⟩, ⟨_, M (by k_is), ⟨_, rfl⟩⟩, ⟨_, M (by k_is), ⟨_, rfl⟩⟩, ⟨_, M (by k_is), ⟨_, rfl⟩⟩, ⟨_, M (by k_is), ⟨_, rfl⟩⟩, ⟨_, M (by k_is), rfl⟩, fun _ => .inr ⟨⟨.type "tuple", _, .seq #[.int 4 _, .int 16 _, .int 16 _] _, _⟩, _, _, (by k_is), rfl, rfl, (by show 3 <= sizeLine; decide), (.cons ⟨_, rfl⟩ (.cons ⟨_, rfl⟩ (.cons ⟨_, rfl⟩ .nil)))⟩, ?u41, ?u42, ?u43, ?u44, ?u45, ?u46, ?u47, ?u48, ?u49, ?u50, ?u51, ?u52, ?u53, ?u54, ?u55, ?u56, ?u57, ?u58, ?u59, ?u60, ?u61⟩ ?h0 ?h1 ?h2 ?h3 ?h4 ?h5 ?h6 ?h7 ?h8 ?h9 ?h10 ?h11 ?h12 ?h13 ?h14 ?h15 ?h16 ?h17 ?h18 ?h19 ?h20 ?h21 ?h22 ?h23 ?h24 ?h25 ?h26 ?h27 ?h28 ?h29 ?h30 ?h31 ?h32 ?h33 ?h34 ?h35 ?h36 ?h37 ?h38 ?h39 ?h40 ?h41 ?h42 ?h43 ?h44 ?h45 ?h46 ?h47 ?h48 ?h49 ?h50 ?h51 ?h52 ?h53 ?h54 ?h55 ?h56 ?h57 ?h58 ?h59 ?h60 ?h61 ?h62 ?h63 ?h64 ?h65 ?h66 ?h67 ?h68 ?h69 ?h70 ?h71 ?h72 ?h73 ?h74 ?h75 ?h76 ?h77 ?h78 ?h79 ?h80 ?h81 ?h82 ?h83 ?h84 ?h85 ?h86 ?h87 ?h88 ?h89 ?h90 ?h91 ?h92 ?h93 ?h94 ?h95 ?h96 ?h97
    (case h0|h1|h2|h3 => (refine' ⟨?a, ?b, ?c, ?d, ?e, ?f, ?g⟩; (case a => k_is); (case b => k_is); (case c => k_is); (case d => k_is); (case e => k_is); (case f => k_is); (case g => k_is)))
    (case u0|u1|u2|u3|u4|u5|u6|u7|u8|u9|u10|u11|u12|u13|u14|u15|u16|u17|u18|u19|u20|u21|u22|u23|u24|u55|u56|u57|u58|u59|u60|h11|h12|h13|h14|h15|h16|h24|h25|h26|h27|h28|h29|h30|h31|h32|h33|h34|h35|h37|h38|h39|h40|h41|h42 => k_is)
    (case h4|h5|h6|h7|h8|h9|h10|h22|h23|h44|h45|h46|h47|h48|h49|h50|h53|h54|h55|h56|h57|h58|h59|h60|h61|h62|h63|h64|h65|h66|h67|h68|h69|h70|h71|h72|h73|h74|h75|h76|h77|h78|h79|h80|h81|h82|h83|h84|h85|h86|h87|h88|h89|h90|h91|h92|h93|h94|h95|h96|h97 => (refine' L2.fng ?a (L2.fnat ?b ?c ?d); (case a => k_is); (case b => k_is); (case c => k_is); (case d => k_is)))
    (case h17|h18|h19|h20|h21|h36|h43|h51|h52 => (refine' L2.meg ?a ?i (L2.fnat ?b ?c ?d); (case a => k_is); (case i => k_is); (case b => k_is); (case c => k_is); (case d => k_is)))
    (case u41|u42|u43|u44|u45|u46|u47|u48|u49|u50|u51|u52|u53|u54|u61 => kit_is)
    (case u25|u26|u27|u28|u29|u30|u31|u32|u33|u34|u35|u36|u37|u38|u39|u40 => show _ = _; k_is)
