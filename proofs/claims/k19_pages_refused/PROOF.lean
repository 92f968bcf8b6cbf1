import PyProof.Rows.All
import Wide.All
import OpenK.AllK
import Wide.FinOn
import Lean
import PyProof.EqAt
import PyProof.EqKinds
import PyProof.TupleCall
import OpenK.KRaise
import OpenK.KOwn
import KE.KTryMore
import KE.RegKTryMore
import PyProof.ExcArgsOwn
import KE.KIntText
import KE.KSortTup
import KE.KDictOf
import KE.KRevIter
import KE.KEqDict
import PyProof.Rows.SetFrom
import PyProof.TupleKey
import PyProof.Rows.SetObj
import PyProof.SetRoads
import PyProof.IsiH_list
import PyProof.ZipIter
import PyProof.Rows.TupIter
import PyProof.DictValues
import PyProof.DictWalks
import KE.KDictSum
import KE.KNest
import KE.KLam
import KE.KNestM
import KE.KDictList
import KE.KDictLaws
import PyProof.Rows.SetFrom
import PyProof.TupleKey
import PyProof.Rows.SetObj
import PyProof.SetRoads
import PyProof.StrLawsRepr
import PyProof.ReprStr
import PyProof.FString
import PyProof.EnumMake
import PySem.Challenge.RW_wirefloor_k19_pages_refused
set_option Elab.async false
set_option linter.all false
set_option maxRecDepth 100000
set_option tactic.hygienic false
open PySem renaming wpAny_bind -> ND, wpAny_pure -> NH, wpAny_holding -> Oe, wpAny_mono -> On, wpAny_field -> Oq, wpAny_call_entry -> OG, wpAny_attempt -> ON, wpAny_call -> OS, wpAny_truthy_bool -> OV, wpAny_callSpecial?_slot -> O9, wpAny_dictEntries -> O_, wpAny_seqItems -> Pb
open PySem renaming wpAny_pyIter_list -> Pe, wpAny_newObj_type -> Ph, wpAny_setField -> Pi, wpAny_Call_Name_kw -> Pj, wpAny_isInstance -> PM, wpAny_typeOf -> PN, wpAny_setState_of -> PP, wpAny_standAt -> PV, wpAny_dictEpoch -> P4, wpAny_setField_rec -> P_, wpAny_passesOwn -> Qg, wpAny_loadPart_at -> Qs
open PySem renaming wpAny_notOrdered_dict -> Qy, wpAny_typeNameOfWhole_keyiter -> Qz, wpAny_typeNameOfWhole_valiter -> QA
open List renaming length_map -> NG, mem_cons -> NK, length_append -> NM, map_cons -> NQ, mem_singleton -> NR, length_cons -> NU, mem_cons_of_mem -> NV, map_append -> NW, mem_map -> N0, not_mem_nil -> N3, mem_cons_self -> N7, length_take -> N_
open List renaming all_eq_true -> Oa, take_length -> Ob, getElem?_map -> Od, mem_append_right -> Of, size_toArray -> Og, mem_of_getElem? -> Oi, map_map -> Ol, append_nil -> Os, mem_append -> Ot, mem_append_left -> Ou, getElem?_eq_some_iff -> Ov, getElem?_eq_getElem -> Ox
open List renaming mem_filterMap -> Oy, map_nil -> OA, filterMap_cons -> OB, length_drop -> OC, lookup_cons -> OF, getD_eq_getElem?_getD -> OJ, lookup -> OM, nodup_cons -> OT, getElem?_append_right -> OU, any_cons -> OY, take_of_length_le -> O3, filterMap_append -> O5
open List renaming take_succ -> Pa, mem_filter -> Pd, getElem?_append_left -> Pk, length_replicate -> Pm, cons_append -> Pn, append_assoc -> Pq, all_cons -> PL, mem_range -> PR, find?_cons -> P0, nodup_nil -> P1, getElem_mem -> Qb, any_eq_true -> Qc
open List renaming filter_append -> Qe, length_filter_le -> Qf, length_singleton -> Qm, length_nil -> Qn, pairwise_map -> Qr, count_cons -> Qt, drop_of_length_le -> QD, map_congr_left -> QE, all_eq_false -> QF, filterMap_nil -> QG, length_filterMap_le -> QH, eq_nil_of_length_eq_zero -> QK
open Nat renaming le_refl -> NI, le_trans -> NP, ne_of_lt -> NS, zero_le -> N9, lt_of_lt_of_le -> Oc, lt_irrefl -> OP, not_lt_zero -> OZ, le_add_right -> O0, min_eq_left -> O4, ne_of_gt -> O7, succ_le_succ -> Pu, zero_add -> Pw
open Nat renaming le_of_lt -> Py, lt_succ_self -> PY, eq_zero_or_pos -> Qd, lt_of_le_of_lt -> Qo, lt_succ_of_lt -> Qp
open PySem.W renaming Frag -> NJ, exmOne -> NL, findIn -> Oh, fnOf -> Oj, keepIn -> Oo, kitOne -> OD, codeIn -> OE, kia_one -> OI, Looks -> OQ, isFn -> OX, emptyDict -> O8, instObj -> Pc
open PySem.W renaming nsIn -> Po, mg_of -> Px, hideAll -> PQ, looks_findIn -> PX, plainGet -> Qh, hasDictIn -> Qi, specialIn -> Qj, mroIn -> Qk, callWith_K -> Ql, methodCall_KW -> Qw, looks_mroIn -> Qx
open PySem.Heap renaming get?_push_of_some -> NN, lt_size -> NO, get?_push_size -> NZ, size_push -> OH, get?_update_self -> OR, get?_none_of_le -> O6, get?_update_other -> PD
open PySem.F renaming plainAttrs_list -> NX, slot_list_append -> N4, type_list_append -> N5, excBase_ValueError -> Oz, plainAttrs_str -> Qu, entry_tuple_add -> QI, args_tuple_add_2 -> QJ
open Bool renaming false_ne_true -> NY, and_eq_true -> N8, and_false -> Om, not_eq_true' -> Pp, false_and -> Pz, eq_iff_iff -> PB, or_eq_true -> Qq, or_eq_false_iff -> QB
open Ne renaming symm -> N6
open Int renaming emod_nonneg -> OK, emod_lt_of_pos -> OL, eq_ofNat_of_zero_le -> OO, toNat_natCast -> PJ, natCast_nonneg -> QC
open Array renaming length_toList -> OW, mem_toList_iff -> Pf, getElem?_eq_some_iff -> PZ, getElem?_eq_getElem -> P7, getElem?_toList -> Qa
open Option renaming map_some -> PU, map_eq_some_iff -> P9
noncomputable section
namespace L2
open PySem PySem.Spec PyProof.Rows
abbrev dq:=Sum Int Str
noncomputable def pd:dq->Value->Bool
 | .inl k,v=>Value.isInt k v
 | .inr x,v=>Value.isStrOf x v
noncomputable def Mp (w:World):dq->Int
 | .inl k=>hashInt k
 | .inr x=>hashStr w x
theorem cR:∀{k:dq} {v:Value},pd k v=true->(∃i t,k=Sum.inl i/\v=Value.int i t)\/(∃x t,k=Sum.inr x/\v=Value.str x t)
 | .inl i,v,h=>by
  obtain⟨t,e⟩:=Value.isInt_shape (k:=i) (v:=v) h
  exact .inl ⟨i,t,rfl,e⟩
 | .inr x,v,h=>by
  obtain⟨t,e⟩:=Value.isStrOf_shape (x:=x) (v:=v) h
  exact .inr ⟨x,t,rfl,e⟩
theorem zM (i:Int)(t:Tok):pd (.inl i) (.int i t)=true:=by simp[pd,Value.isInt]
theorem yF (x:Str)(t:Tok):pd (.inr x) (.str x t)=true:=by simp[pd,Value.isStrOf]
theorem Im (a b:Int):decide ((Sum.inl a:dq)=Sum.inl b)=(a==b):=by
 by_cases e:a=b
 ·subst e;simp
 ·have h:¬(Sum.inl a:dq)=Sum.inl b:=λq=>e (Sum.inl.inj q)
  rw[decide_eq_false h]
  exact(beq_eq_false_iff_ne.mpr e).symm
theorem HJ (a b:Str):decide ((Sum.inr a:dq)=Sum.inr b)=decide (a=b):=by
 by_cases e:a=b
 ·subst e;simp
 ·have h:¬(Sum.inr a:dq)=Sum.inr b:=λq=>e (Sum.inr.inj q)
  rw[decide_eq_false h,decide_eq_false e]
theorem HM (a:Int)(b:Str):decide ((Sum.inl a:dq)=Sum.inr b)=false:=decide_eq_false (λq=>nomatch q)
theorem IS (a:Str)(b:Int):decide ((Sum.inr a:dq)=Sum.inl b)=false:=decide_eq_false (λq=>nomatch q)
noncomputable def bG (prog:Program) (w:World):PySem.KeyKind prog w dq where
 is:=pd
 hash:=Mp w
 inj:=λv a b f d=>by
  rcases cR f with ⟨i,t,rfl,rfl⟩|⟨x,t,rfl,rfl⟩
  ·rcases cR d with ⟨j,u,rfl,e⟩|⟨y,u,rfl,e⟩
   ·injection e with e1 _;rw[e1]
   ·exact nomatch e
  ·rcases cR d with ⟨j,u,rfl,e⟩|⟨y,u,rfl,e⟩
   ·exact nomatch e
   ·injection e with e1 _;rw[e1]
 byValue:=λk v h=>by
  rcases cR h with ⟨i,t,rfl,rfl⟩|⟨x,t,rfl,rfl⟩<;>rfl
 pyHash:=λc h=>by
  rcases cR c with ⟨i,t,rfl,rfl⟩|⟨x,t,rfl,rfl⟩
  ·exact wpAny_pyHash_int h
  ·exact wpAny_pyHash_str h
 eqBool:=λg c h=>by
  rcases cR g with ⟨i,t,rfl,rfl⟩|⟨x,t,rfl,rfl⟩
  ·rcases cR c with ⟨j,u,rfl,rfl⟩|⟨y,u,rfl,rfl⟩
   ·rw[Im] at h;exact wpAny_eqBool_int h
   ·rw[HM] at h;exact SeqAt.EqAt.int_str i t y u _ _ _ _ h
  ·rcases cR c with ⟨j,u,rfl,rfl⟩|⟨y,u,rfl,rfl⟩
   ·rw[IS] at h;exact SeqAt.EqAt.str_int x t j u _ _ _ _ h
   ·rw[HJ] at h;exact wpAny_eqBool_str h
 «strs»:=λk x t v h=>by
  rcases cR h with ⟨i,u,rfl,e⟩|⟨y,u,rfl,e⟩
  ·exact nomatch e
  ·injection e with e1 _
   subst e1
   cases v<;>rfl
theorem tQ (prog:Program)(w:World)(i:Int)(t:Tok):(bG prog w).is (.inl i) (.int i t)=true:=zM i t
theorem tJ (prog:Program)(w:World)(x:Str)(t:Tok):(bG prog w).is (.inr x) (.str x t)=true:=yF x t
inductive V where
 |non|bl (b:Bool)|int (i:Int)|str (x:Str)|byt (b:Array UInt8)|flt (b:UInt64)|ref (a:Addr)|ty (n:String)
 deriving DecidableEq
noncomputable def bo:V->Value->Prop
 | .non,u=>u=Value.none
 | .bl b,u=>u=Value.bool b
 | .int i,u=>∃t,u=Value.int i t
 | .str x,u=>∃t,u=Value.str x t
 | .byt b,u=>∃t,u=Value.bytes b t
 | .flt b,u=>∃t,u=Value.float b t
 | .ref a,u=>u=Value.ref a
 | .ty n,u=>u=Value.type n
abbrev bH:List V->List Value->Prop:=Paired bo
theorem bH.length(r:bH xs us):xs.length=us.length:=Paired.length r
theorem A6 {c d:Type}{R:c->d->Prop}{as:List c}{bs:List d}(h:Paired R as bs):∀{i:Nat} {a:c},as[i]?=some a->∃b,bs[i]?=some b/\R a b:=by
 induction h with
 |nil=>intro i a e;simp at e
 |cons r t ih=>
  intro i a e
  cases i with
  |zero=>simp at e;subst e;exact⟨_,rfl,r⟩
  |succ i=>
   obtain⟨u,h1,h2⟩:=ih (i:=i) (a:=a) (by simpa using e)
   exact⟨u,by simpa using h1,h2⟩
theorem bH.get {xs:List V}{us:List Value}{i:Nat}{x:V}(h:bH xs us)(e:xs[i]?=some x):∃u,us[i]?=some u/\bo x u:=A6 h e
theorem bH.set {x:V}{u:Value}(r:bo x u){xs:List V}{us:List Value}(i:Nat)(h:bH xs us):bH (xs.set i x) (us.set i u):=by
 induction h generalizing i with
 |nil=>exact .nil
 |cons q t ih=>
  cases i with
  |zero=>exact .cons r t
  |succ i=>exact .cons q (ih i)
theorem jA {a b:Type}{F:a->b->Prop}{as bs:List a}{cs ds:List b}(h:Paired F as cs)(t:Paired F bs ds):Paired F (as++bs) (cs++ds):=by
 induction h with
 |nil=>exact t
 |cons h s ih=>exact .cons h ih
theorem bH.append(h:bH xs us)(t:bH ys ws):bH (xs++ys) (us++ws):=jA h t
theorem sG {a b:Type}{R:a->b->Prop}(k:Nat){as:List a}{bs:List b}(h:Paired R as bs):Paired R (as.take k) (bs.take k):=by
 induction h generalizing k with
 |nil=>rw[List.take_nil,List.take_nil];exact .nil
 |cons r t ih=>
  cases k with
  |zero=>exact .nil
  |succ k=>exact .cons r (ih k)
theorem bH.take {xs:List V}{us:List Value}(n:Nat)(h:bH xs us):bH (xs.take n) (us.take n):=sG n h
theorem uc {a b:Type}{R:a->b->Prop}(k:Nat){as:List a}{bs:List b}(h:Paired R as bs):Paired R (as.drop k) (bs.drop k):=by
 induction h generalizing k with
 |nil=>rw[List.drop_nil,List.drop_nil];exact .nil
 |cons r t ih=>
  cases k with
  |zero=>exact .cons r t
  |succ k=>exact ih k
theorem bH.drop {xs:List V}{us:List Value}(n:Nat)(h:bH xs us):bH (xs.drop n) (us.drop n):=uc n h
noncomputable def iP:Option V->Option Value->Prop
 |some v,some u=>bo v u
 |none,none=>True
 |_,_=>False
noncomputable def KV {a:Type}:List (a×V)->List (a×Value)->Prop:=Paired λ(p:a×V) (q:a×Value)=>p.1=q.1/\bo p.2 q.2
def kV:dq->V
 | .inl i=> .int i
 | .inr x=> .str x
inductive HO where
 |lst (xs:List V)
 |tup (xs:List V)
 |dK (kvs:List (dq×V))|dT (kvs:List (List dq×V))
 |set (S:Int->Bool) (n:Nat)
 |ins (C dx:Addr) (fs:List (Str×V))
 |own (x:Addr)
 |xd (fs:List (Str×V))
 |met (f x:Addr)
 |rng (lo hi:Int)
 |frz (o:Obj) (u:HO)
 |tbl (ps:Array Value)
 |ext (φ:Heap->Prop)
abbrev Hp:=Addr->Option HO
noncomputable def upd (H:Hp) (a:Addr) (o:HO):Hp:=λb=>if b=a then some o else H b
theorem ah:upd H a o a=some o:=by unfold upd;rw[if_pos rfl]
theorem ay(h:b≠a):upd H a o b=H b:=by unfold upd;rw[if_neg h]
theorem eo:upd (upd H a o) a u=upd H a u:=by
 funext b;unfold upd;split<;>rfl
theorem lO {H:Hp}{a b:Addr}{o u:HO}(h:H a=some o)(h':H b=some u)(d:o≠u):a≠b:=by
 intro e;subst e;rw[h] at h';exact d (Option.some.inj h')
theorem aD {H:Hp}{a b:Addr}{o:HO}(h:H a=some o)(h':H b=none):a≠b:=by
 intro e;subst e;rw[h] at h';cases h'
section
variable (P:Program) (w:World)
noncomputable def cg (H:Hp) (h:Heap) (a:Addr):HO->Prop
 | .lst xs=>xs.length<=sizeLine/\∃(b:List Value) (n:Nat),bH xs b/\h.get? a=some {cls:=.type "list",data:=.seq b.toArray n}
 | .tup xs=>xs.length<=sizeLine/\∃b:List Value,bH xs b/\IsTup h a b.toArray
 | .dK kvs=>kvs.length<=sizeLine/\(a==sysModules)=false/\∃vs,KV kvs vs/\h.DictOf (bG P w) a vs
 | .dT kvs=>kvs.length<=sizeLine/\(a==sysModules)=false/\∃xs:List (List dq×Addr×Value),
   Paired (λ(p:List dq×V) (q:List dq×Addr×Value)=>p.1=q.1/\H q.2.1=some (.tup (p.1.map kV))/\bo p.2 q.2.2) kvs xs/\
   ∃o es ep,h.get? a=some o/\o.ExactDict/\o.data=.dict es ep/\es.toList=xs.map (entryOfKey (tupleKind (bG P w)))/\(xs.map (·.1)).Nodup
 | .set S n=>h.SetOf (intKind P w) a S n
 | .ins C dx fs=>H dx=some (.own a)/\fs.length<=1000/\dx≠a/\h.get? a=some (Pc C dx)/\
   ∃mA,h.Ns1 dx mA/\(∀f,iP (fs.lookup f) (mA f))/\PySem.Within mA (fs.map (·.1))
 | .own _=>∃o,h.get? a=some o
 | .xd fs=>∃mA,h.Ns1 a mA/\∀f,iP (fs.lookup f) (mA f)
 | .rng lo hi=>∃t u v,h.get? a=some {cls:=.type "range",data:=.fields #[.int lo t,.int hi u,.int 1 v]}
 | .frz o u=>h.get? a=some o/\cg H h a u
 | .tbl ps=>h.get? a=some {cls:=.none,data:=.fields ps}
 | .met f x=>h.get? a=some (PySem.W.methodObj (.ref f) (.ref x))
 | .ext φ=>φ h/\(∃o,h.get? a=some o)/\∀h1 h2:Heap,φ h1->(∀o,h1.get? a=some o->h2.get? a=some o)->φ h2
def iy (H:Hp) (h:Heap):Prop:=∀a o,H a=some o->cg P w H h a o
end
section
variable {P:Program} {w:World} {H H':Hp} {h h':Heap} {a:Addr} {o:HO}
theorem cg.lt (x:cg P w H h a o):a<h.objs.size:=by
 cases o with
 |lst xs=>obtain⟨_,_,_,_,e⟩:=x;exact NO e
 |tup xs=>obtain⟨_,_,_,p⟩:=x;exact p.lt
 |dK kvs=>obtain⟨_,_,_,_,o,_,_,e,_⟩:=x;exact NO e
 |dT kvs=>obtain⟨_,_,_,_,o,_,_,e,_⟩:=x;exact NO e
 |set S n=>obtain⟨o,_,_,_,e,_⟩:=x;exact NO e
 |ins C dx fs=>obtain⟨_,_,_,e,_⟩:=x;exact NO e
 |own y=>obtain⟨_,e⟩:=x;exact NO e
 |xd fs=>obtain⟨_,⟨_,_,_,e,_⟩,_⟩:=x;exact NO e
 |rng lo hi=>obtain⟨_,_,_,e⟩:=x;exact NO e
 |frz ob u=>obtain⟨e,_⟩:=x;exact NO e
 |tbl ps=>exact NO (show h.get? a=some _ from x)
 |met f y=>exact NO (show h.get? a=some _ from x)
 |ext φ=>obtain⟨_,⟨_,e⟩,_⟩:=x;exact NO e
theorem Paired.mapP {d e:Type}{F G:d->e->Prop}{c:List d}{l₂:List e}(h:Paired F c l₂)(f:∀a b,F a b->G a b):Paired G c l₂:=by
 induction h with
 |nil=>exact .nil
 |cons r t ih=>exact .cons (f _ _ r) ih
theorem cg.stay (x:cg P w H h a o)(k:∀b u,(b=a\/H b=some (.own a))->h.get? b=some u->h'.get? b=some u)
  (m:∀b,H b=some (.own a)->H' b=some (.own a)) (s:∀b xs,H b=some (.tup xs)->H' b=some (.tup xs)):cg P w H' h' a o:=by
 induction o with
 |lst xs=>obtain⟨z,g,n,r,e⟩:=x;exact⟨z,g,n,r,k _ _ (.inl rfl) e⟩
 |tup xs=>obtain⟨z,g,r,i,e,c⟩:=x;exact⟨z,g,r,i,k _ _ (.inl rfl) e,c⟩
 |dK kvs=>obtain⟨z,y,vs,r,i,es,ep,e,c⟩:=x;exact⟨z,y,vs,r,i,es,ep,k _ _ (.inl rfl) e,c⟩
 |dT kvs=>
  obtain⟨z,y,xs,r,i,es,ep,e,c⟩:=x
  exact⟨z,y,xs,Paired.mapP r λp q z=>⟨z.1,s _ _ z.2.1,z.2.2⟩,i,es,ep,k _ _ (.inl rfl) e,c⟩
 |set S n=>obtain⟨i,es,ep,t,e,c⟩:=x;exact⟨i,es,ep,t,k _ _ (.inl rfl) e,c⟩
 |ins C dx fs=>
  obtain⟨d,z,A,e,mA,⟨j,es,ep,l,c⟩,r⟩:=x
  exact⟨m _ d,z,A,k _ _ (.inl rfl) e,mA,⟨j,es,ep,k _ _ (.inr d) l,c⟩,r⟩
 |own y=>obtain⟨i,e⟩:=x;exact⟨i,k _ _ (.inl rfl) e⟩
 |xd fs=>obtain⟨mA,⟨j,es,ep,e,c⟩,r⟩:=x;exact⟨mA,⟨j,es,ep,k _ _ (.inl rfl) e,c⟩,r⟩
 |rng lo hi=>obtain⟨t,u,v,e⟩:=x;exact⟨t,u,v,k _ _ (.inl rfl) e⟩
 |frz i u ih=>obtain⟨e,q⟩:=x;exact⟨k _ _ (.inl rfl) e,ih q⟩
 |tbl ps=>
  have e:h.get? a=some {cls:=.none,data:=.fields ps}:=x
  exact k a _ (.inl rfl) e
 |met f y=>
  have e:h.get? a=some (PySem.W.methodObj (.ref f) (.ref y)):=x
  exact k a _ (.inl rfl) e
 |ext φ=>obtain⟨p,⟨o,e⟩,st⟩:=x;exact⟨st _ _ p λo q=>k _ _ (.inl rfl) q,⟨o,k _ _ (.inl rfl) e⟩,st⟩
theorem iy.lt (x:iy P w H h)(e:H a=some o):a<h.objs.size:=(x a o e).lt
theorem iy.fresh (x:iy P w H h)(e:h.objs.size<=a):H a=none:=by
 cases q:H a with
 |none=>rfl
 |some u=>exact absurd (Oc (x.lt q) e) (OP _)
theorem iy.kept (x:iy P w H h)(k:∀b u,h.get? b=some u->h'.get? b=some u):iy P w H h':=λa o e=>
 (x a o e).stay (λb u _ q=>k b u q) (λ_ q=>q) λ_ _ q=>q
theorem iy.laid (x:iy P w H h)(k:∀b u,h.get? b=some u->h'.get? b=some u)(g:h.objs.size<=a)(d:cg P w (upd H a o) h' a o):iy P w (upd H a o) h':=λb u e=>by
 have f:=x.fresh g
 by_cases hb:b=a
 ·subst hb;rw[ah] at e;cases e;exact d
 ·rw[ay hb] at e
  exact(x b u e).stay (λc v _ q=>k c v q) (λc q=>by rw[ay (aD q f)];exact q) λc xs q=>by rw[ay (aD q f)];exact q
end
def Rd (H:Hp) (a:Addr) (u:HO):Prop:=H a=some u\/∃o,H a=some (.frz o u)
theorem Rd.ok(r:Rd H a u)(x:iy P w H h):cg P w H h a u:=by
 rcases r with r|⟨o,r⟩
 ·exact x a u r
 ·obtain⟨_,q⟩:=x a _ r
  exact q
noncomputable def Er:Option HO->Prop
 |some (.lst _)=>True
 |some (.dK _)=>True
 |some (.dT _)=>True
 |some (.set _ _)=>True
 |some (.ins _ _ _)=>True
 |some (.ext _)=>True
 |_=>False
section
variable {P:Program} {w:World} {H:Hp} {h h':Heap} {x e:Addr} {o':HO}
theorem iy.write (ok:iy P w H h)(f:Er (H x))(l:e=x\/H e=some (.own x))(k:∀b u,b≠e->h.get? b=some u->h'.get? b=some u)(i:∃u,h'.get? e=some u)
  (g:cg P w (upd H x o') h' x o'):iy P w (upd H x o') h':=λb u q=>by
 have a:∀c y,H c=some (.own y)->c≠x:=λc y r z=>by subst z;rw[r] at f;exact f
 have d:∀c xs,H c=some (.tup xs)->c≠x:=λc xs r z=>by subst z;rw[r] at f;exact f
 by_cases hb:b=x
 ·subst hb;rw[ah] at q;cases q;exact g
 ·rw[ay hb] at q
  by_cases hbe:b=e
  ·have j:H b=some (.own x):=by
    rcases l with z|z
    ·exact absurd (hbe.trans z) hb
    ·rw[hbe];exact z
   rw[q] at j;cases j
   obtain⟨v,m⟩:=i
   exact⟨v,by rw[hbe];exact m⟩
  ·refine(ok b u q).stay (λc v hc r=>k c v ?_ r) (λc r=>by rw[ay (a c b r)];exact r) λc xs r=>by rw[ay (d c xs r)];exact r
   rcases hc with rfl|hc
   ·exact hbe
   ·rintro rfl
    rcases l with z|z
    ·exact a c b hc z
    ·rw[hc] at z;cases z;exact hb rfl
end
structure Un (fs ex:List Addr) (H H':Hp) (h h':Heap):Prop where
 keep:∀b o,h.get? b=some o->H b=none->b∉fs->b∉ex->h'.get? b=some o
 slot:∀b o,h.get? b=some o->H b=none->b∈fs->b∉ex->∃sl,h'.get? b=some {o with slots:=sl}
 free:∀b o,h.get? b=some o->H b=none->b∉ex->H' b=none
 there:∀b o,h.get? b=some o->b∉ex->∃o',h'.get? b=some o'
 tups:∀b xs,H b=some (.tup xs)->H' b=some (.tup xs)
 frzs:∀b o u,H b=some (.frz o u)->H' b=some (.frz o u)
 tbls:∀b ps,H b=some (.tbl ps)->∃more,H' b=some (.tbl (ps++more))
section
variable {fs fs' ex ex':List Addr} {H H1 H2:Hp} {h h1 h2 h':Heap} {a x e:Addr} {o:HO}
theorem Un.any (u:Un fs ex H H1 h h1){b:Addr}{a:Obj}(q:h.get? b=some a)(n:H b=none)(hx:b∉ex):∃c,h1.get? b=some {a with slots:=c}:=by
 by_cases hb:b∈fs
 ·exact u.slot b a q n hb hx
 ·exact⟨a.slots,u.keep b a q n hb hx⟩
theorem Un.kept (k:∀b u,h.get? b=some u->h'.get? b=some u):Un fs ex H H h h':=
 ⟨λb a q _ _ _=>k b a q,λb a q _ _ _=>⟨a.slots,k b a q⟩,λ_ _ _ n _=>n,λb a q _=>⟨a,k b a q⟩,λ_ _ q=>q,λ_ _ _ q=>q,λ_ ps q=>⟨#[],by rw[q];simp⟩⟩
theorem Un.refl:Un fs ex H H h h:=Un.kept λ_ _ q=>q
theorem Un.laid (k:∀b u,h.get? b=some u->h'.get? b=some u)(d:h.objs.size<=a)(c:H a=none):Un fs ex H (upd H a o) h h' where
 keep:=λb u q _ _ _=>k b u q
 slot:=λb u q _ _ _=>⟨u.slots,k b u q⟩
 free:=λb u q n _=>by rw[ay (NS (Oc (NO q) d))];exact n
 there:=λb u q _=>⟨u,k b u q⟩
 tups:=λb xs q=>by rw[ay (aD q c)];exact q
 frzs:=λb u xs q=>by rw[ay (aD q c)];exact q
 tbls:=λb ps q=>⟨#[],by rw[ay (aD q c),q];simp⟩
theorem Un.write (a:Er (H x))(i:e=x\/H e=some (.own x))(k:∀b u,b≠e->h.get? b=some u->h'.get? b=some u)(d:∃u,h'.get? e=some u):Un fs ex H (upd H x o) h h':=by
 have f:∀b,H b=none->b≠x:=λb n z=>by subst z;rw[n] at a;exact a
 have g:∀b,H b=none->b≠e:=λb n z=>by
  subst z
  rcases i with r|r
  ·exact f b n r
  ·rw[n] at r;cases r
 have c:∀b u,H b=some u->¬Er (some u)->b≠x:=λb u q nm z=>by subst z;rw[q] at a;exact nm a
 refine⟨λb u q n _ _=>k b u (g b n) q,λb u q n _ _=>⟨u.slots,k b u (g b n) q⟩,λb u q n _=>by rw[ay (f b n)];exact n,λb u q _=>?_,
  λb xs q=>by rw[ay (c b _ q λz=>z)];exact q,λb u xs q=>by rw[ay (c b _ q λz=>z)];exact q,λb ps q=>⟨#[],by rw[ay (c b _ q λz=>z),q];simp⟩⟩
 by_cases hbe:b=e
 ·subst hbe;exact d
 ·exact⟨u,k b u hbe q⟩
end
noncomputable def uy (h:Heap) (H:Hp):List Addr:=(List.range h.objs.size).filter λa=>(H a).isSome
def rE (h:Heap) (H:Hp):Heap:=PQ h (uy h H)
theorem zK (h:Heap)(H:Hp):(rE h H).objs.size=h.objs.size:=PySem.W.hideAll_size _ _
theorem DV(e:h.get? b=some o)(n:H b=none):(rE h H).get? b=some o:=
 PySem.W.hideAll_get _ e λa=>by
  have q:(H b).isSome=true:=(Pd.mp a).2
  rw[n] at q;simp at q
theorem E8(e:(rE h H).get? b=some o):h.get? b=some o/\H b=none:=by
 have a:h.get? b=some o:=PySem.W.of_hideAll (uy h H) e
 refine⟨a,?_⟩
 cases q:H b with
 |none=>rfl
 |some x=>
  have c:b∈uy h H:=Pd.mpr ⟨PR.mpr (NO a),by simp[q]⟩
  have z:(rE h H).get? b=none:=PySem.W.hideAll_none (uy h H) c
  rw[z] at e;cases e
noncomputable def iS (g h:Heap) (L:Addr):List (Addr×Obj):=(List.range h.objs.size).filterMap λa=>if a=L\/(g.get? a).isSome=true then none else (h.get? a).map λo=>(a,o)
theorem lI{L:Addr}(h1:a≠L)(c:g.get? a=none)(b:h.get? a=some o):(a,o)∈iS g h L:=
 Oy.mpr ⟨a,PR.mpr (NO b),by simp[h1,c,b]⟩
set_option tactic.hygienic true in
theorem nZ{L:Addr}{p:Addr×Obj}(a:p∈iS g h L):p.1≠L/\g.get? p.1=none/\h.get? p.1=some p.2:=by
 obtain⟨b,_,e⟩:=Oy.mp a
 split at e
 ·cases e
 ·rename_i hn
  cases q:h.get? b with
  |none=>rw[q] at e;simp at e
  |some u=>
   rw[q] at e
   simp only[PU,Option.some.injEq] at e
   subst e
   refine⟨λz=>hn (.inl z),?_,q⟩
   cases r:g.get? b with
   |none=>rfl
   |some v=>exact(hn (.inr (by simp[r]))).elim
noncomputable def rest (g h:Heap) (L d:Addr):List (Addr×Obj):=(iS g h L).filter λp=>decide (p.1≠d)
theorem rZ{L:Addr}:News g L h (iS g h L):=λp d=>let ⟨a,b,c⟩:=nZ d;⟨c,a,b⟩
structure Mod (K:NJ) (mg:Str->Option Value) (base:Heap):Prop where
 kin:K.In base
 glob:base.Ns mainGlobals mg
 blt:∃mb,base.Ns builtinsNs mb/\∀x:Str,x≠ "__name__" ->mb x=bootBuiltins x
 nolimit:base.NoLimit
structure Cx where
 prog:Program
 w:World
 K:NJ
 mg:Str->Option Value
 base:Heap
 A:Around
 N:List Str
 s₀:Shared
 H₀:Hp
 env:Env
 outer:List Env
 stack:List Env
 ex:List Addr
 fn:Str->Bool
 calm:Bool
 pn:List (Addr×Obj)
 xe:Value->Shared->Prop
def frs (l:List Env):List Addr:=l.filterMap (·.frame)
abbrev Cx.fs (X:Cx):List Addr:=frs X.outer
def MX (a:Scope) (x:Str):Prop:=a.names.lookup x=some .local\/a.names.lookup x=some .cell\/a.names.lookup x=some .free
def JO (a:Scope) (x:Str):Prop:=a.names.lookup x=some .local\/a.names.lookup x=some .cell
def MG (env:Env) (h:Heap) (m:Str->Option Value) (x:Str) (u:Value):Prop:=
 (env.kindOf x=some .local/\m x=some u)\/((env.kindOf x=some .cell\/env.kindOf x=some .free)/\∃c,env.cells.lookup x=some c/\h.IsCell c (some u))
structure Cx.Ok (X:Cx):Prop where
 mod:Mod X.K X.mg X.base
 kind:X.env.scope.kind=.function
 glob:X.env.globals=mainGlobals
 blt:X.env.builtins=builtinsNs
 above:X.s₀.heap.objs.size<=X.env.locals
 inj:∀x y c,X.env.cells.lookup x=some c->X.env.cells.lookup y=some c->x=y
 has:∀x,(X.env.kindOf x=some .cell\/X.env.kindOf x=some .free)->∃c,X.env.cells.lookup x=some c
 cab:∀x c,X.fn x=true->X.env.cells.lookup x=some c->X.s₀.heap.objs.size<=c
 hd:X.calm=true->X.A.handled=none
 frames:X.A.frames=some X.stack
 stk:X.stack=X.outer\/(X.stack=X.env::X.outer/\X.env.frame=some X.env.locals)
 exf:∀b∈X.ex,b≠X.env.locals/\∀x c,X.env.cells.lookup x=some c->c≠b
 bs:∀b o,X.base.get? b=some o->X.s₀.heap.get? b=some o/\X.H₀ b=none
 bsz:X.base.objs.size<=X.s₀.heap.objs.size
 noex:∀b o,X.base.get? b=some o->b∉X.ex
 exfs:∀b∈X.ex,b∉X.fs
 funs:X.s₀.heap.FunFrames X.base X.outer
 frf:∀b∈X.fs,X.H₀ b=none
structure aM (X:Cx) (pins:List (Addr×Obj)) (σ:List (Option V)) (H:Hp) (s:Shared):Prop where
 ok:X.Ok
 os:s.os=X.s₀.os
 bare:AllBare s.gens
 base:Un X.fs X.ex X.H₀ H X.s₀.heap s.heap
 loc:∃m,s.heap.Ns X.env.locals m/\∀(i:Nat) (x:Str) (v:V),X.N[i]?=some x->σ[i]?=some (some v)->MX X.env.scope x->∃u,bo v u/\MG X.env s.heap m x u
 cell:∀x c,X.env.cells.lookup x=some c->∃v,s.heap.IsCell c v
 free:H X.env.locals=none
 freeC:∀x c,X.env.cells.lookup x=some c->H c=none
 pin:∀p∈X.pn++pins,s.heap.get? p.1=some p.2/\H p.1=none/\p.1≠X.env.locals/\p.1∉X.fs/\∀v,p.2.data≠.cell v
 hok:iy X.prog X.w H s.heap
 len:σ.length=X.N.length
section
variable {X:Cx} {pins:List (Addr×Obj)} {σ:List (Option V)} {H H':Hp} {s:Shared} {h':Heap}
theorem Cx.Ok.nofr (ok:X.Ok){b:Addr}{o:Obj}(e:X.base.get? b=some o):b∉X.fs:=λa=>by
 have:=(ok.funs.mem a).1
 rw[e] at this;cases this
theorem aM.bs (I:aM X pins σ H s):∀b o,X.base.get? b=some o->s.heap.get? b=some o/\H b=none:=λb o e=>
 ⟨I.base.keep b o (I.ok.bs b o e).1 (I.ok.bs b o e).2 (I.ok.nofr e) (I.ok.noex b o e),I.base.free b o (I.ok.bs b o e).1 (I.ok.bs b o e).2 (I.ok.noex b o e)⟩
theorem aM.bk (I:aM X pins σ H s):∀b o,X.base.get? b=some o->s.heap.get? b=some o:=λb o e=>(I.bs b o e).1
theorem aM.mod (I:aM X pins σ H s):Mod X.K X.mg X.base:=I.ok.mod
theorem aM.kIn (I:aM X pins σ H s):X.K.In s.heap:=I.ok.mod.kin.keeps I.bk
theorem aM.lt (I:aM X pins σ H s):X.env.locals<s.heap.objs.size:=let ⟨_,hn,_⟩:=I.loc;hn.lt
theorem aM.sz (I:aM X pins σ H s):X.s₀.heap.objs.size<=s.heap.objs.size:=NP I.ok.above (Py I.lt)
theorem aM.nofs (I:aM X pins σ H s){a:Addr}(h:s.heap.objs.size<=a):a∉X.fs:=λb=>by
 obtain⟨_,o,c,_⟩:=I.ok.funs.mem b
 exact absurd (Oc (NO c) (NP I.sz h)) (OP _)
theorem aM.cne (I:aM X pins σ H s):∀x c,X.env.cells.lookup x=some c->c≠X.env.locals:=λx c e z=>by
 obtain⟨v,o,f,d⟩:=I.cell x c e
 obtain⟨m,⟨o',es,ep,b,a,_⟩,_⟩:=I.loc
 rw[z,b] at f;cases f;rw[a] at d;cases d
theorem aM.funs (I:aM X pins σ H s):s.heap.FunFrames X.base X.outer:=by
 have all:∀(l:List Env),(∀b∈frs l,b∈X.fs)->X.s₀.heap.FunFrames X.base l->s.heap.FunFrames X.base l:=by
  intro l
  induction l with
  |nil=>intro _ _;trivial
  |cons env r ih=>
   intro f h
   obtain⟨m,⟨L,o,a,g,j,n⟩,i⟩:=h
   have c:L∈X.fs:=f L (by unfold frs;rw[OB,a];exact N7)
   obtain⟨p,e⟩:=I.base.slot L o j (I.ok.frf L c) c λz=>I.ok.exfs L z c
   exact⟨m,⟨L,_,a,g,e,n⟩,ih (λb d=>f b (by unfold frs;rw[OB,a];exact NV _ d)) i⟩
 exact all X.outer (λ_ d=>d) I.ok.funs
theorem aM.stack (I:aM X pins σ H s):s.heap.FunFrames X.base X.stack:=by
 rcases I.ok.stk with e|⟨e,b⟩
 ·rw[e];exact I.funs
 ·rw[e]
  obtain⟨m,a,_⟩:=I.loc
  refine .cons (by rw[I.ok.kind];decide) b a ?_ I.funs
  exact O6 (NP I.ok.bsz I.ok.above)
theorem aM.stkSub (I:aM X pins σ H s):∀b∈frs X.stack,b∈X.env.locals::X.fs:=λb a=>by
 rcases I.ok.stk with e|⟨e,c⟩
 ·rw[e] at a;exact NV _ a
 ·rw[e] at a
  unfold frs at a
  rw[OB,c] at a
  exact a
theorem aM.stkFree (I:aM X pins σ H s):∀b∈frs X.stack,H b=none:=λb hb=>by
 rcases NK.mp (I.stkSub b hb) with e|hb
 ·rw[e];exact I.free
 ·obtain⟨_,o,a,_⟩:=I.ok.funs.mem hb
  exact I.base.free b o a (I.ok.frf b hb) λz=>I.ok.exfs b z hb
theorem aM.step {g':Array GenState}{t':Nat}{d':Drawn}{ch:List Addr}(I:aM X pins σ H s)
  (A:∀b∈ch,(b∈X.ex\/X.s₀.heap.objs.size<=b)/\b≠X.env.locals/\(∀x c,X.env.cells.lookup x=some c->c≠b)/\∀p∈X.pn++pins,p.1≠b)
  (B:∀b o,b≠X.env.locals->b∉X.fs->b∉ch->s.heap.get? b=some o->H b=none->h'.get? b=some o)
  (D:∀b o,b≠X.env.locals->b∈X.fs->b∉ch->s.heap.get? b=some o->H b=none->∃O,h'.get? b=some {o with slots:=O}) (free:∀b o,b∉ch->s.heap.get? b=some o->H b=none->H' b=none)
  (there:∀b o,b∉ch->s.heap.get? b=some o->∃o',h'.get? b=some o')
  (tups:∀b xs,H b=some (.tup xs)->H' b=some (.tup xs)) (K:∀b o u,H b=some (.frz o u)->H' b=some (.frz o u)) (J:∀b ps,H b=some (.tbl ps)->∃more,H' b=some (.tbl (ps++more)))
  (ns:∀m,s.heap.Ns X.env.locals m->h'.Ns X.env.locals m) (M:iy X.prog X.w H' h') (Y:AllBare g'):
  aM X pins σ H' {s with heap:=h',gens:=g',drawn:=d',toks:=t'}:=by
 have h:∀b o,X.s₀.heap.get? b=some o->b≠X.env.locals:=λb o e=>NS (Oc (NO e) I.ok.above)
 have f:∀b o,X.s₀.heap.get? b=some o->b∉X.ex->b∉ch:=λb o e y E=>by
  rcases(A b E).1 with z|z
  ·exact y z
  ·exact absurd (Oc (NO e) z) (OP _)
 have g:∀x c,X.env.cells.lookup x=some c->∀v,s.heap.IsCell c v->h'.IsCell c v:=λx c e v ⟨o,F,N⟩=>by
  have a:c∉ch:=λz=>(A c z).2.2.1 x c e rfl
  by_cases hc:c∈X.fs
  ·obtain⟨O,q⟩:=D c o (I.cne x c e) hc a F (I.freeC x c e)
   exact⟨_,q,N⟩
  ·exact⟨o,B c o (I.cne x c e) hc a F (I.freeC x c e),N⟩
 refine⟨I.ok,I.os,Y,⟨λb o e n E y=>?_,λb o e n E y=>?_,λb o e n y=>?_,λb o e y=>?_,λb xs e=>tups b xs (I.base.tups b xs e),λb o xs e=>K b o xs (I.base.frzs b o xs e),λb ps e=>?_⟩,?_,λx c e=>?_,?_,λx c e=>?_,λp Q=>?_,M,I.len⟩
 ·exact B b o (h b o e) E (f b o e y) (I.base.keep b o e n E y) (I.base.free b o e n y)
 ·obtain⟨O,C⟩:=I.base.slot b o e n E y
  obtain⟨j,G⟩:=D b _ (h b o e) E (f b o e y) C (I.base.free b o e n y)
  exact⟨j,G⟩
 ·obtain⟨o',C⟩:=I.base.there b o e y
  exact free b o' (f b o e y) C (I.base.free b o e n y)
 ·obtain⟨o',C⟩:=I.base.there b o e y
  exact there b o' (f b o e y) C
 ·obtain⟨T,C⟩:=I.base.tbls b ps e
  obtain⟨Z,G⟩:=J b _ C
  exact⟨T++Z,by rw[G,Array.append_assoc]⟩
 ·obtain⟨m,W,S⟩:=I.loc
  refine⟨m,ns m W,λi x v C G U=>?_⟩
  obtain⟨u,r,l⟩:=S i x v C G U
  refine⟨u,r,?_⟩
  rcases l with l|⟨k,c,e,z⟩
  ·exact .inl l
  ·exact .inr ⟨k,c,e,g x c e _ z⟩
 ·obtain⟨v,z⟩:=I.cell x c e
  exact⟨v,g x c e v z⟩
 ·obtain⟨m,⟨o,_,_,F,_⟩,_⟩:=I.loc
  exact free _ o (λz=>(A _ z).2.1 rfl) F I.free
 ·obtain⟨v,o,F,N⟩:=I.cell x c e
  exact free c o (λz=>(A c z).2.2.1 x c e rfl) F (I.freeC x c e)
 ·obtain⟨e,n,R,P,d⟩:=I.pin p Q
  have a:p.1∉ch:=λz=>(A p.1 z).2.2.2 p Q rfl
  exact⟨B p.1 p.2 R P a e n,free p.1 p.2 a e n,R,P,d⟩
theorem aM.un(I:aM X pins σ H s)(u:Un X.fs [] H H' s.heap h')(f:iy X.prog X.w H' h'):aM X pins σ H' {s with heap:=h',toks:=t'}:=by
 obtain⟨m,⟨o,es,ep,h,r⟩,_⟩:=id I.loc
 obtain⟨q,j⟩:=u.any h I.free (by simp)
 exact I.step (g':=s.gens) (d':=s.drawn) (ch:=[]) (λ_ z=>nomatch z) (λb o _ g _ e n=>u.keep b o e n g (by simp)) (λb o _ g _ e n=>u.slot b o e n g (by simp)) (λb o _ e n=>u.free b o e n (by simp)) (λb o _ e=>u.there b o e (by simp)) u.tups u.frzs u.tbls (λp i=>by
  obtain⟨o',d,c,a,l⟩:=i
  rw[h] at a;cases a
  exact⟨_,d,c,j,l⟩) f I.bare
theorem aM.call {g':Array GenState}{d':Drawn}(I:aM X pins σ H s)(u:Un (frs X.stack) ch H H' s.heap h')(i:iy X.prog X.w H' h')(v:AllBare g')
  (h:∀b∈ch,(b∈X.ex\/X.s₀.heap.objs.size<=b)/\b≠X.env.locals/\(∀x c,X.env.cells.lookup x=some c->c≠b)/\∀p∈X.pn++pins,p.1≠b):
  aM X pins σ H' {s with heap:=h',gens:=g',drawn:=d',toks:=t'}:=by
 obtain⟨m,⟨o,es,ep,l,r⟩,_⟩:=id I.loc
 obtain⟨C,j⟩:=u.any l I.free λz=>(h _ z).2.1 rfl
 exact I.step (ch:=ch) h (λb o j y g e n=>u.keep b o e n (λz=>(NK.mp (I.stkSub b z)).elim j y) g) (λb o _ _ g e n=>u.any e n g) (λb o g e n=>u.free b o e n g) (λb o g e=>u.there b o e g) u.tups u.frzs u.tbls (λB q=>by
  obtain⟨o',f,d,a,A⟩:=q
  rw[l] at a;cases a
  exact⟨_,f,d,j,A⟩) i v
theorem aM.turned{it:Addr}(I:aM X pins σ H s)(k:∀b o,b≠it->s.heap.get? b=some o->h'.get? b=some o)(g:H it=none)(f:it≠X.env.locals)
  (h1:it∈X.ex\/X.s₀.heap.objs.size<=it) (w:∀x c,X.env.cells.lookup x=some c->c≠it) (j:∀p∈X.pn++pins,p.1≠it):aM X pins σ H {s with heap:=h',toks:=t'}:=by
 have a:∀b u,H b=some u->b≠it:=λb u e z=>by rw[z,g] at e;cases e
 refine I.step (g':=s.gens) (d':=s.drawn) (ch:=[it]) (λb l=>?_) (λb o _ _ d e _=>k b o (λz=>d (by simp[z])) e) (λb o _ _ d e _=>⟨o.slots,k b o (λz=>d (by simp[z])) e⟩) (λ_ _ _ _ n=>n)
  (λb o d e=>⟨o,k b o (λz=>d (by simp[z])) e⟩) (λ_ _ e=>e) (λ_ _ _ e=>e) (λb ps e=>⟨#[],by rw[e];simp⟩) (λm h=>?_) (λb u e=>?_) I.bare
 ·have e:b=it:=by simpa using l
  subst e
  exact⟨h1,f,w,j⟩
 ·obtain⟨o,es,ep,i,r⟩:=h
  exact⟨o,es,ep,k _ o (N6 f) i,r⟩
 ·refine(I.hok b u e).stay (λc v d q=>k c v ?_ q) (λ_ q=>q) λ_ _ q=>q
  rcases d with z|z
  ·rw[z];exact a b u e
  ·exact a c _ z
theorem aM.tok (I:aM X pins σ H s)(t:Nat):aM X pins σ H {s with toks:=t}:=I.un (h':=s.heap) (t':=t) Un.refl I.hok
theorem aM.kept(I:aM X pins σ H s)(k:∀b u,s.heap.get? b=some u->h'.get? b=some u):aM X pins σ H {s with heap:=h',toks:=t'}:=I.un (Un.kept k) (I.hok.kept k)
theorem aM.laid(I:aM X pins σ H s)(k:∀b u,s.heap.get? b=some u->h'.get? b=some u)(c:s.heap.objs.size<=a)(d:cg X.prog X.w (upd H a o) h' a o):
  aM X pins σ (upd H a o) {s with heap:=h',toks:=t'}:=I.un (Un.laid k c (I.hok.fresh c)) (I.hok.laid k c d)
theorem aM.write(I:aM X pins σ H s)(d:Er (H x))(f:e=x\/H e=some (.own x))(k:∀b u,b≠e->s.heap.get? b=some u->h'.get? b=some u)(a:∃u,h'.get? e=some u)
  (c:cg X.prog X.w (upd H x o) h' x o):aM X pins σ (upd H x o) {s with heap:=h',toks:=t'}:=I.un (Un.write d f k a) (I.hok.write d f k a c)
theorem aM.pins_of {a:List (Addr×Obj)}(I:aM X pins σ H s)(h:∀p∈a,s.heap.get? p.1=some p.2/\H p.1=none/\p.1≠X.env.locals/\p.1∉X.fs/\∀v,p.2.data≠.cell v):aM X a σ H s:=
 ⟨I.ok,I.os,I.bare,I.base,I.loc,I.cell,I.free,I.freeC,λp b=>(Ot.mp b).elim (λz=>I.pin p (Ou _ z)) (h p),I.hok,I.len⟩
theorem m7 {N:List Str}(d:N.Nodup){i j:Nat}{x:Str}(a:N[i]?=some x)(b:N[j]?=some x):i=j:=by
 obtain⟨h1,c⟩:=Ov.mp a
 obtain⟨h2,e⟩:=Ov.mp b
 exact(List.getElem_inj d).mp (c.trans e.symm)
theorem qa{Q:Unit->Shared->Prop}(I:aM X pins σ H s)(hN:X.N.Nodup)(hi:X.N[i]?=some x)(hx:JO X.env.scope x)(r:bo v u)
  (h:∀s',aM X pins (σ.set i (some v)) H s'->(∃a,Heap.SameBut a s.heap s'.heap/\(a=X.env.locals\/X.env.cells.lookup x=some a))->Q () s') (hf:X.fn x=true\/X.env.scope.names.lookup x=some .local):wpAny M A (storeName X.env x u) Q E s:=by
 obtain⟨m,hn,hl⟩:=id I.loc
 have D:(X.env.scope.kind==.class||(X.env.scope.kind==.module&&X.env.locals !=X.env.globals))=false:=by rw[I.ok.kind];rfl
 have w:i<σ.length:=by rw[I.len];exact(Ov.mp hi).1
 have cne:=I.cne
 have f:∀{a:Addr} {h':Heap},(∃o,s.heap.get? a=some o/\H a=none)->Heap.SameBut a s.heap h'->iy X.prog X.w H h':=fun{a h'} ha G b ob e=>by
  obtain⟨_,_,g⟩:=ha
  refine(I.hok b ob e).stay (λc S hc q=>(G.2 c ?_).trans q) (λ_ q=>q) λ_ _ q=>q
  rintro rfl
  rcases hc with rfl|hc
  ·rw[g] at e;cases e
  ·rw[g] at hc;cases hc
 rcases hx with hk|hk
 ·refine wpAny_storeName_local hk hn (λh' Z G=>?_) D
  obtain⟨oL,_,_,F,_⟩:=id hn
  refine h _ ⟨I.ok,I.os,I.bare,⟨λb o e n O hx=>?_,λb o e n O hx=>?_,I.base.free,λb o e hx=>?_,I.base.tups,I.base.frzs,I.base.tbls⟩,⟨_,Z,λj y v' J K e3=>?_⟩,λy c e=>?_,I.free,I.freeC,λp W=>?_,f ⟨oL,F,I.free⟩ G,by simpa using I.len⟩ ⟨_,G,.inl rfl⟩
  ·exact(G.2 b (NS (Oc (NO e) I.ok.above))).trans (I.base.keep b o e n O hx)
  ·obtain⟨Y,J⟩:=I.base.slot b o e n O hx
   exact⟨Y,(G.2 b (NS (Oc (NO e) I.ok.above))).trans J⟩
  ·obtain⟨o',J⟩:=I.base.there b o e hx
   exact⟨o',(G.2 b (NS (Oc (NO e) I.ok.above))).trans J⟩
  ·by_cases hj:j=i
   ·subst hj
    rw[hi] at J;cases J
    rw[List.getElem?_set_self w] at K
    cases K
    exact⟨u,r,.inl ⟨hk,by simp⟩⟩
   ·rw[List.getElem?_set_ne (N6 hj)] at K
    obtain⟨u',r',q⟩:=hl j y v' J K e3
    refine⟨u',r',?_⟩
    rcases q with ⟨k,e⟩|⟨k,c,e,z⟩
    ·refine .inl ⟨k,?_⟩
     have:y≠x:=λe=>hj (m7 hN J (e▸hi))
     simp[this,e]
    ·exact .inr ⟨k,c,e,z.sameBut G (cne y c e)⟩
  ·obtain⟨S,z⟩:=I.cell y c e
   exact⟨S,z.sameBut G (cne y c e)⟩
  ·obtain⟨e,n,T,U,d⟩:=I.pin p W
   exact⟨(G.2 p.1 T).trans e,n,T,U,d⟩
 ·have l:X.fn x=true:=by
   rcases hf with z|z
   ·exact z
   ·rw[z] at hk;cases hk
  obtain⟨c,hc⟩:=I.ok.has x (.inl hk)
  obtain⟨S,z⟩:=I.cell x c hc
  refine wpAny_storeName_cell I.ok.kind hk hc z (λh' P G=>?_)
  obtain⟨oc,B,C⟩:=id z
  refine h {s with heap:=h'} ⟨I.ok,I.os,I.bare,⟨λb o e n O hx=>?_,λb o e n O hx=>?_,I.base.free,λb o e hx=>?_,I.base.tups,I.base.frzs,I.base.tbls⟩,⟨m,hn.sameBut G (N6 (cne x c hc)),λj y v' J K e3=>?_⟩,λy R e=>?_,I.free,I.freeC,λp W=>?_,f ⟨oc,B,I.freeC x c hc⟩ G,by simpa using I.len⟩ ⟨c,G,.inr hc⟩
  ·exact(G.2 b (NS (Oc (NO e) (I.ok.cab x c l hc)))).trans (I.base.keep b o e n O hx)
  ·obtain⟨Y,J⟩:=I.base.slot b o e n O hx
   exact⟨Y,(G.2 b (NS (Oc (NO e) (I.ok.cab x c l hc)))).trans J⟩
  ·obtain⟨o',J⟩:=I.base.there b o e hx
   exact⟨o',(G.2 b (NS (Oc (NO e) (I.ok.cab x c l hc)))).trans J⟩
  ·by_cases hj:j=i
   ·subst hj
    rw[hi] at J;cases J
    rw[List.getElem?_set_self w] at K
    cases K
    exact⟨u,r,.inr ⟨.inl hk,c,hc,P⟩⟩
   ·rw[List.getElem?_set_ne (N6 hj)] at K
    obtain⟨u',r',q⟩:=hl j y v' J K e3
    refine⟨u',r',?_⟩
    rcases q with q|⟨k,R,e,z'⟩
    ·exact .inl q
    ·refine .inr ⟨k,R,e,z'.sameBut G ?_⟩
     rintro rfl
     exact hj (m7 hN J (I.ok.inj _ _ _ e hc▸hi))
  ·by_cases hcc:R=c
   ·subst hcc;exact⟨_,P⟩
   ·obtain⟨w2,z2⟩:=I.cell y R e
    exact⟨w2,z2.sameBut G hcc⟩
  ·obtain⟨e,n,T,U,d⟩:=I.pin p W
   refine⟨(G.2 p.1 ?_).trans e,n,T,U,d⟩
   intro q
   rw[q,B] at e
   have q':oc=p.2:=Option.some.inj e
   exact d S (by rw[<-q'];exact C)
theorem nz{Q:Unit->Shared->Prop}(I:aM X pins σ H s)(a:X.N.Nodup)(hi:X.N[i]?=some x)(hx:JO X.env.scope x)(r:bo v u)
  (h:∀s',aM X pins (σ.set i (some v)) H s'->Q () s') (hf:X.fn x=true\/X.env.scope.names.lookup x=some .local):wpAny M A (storeName X.env x u) Q E s:=
 qa I a hi hx r (λs' I' _=>h s' I') hf
theorem aM.call'(I:aM X pins σ H s)(j:s'.os=s.os)(u:Un (frs X.stack) ch H H' s.heap s'.heap)(d:iy X.prog X.w H' s'.heap)(i:AllBare s'.gens)
  (a:∀b∈ch,(b∈X.ex\/X.s₀.heap.objs.size<=b)/\b≠X.env.locals/\(∀x c,X.env.cells.lookup x=some c->c≠b)/\∀p∈X.pn++pins,p.1≠b):aM X pins σ H' s':=by
 obtain⟨h',g,f,h,o'⟩:=s'
 have e:o'=s.os:=j
 subst e
 exact I.call (g':=g) (t':=h) (d':=f) u d i a
end
abbrev XK:=Value->Option Addr->Hp->Prop
abbrev St:=List (Option V)
variable {X:Cx} {pins:List (Addr×Obj)} {σ:St} {H:Hp} {s:Shared} {prog:Program} {w:World} {A:Around} {E:Value->Shared->Prop} {K:NJ} {mg:Str->Option Value} {base:Heap}
abbrev VK:=V->Hp->Prop
abbrev TE:=St->Hp->VK->Prop
abbrev TT:=St->Hp->(Bool->Hp->Prop)->Prop
abbrev TA:=St->Hp->(List V->Hp->Prop)->Prop
structure ez where
 nx:St->Hp->Prop
 rt:VK
 bk:St->Hp->Prop:=λ_ _=>False
 ct:St->Hp->Prop:=λ_ _=>False
abbrev TS:=ez->St->Hp->Prop
def EP (X:Cx) (a:List (Addr×Obj)) (σ:St) (Q:VK) (u:Value) (b:Shared):Prop:=∃v H',aM X a σ H' b/\bo v u/\Q v H'
def TP (X:Cx) (a:List (Addr×Obj)) (σ:St) (Q:Bool->Hp->Prop) (b:Bool) (c:Shared):Prop:=∃H',aM X a σ H' c/\Q b H'
def AP (X:Cx) (a:List (Addr×Obj)) (σ:St) (Q:List V->Hp->Prop) (us:List Value) (b:Shared):Prop:=∃vs H',aM X a σ H' b/\bH vs us/\Q vs H'
def SP (X:Cx) (b:List (Addr×Obj)) (D:ez) (f:Flow) (c:Shared):Prop:=
 match f with
 | .next=>∃a H',aM X b a H' c/\D.nx a H'
 | .brk=>∃a H',aM X b a H' c/\D.bk a H'
 | .cont=>∃a H',aM X b a H' c/\D.ct a H'
 | .ret u=>∃v a H',aM X b a H' c/\bo v u/\D.rt v H'
def PE (X:Cx) (e:Expr) (t:TE):Prop:=
 ∀(pins:List (Addr×Obj)) (s:Shared) (σ:St) (H:Hp) (Q:VK),aM X pins σ H s->t σ H Q->wpAny (model X.prog X.w) X.A (eval e X.env) (EP X pins σ Q) X.xe s
def PT (X:Cx) (e:Expr) (t:TT):Prop:=
 ∀(pins:List (Addr×Obj)) (s:Shared) (σ:St) (H:Hp) (Q:Bool->Hp->Prop),aM X pins σ H s->t σ H Q->wpAny (model X.prog X.w) X.A (isTrue e X.env (eval e X.env)) (TP X pins σ Q) X.xe s
def PW (X:Cx) (e:Expr) (t:TT):Prop:=
 ∀(a:Sem Value) (pins:List (Addr×Obj)) (s:Shared) (σ:St) (H:Hp) (Q:Bool->Hp->Prop),aM X pins σ H s->t σ H Q->wpAny (model X.prog X.w) X.A (isTrue e X.env a) (TP X pins σ Q) X.xe s
theorem PW.pt(h:PW X e t):PT X e t:=h _
def PA (X:Cx) (es:List Expr) (t:TA):Prop:=
 ∀(pos:Pos) (pins:List (Addr×Obj)) (s:Shared) (σ:St) (H:Hp) (Q:List V->Hp->Prop),aM X pins σ H s->t σ H Q->wpAny (model X.prog X.w) X.A (spliced (backTo pos (starEach es X.env))) (AP X pins σ Q) X.xe s
def PS (X:Cx) (st:Stmt) (t:TS):Prop:=
 ∀(pins:List (Addr×Obj)) (s:Shared) (σ:St) (H:Hp) (D:ez),aM X pins σ H s->t D σ H->wpAny (model X.prog X.w) X.A (exec st X.env) (SP X pins D) X.xe s
def uj (X:Cx) (st:List Stmt) (t:TS):Prop:=
 ∀(pins:List (Addr×Obj)) (s:Shared) (σ:St) (H:Hp) (D:ez),aM X pins σ H s->t D σ H->wpAny (model X.prog X.w) X.A (execs st X.env) (SP X pins D) X.xe s
theorem cJ {b:Type}{t:Sem b}{Q c:b->Shared->Prop}(h:wpAny M A t Q E s)(d:∀a s,Q a s->c a s):wpAny M A t c E s:=On h d λ_ _ x=>x
section
def cV (i:Nat):TE:=λσ H Q=>∃v,σ[i]?=some (some v)/\Q v H
def tC (v:V):TE:=λ_ H Q=>Q v H
theorem IK(p:X.N[i]?=some x)(o:MX X.env.scope x)(hd:(x==("__debug__" :Str))=false:=by decide)(d:(x==("__classdict__" :Str))=false:=by decide):PE X (.Name x pos) (cV i):=by
 intro pins s σ H Q I h
 obtain⟨v,e,h⟩:=h
 obtain⟨m,g,j⟩:=I.loc
 obtain⟨u,r,l⟩:=j i x v p e o
 have a:EP X pins σ Q u s:=⟨v,H,I,r,h⟩
 rcases l with ⟨hk,n⟩|⟨hk,c,f,b⟩
 ·exact wpAny_Name (wpAny_loadName_local I.ok.kind hk g n a) hd
 ·rcases hk with hk|hk
  ·exact wpAny_Name (wpAny_loadName_cell I.ok.kind hk f b a) hd
  ·exact wpAny_Name (wpAny_loadName_free I.ok.kind hk f b a d) hd
theorem ae {i j pos}:PE X (.Constant (.int i) j pos) (tC (.int i)):=λ_ _ _ H _ I h=>wpAny_Constant_int ⟨.int i,H,I.tok _,⟨_,rfl⟩,h⟩
theorem iG {b j pos}:PE X (.Constant (.bool b) j pos) (tC (.bl b)):=λ_ _ _ H _ I h=>Constant_bool ⟨.bl b,H,I,rfl,h⟩
theorem cy {j pos}:PE X (.Constant .none j pos) (tC .non):=λ_ _ _ H _ I h=>Constant_none ⟨.non,H,I,rfl,h⟩
theorem ar {x j pos}:PE X (.Constant (.str x) j pos) (tC (.str x)):=λ_ _ _ H _ I h=>Calls.Constant_str ⟨.str x,H,I.tok _,⟨_,rfl⟩,h⟩
def Gl (X:Cx) (x:Str):Prop:=X.env.kindOf x=some .globalImplicit
theorem ij(I:aM X pins σ H s)(b:Gl X x)(a:X.mg x=some u)(h:Q u s)
  (hd:(x==("__debug__" :Str))=false:=by decide):wpAny (model X.prog X.w) X.A (eval (.Name x pos) X.env) Q E s:=
 Calls.Name_function_global I.ok.kind b (Calls.loadGlobal_global (by rw[I.ok.glob];exact I.mod.glob.keeps I.bk) a h) hd
theorem ig(I:aM X pins σ H s)(d:Gl X x)(c:X.mg x=none)(a:bootBuiltins x=some u)(h:Q u s)
  (b:x≠ "__name__" :=by decide) (hd:(x==("__debug__" :Str))=false:=by decide):wpAny (model X.prog X.w) X.A (eval (.Name x pos) X.env) Q E s:=by
 obtain⟨e,h1,h2⟩:=I.mod.blt
 exact Calls.Name_function_global I.ok.kind d (Calls.loadGlobal_builtin (by rw[I.ok.glob];exact I.mod.glob.keeps I.bk) c (by rw[I.ok.blt];exact h1.keeps I.bk) ((h2 x b).trans a) h) hd
theorem wC(b:Gl X x)(a:X.mg x=some u)(r:bo v u)(hd:(x==("__debug__" :Str))=false:=by decide):PE X (.Name x pos) (tC v):=
 λ_ _ _ H _ I h=>ij I b a ⟨v,H,I,r,h⟩ hd
theorem q_(c:Gl X x)(b:X.mg x=none)(d:bootBuiltins x=some u)(r:bo v u)(a:x≠ "__name__" :=by decide)(hd:(x==("__debug__" :Str))=false:=by decide):PE X (.Name x pos) (tC v):=
 λ_ _ _ H _ I h=>ig I c b d ⟨v,H,I,r,h⟩ a hd
variable {a b:Expr} {ta tb:TE} {pos:Pos}
def PC (X:Cx) (e:CmpOp) (a b:Expr) (t:TE):Prop:=
 ∀(pins:List (Addr×Obj)) (s:Shared) (σ:St) (H:Hp) (Q:VK),aM X pins σ H s->t σ H Q->
  wpAny (model X.prog X.w) X.A (eval a X.env) (λv c=>wpAny (model X.prog X.w) X.A (eval b X.env) (λu d=>wpAny (model X.prog X.w) X.A (compareOp e v u) (EP X pins σ Q) X.xe d) X.xe c) X.xe s
def tB (t:TE):TT:=λσ H Q=>t σ H λx H1=>∃c,x=.bl c/\Q c H1
theorem Hw(h:PC X op a b t)(h1:behindInMarks op b=false:=by rfl):PE X (.Compare a [op] [b] pos) t:=λpins s σ H Q I c=>wpAny_Compare1 (h pins s σ H Q I c) h1
theorem IV(h:PC X op a b t)(h1:behindInMarks op b=false:=by rfl):PT X (.Compare a [op] [b] pos) (tB t):=by
 intro pins s σ H Q I f
 refine wpAny_isTrue_Compare1 (cJ (h pins s σ H _ I f) λv s1 h1=>cJ h1 λu s2 h2=>cJ h2 λc s3 g=>?_) h1
 obtain⟨x,H1,I1,e,i⟩:=g
 obtain⟨d,rfl,q⟩:=i
 cases e
 exact OV ⟨H1,I1,q⟩
theorem gG(h:PE X e t)(c:∀a,isTrue e X.env a=(do let v<-a;standAt e.pos;holding [v] (truthy v)):=by intro _;rfl):PT X e (tB t):=by
 intro pins s σ H Q I f
 refine isTrue_plain (cJ (h pins s σ H _ I f) λv s1 g=>?_) (c _)
 obtain⟨x,H1,I1,b,i⟩:=g
 obtain⟨d,rfl,q⟩:=i
 cases b
 exact OV ⟨H1,I1,q⟩
variable {tA tB':TT} {rest:List Expr}
def KC (t u:TT):TT:=λσ H Q=>t σ H λc H1=>if c=true then u σ H1 Q else Q false H1
def Ja (t u:TT):TT:=λσ H Q=>t σ H λc H1=>if c=true then Q true H1 else u σ H1 Q
def Iy (t:TT):TT:=λσ H Q=>t σ H λc H1=>Q (!c) H1
theorem wm (b:PT X a tA):PW X (.BoolOp .And [a] pos) tA:=by
 intro d pins s σ H Q I h
 refine isTrue_and (cJ (b pins s σ H Q I h) λc s1 e=>?_)
 cases c with
 |true=>exact isTrue_and_nil e
 |false=>exact e
theorem eU (b:PT X a tA):PW X (.BoolOp .Or [a] pos) tA:=by
 intro d pins s σ H Q I h
 refine isTrue_or (cJ (b pins s σ H Q I h) λc s1 e=>?_)
 cases c with
 |false=>exact isTrue_or_nil e
 |true=>exact e
theorem Cz (i:PT X a tA)(f:PW X (.BoolOp .And (b::rest) pos) tB'):PW X (.BoolOp .And (a::b::rest) pos) (KC tA tB'):=by
 intro g pins s σ H Q I h
 refine isTrue_and (cJ (i pins s σ H _ I h) λc s1 e=>?_)
 obtain⟨H1,I1,d⟩:=e
 cases c with
 |true=>exact f g pins s1 σ H1 Q I1 d
 |false=>exact⟨H1,I1,d⟩
theorem fR (i:PT X a tA)(f:PW X (.BoolOp .Or (b::rest) pos) tB'):PW X (.BoolOp .Or (a::b::rest) pos) (Ja tA tB'):=by
 intro g pins s σ H Q I h
 refine isTrue_or (cJ (i pins s σ H _ I h) λc s1 e=>?_)
 obtain⟨H1,I1,d⟩:=e
 cases c with
 |true=>exact⟨H1,I1,d⟩
 |false=>exact f g pins s1 σ H1 Q I1 d
theorem eG (b:PT X a tA):PT X (.UnaryOp .Not a pos) (Iy tA):=by
 intro pins s σ H Q I h
 exact isTrue_not (b pins s σ H (λc H1=>Q (!c) H1) I h)
def GI (ta tb:TE):TE:=λσ H Q=>ta σ H λx H1=>∃c,x=.bl c/\if c=true then tb σ H1 Q else Q (.bl false) H1
def LC (ta tb:TE):TE:=λσ H Q=>ta σ H λx H1=>∃c,x=.bl c/\if c=true then Q (.bl true) H1 else tb σ H1 Q
def Kf (ta:TE):TE:=λσ H Q=>ta σ H λx H1=>∃c,x=.bl c/\Q (.bl (!c)) H1
theorem vH {op}{t:TE}(h:PE X a t):PE X (.BoolOp op [a] pos) t:=λpins s σ H Q I b=>BoolOp_one (h pins s σ H Q I b)
theorem uz (i:PE X a ta)(f:PE X (.BoolOp .And (b::rest) pos) tb):PE X (.BoolOp .And (a::b::rest) pos) (GI ta tb):=by
 intro pins s σ H Q I h
 refine BoolOp_and (cJ (i pins s σ H _ I h) λv s1 e=>?_)
 obtain⟨x,H1,I1,g,d⟩:=e
 obtain⟨c,rfl,d⟩:=d
 cases g
 refine OV ?_
 cases c with
 |true=>exact f pins s1 σ H1 Q I1 d
 |false=>exact⟨.bl false,H1,I1,rfl,d⟩
theorem Kg (i:PE X a ta)(f:PE X (.BoolOp .Or (b::rest) pos) tb):PE X (.BoolOp .Or (a::b::rest) pos) (LC ta tb):=by
 intro pins s σ H Q I h
 refine BoolOp_or (cJ (i pins s σ H _ I h) λv s1 e=>?_)
 obtain⟨x,H1,I1,g,d⟩:=e
 obtain⟨c,rfl,d⟩:=d
 cases g
 refine OV ?_
 cases c with
 |false=>exact f pins s1 σ H1 Q I1 d
 |true=>exact⟨.bl true,H1,I1,rfl,d⟩
theorem JH (f:PE X a ta):PE X (.UnaryOp .Not a pos) (Kf ta):=by
 intro pins s σ H Q I h
 refine UnaryOp_ (cJ (f pins s σ H _ I h) λv s1 d=>?_)
 obtain⟨x,H1,I1,e,b⟩:=d
 obtain⟨c,rfl,b⟩:=b
 cases e
 exact not_of (OV ⟨.bl (!c),H1,I1,rfl,b⟩)
def Na (t:TT) (ta tb:TE):TE:=λσ H Q=>t σ H λc H1=>if c=true then ta σ H1 Q else tb σ H1 Q
theorem gh(i:PT X c tA)(j:PE X a ta)(g:PE X b tb):PE X (.IfExp c a b pos) (Na tA ta tb):=by
 intro pins s σ H Q I h
 refine wpAny_IfExp (cJ (i pins s σ H _ I h) λd s1 f=>?_)
 obtain⟨H1,I1,e⟩:=f
 cases d with
 |true=>exact j pins s1 σ H1 Q I1 e
 |false=>exact g pins s1 σ H1 Q I1 e
end
def bf (K:NJ) (H:Hp) (a:Addr) (xs:List V):Prop:=
 Rd H a (.lst xs)\/
  ∃(o:Obj) (b:Array Value) (n:Nat),K.lookup a=some o/\o.cls=.type "list" /\o.dict=none/\o.data=.seq b n/\b.size<=sizeLine/\bH xs b.toList
def bY (K:NJ) (H:Hp) (a:Addr) (xs:List V):Prop:=
 Rd H a (.tup xs)\/
  ∃(o:Obj) (b:Array Value) (n:Nat),K.lookup a=some o/\o.cls=.type "tuple" /\o.data=.seq b n/\b.size<=sizeLine/\bH xs b.toList
noncomputable def MM:Value->Option V
 | .none=>some .non
 | .bool b=>some (.bl b)
 | .int i _=>some (.int i)
 | .str x _=>some (.str x)
 | .bytes b _=>some (.byt b)
 | .float b _=>some (.flt b)
 | .ref a=>some (.ref a)
 | .type n=>some (.ty n)
 |_=>none
theorem bo.abs(r:bo x u):MM u=some x:=by
 cases x with
 |non=>cases r;rfl
 |bl _=>cases r;rfl
 |int _=>obtain⟨t,rfl⟩:=r;rfl
 |str _=>obtain⟨t,rfl⟩:=r;rfl
 |byt _=>obtain⟨t,rfl⟩:=r;rfl
 |flt _=>obtain⟨t,rfl⟩:=r;rfl
 |ref _=>cases r;rfl
 |ty _=>cases r;rfl
theorem bo.inj(r:bo x u)(q:bo y u):x=y:=Option.some.inj (r.abs.symm.trans q.abs)
theorem bH.inj(a:bH xs us)(b:bH ys us):xs=ys:=by
 induction a generalizing ys with
 |nil=>cases b;rfl
 |cons r _ ih=>
  cases b with
  |cons r' t'=>rw[r.inj r',ih t']
section
variable {a:Addr} {xs ys:List V}
theorem bf.of (h:H a=some (.lst xs)):bf K H a xs:=.inl (.inl h)
theorem bY.of (h:H a=some (.tup xs)):bY K H a xs:=.inl (.inl h)
theorem aM.list (I:aM X pins σ H s)(h:bf X.K H a xs):∃b:List Value,bH xs b/\PlainL s.heap a b.toArray/\xs.length<=sizeLine:=by
 rcases h with h|⟨o,b,n,d,g,c,f,i,r⟩
 ·obtain⟨z,b,n,r,e⟩:=h.ok I.hok
  exact⟨b,r,⟨_,n,e,rfl,rfl,rfl⟩,z⟩
 ·refine⟨b.toList,r,⟨o,n,I.kIn a o d,g,c,by simpa using f⟩,?_⟩
  have e:=r.length
  simp only[OW] at e
  lia
theorem aM.tuple (I:aM X pins σ H s)(h:bY X.K H a xs):∃b:List Value,bH xs b/\IsTup s.heap a b.toArray/\xs.length<=sizeLine:=by
 rcases h with h|⟨o,b,n,d,f,c,g,r⟩
 ·obtain⟨z,b,r,p⟩:=h.ok I.hok
  exact⟨b,r,p,z⟩
 ·refine⟨b.toList,r,⟨o,I.kIn a o d,f,n,by simpa using c⟩,?_⟩
  have e:=r.length
  simp only[OW] at e
  lia
theorem aM.list_inj (I:aM X pins σ H s)(h:bf X.K H a xs)(h':bf X.K H a ys):xs=ys:=by
 obtain⟨b,r,⟨o,n,e,_,_,d⟩,_⟩:=I.list h
 obtain⟨its',g,⟨o',i,f,_,_,c⟩,_⟩:=I.list h'
 rw[e] at f;cases f
 rw[d] at c
 injection c with d1 _
 have:b=its':=by simpa using congrArg Array.toList d1
 subst this
 exact r.inj g
theorem aM.tuple_inj (I:aM X pins σ H s)(h:bY X.K H a xs)(h':bY X.K H a ys):xs=ys:=by
 obtain⟨b,r,⟨o,e,_,n,d⟩,_⟩:=I.tuple h
 obtain⟨its',g,⟨o',f,_,i,c⟩,_⟩:=I.tuple h'
 rw[e] at f;cases f
 rw[d] at c
 injection c with d1 _
 have:b=its':=by simpa using congrArg Array.toList d1
 subst this
 exact r.inj g
end
section
variable {st:Stmt} {rest:List Stmt} {t u:TS} {e:Expr} {te:TE} {pos:Pos}
def m9:TS:=λD σ H=>D.nx σ H
def e_ (t u:TS):TS:=λD σ H=>t {D with nx:=u D} σ H
theorem gB:uj X [] m9:=λ_ _ σ H _ I h=>wpAny_execs_nil ⟨σ,H,I,h⟩
theorem aj (h1:PS X st t)(b:uj X rest u):uj X (st::rest) (e_ t u):=by
 intro pins s σ H D I h
 refine wpAny_execs_cons (cJ (h1 pins s σ H {D with nx:=u D} I h) λf s1 q=>?_)
 cases f with
 |next=>
  obtain⟨a,H',I',q⟩:=q
  exact b pins s1 a H' D I' q
 |ret v=>exact q
 |brk=>exact q
 |cont=>exact q
theorem aO (h1:PS X st t):uj X [st] t:=by
 intro pins s σ H D I h
 refine wpAny_execs_cons (cJ (h1 pins s σ H D I h) λf s1 q=>?_)
 cases f with
 |next=>exact wpAny_execs_nil q
 |ret v=>exact q
 |brk=>exact q
 |cont=>exact q
theorem aM.quiet (I:aM X pins σ H s):interactive X.env=false:=by simp[interactive,I.ok.kind]
def lF (a:TE):TS:=λD σ H=>a σ H λ_ H1=>D.nx σ H1
theorem aF (c:PE X e te)(b:swapsWith e none pos.line X.env=pure false:=by rfl):PS X (.Expr e pos) (lF te):=by
 intro pins s σ H D I h
 exact wpAny_Expr_any (cJ (c pins s σ H _ I h) λv s1 ⟨x,H1,I1,d,a⟩=>⟨σ,H1,I1,a⟩) I.quiet b
def vU (a:TE):TS:=λD σ H=>a σ H D.rt
theorem aN (c:PE X e te):PS X (.Return (some e) pos) (vU te):=by
 intro pins s σ H D I h
 exact wpAny_Return_some (cJ (c pins s σ H _ I h) λv s1 ⟨x,H1,I1,b,a⟩=>⟨x,σ,H1,I1,b,a⟩)
def jP (c:TT) (t u:TS):TS:=λD σ H=>c σ H λb H1=>if b=true then t D σ H1 else u D σ H1
theorem ju(i:PT X c tc)(j:uj X a t)(g:uj X b u):PS X (.If c a b pos) (jP tc t u):=by
 intro pins s σ H D I h
 refine wpAny_If (cJ (i pins s σ H _ I h) λd s1 f=>?_)
 obtain⟨H1,I1,e⟩:=f
 cases d with
 |true=>exact j pins s1 σ H1 D I1 e
 |false=>exact g pins s1 σ H1 D I1 e
end
abbrev TG:=V->St->Hp->(St->Hp->Prop)->Prop
abbrev JK:=List V->St->Hp->(St->Hp->Prop)->Prop
def PG (X:Cx) (a:Expr) (t:TG):Prop:=
 ∀(pins:List (Addr×Obj)) (s:Shared) (σ:St) (H:Hp) (v:V) (u:Value) (Q:St->Hp->Prop),aM X pins σ H s->bo v u->t v σ H Q->
  wpAny (model X.prog X.w) X.A (assign a X.env u) (λ_ s'=>∃b H',aM X pins b H' s'/\Q b H') X.xe s
def J_ (X:Cx) (c:List Expr) (t:JK):Prop:=
 ∀(pins:List (Addr×Obj)) (s:Shared) (σ:St) (H:Hp) (vs:List V) (b:List Value) (Q:St->Hp->Prop),aM X pins σ H s->bH vs b->t vs σ H Q->
  wpAny (model X.prog X.w) X.A (assignInOrder ((assignEach c X.env).map (·.2)) b) (λ_ s'=>∃a H',aM X pins a H' s'/\Q a H') X.xe s
abbrev JB:=V->V->V->Hp->(Hp->Prop)->Prop
def JV (X:Cx) (t:JB):Prop:=
 ∀(pins:List (Addr×Obj)) (s:Shared) (σ:St) (H:Hp) (o i v:V) (a b u:Value) (Q:Hp->Prop),aM X pins σ H s->bo o a->bo i b->bo v u->t o i v H Q->
  wpAny (model X.prog X.w) X.A (setItem a b u) (λ_ s'=>∃H',aM X pins σ H' s'/\Q H') X.xe s
section
variable {pos:Pos}
def dr (i:Nat):TG:=λv σ H Q=>Q (σ.set i (some v)) H
theorem Fg(a:X.N.Nodup)(hi:X.N[i]?=some x)(hx:JO X.env.scope x)(hf:X.fn x=true\/X.env.scope.names.lookup x=some .local):PG X (.Name x pos) (dr i):=by
 intro pins s σ H v u Q I r h
 exact wpAny_assign_Name (nz I a hi hx r (λs' I'=>⟨_,H,I',h⟩) hf)
def Li:JK:=λvs σ H Q=>vs=[]/\Q σ H
noncomputable def wG (t:TG) (u:JK):JK:=λvs σ H Q=>∃v r,vs=v::r/\t v σ H λa H'=>u r a H' Q
theorem cC:J_ X [] Li:=by
 intro pins s σ H vs a Q I r h
 obtain⟨e,h⟩:=h
 subst e
 cases r
 exact assignInOrder_nil ⟨σ,H,I,h⟩
theorem aI(h1:PG X e t)(d:J_ X es u)
  (b:(assignEach (e::es) X.env).map (·.2)=assign e X.env::(assignEach es X.env).map (·.2):=by rfl):J_ X (e::es) (wG t u):=by
 intro pins s σ H vs i Q I r h
 obtain⟨v,j,g,h⟩:=h
 subst g
 cases r with
 |cons r rr=>
  rw[b]
  refine assignInOrder_cons (cJ (h1 pins s σ H _ _ _ I r h) λ_ s1 c=>?_)
  obtain⟨a,H1,I1,f⟩:=c
  exact d pins s1 a H1 _ _ Q I1 rr f
def Hr (K:NJ) (n:Nat) (t:JK):TG:=λv σ H Q=>∃a xs,v=.ref a/\bY K H a xs/\xs.length=n/\t xs σ H Q
theorem eF(x:X.calm=true)(h:J_ X es t)
  (i:(assignEach es X.env).length=n:=by rfl) (d:(assignEach es X.env).findIdx? (·.1)=none:=by rfl):PG X (.Tuple es k pos) (Hr X.K n t):=by
 intro pins s σ H v u Q I r f
 obtain⟨a,xs,p,l,m,f⟩:=f
 subst p
 cases r
 obtain⟨c,g,q,y⟩:=I.tuple l
 refine assign_Tuple_tuple (I.ok.hd x) q (by simp[i,<-m,g.length]) d λh' j=>?_
 have w:aM X pins σ H {s with heap:=h'}:=I.kept (t':=s.toks) λb o e=>j b o (NS (NO e)) e
 exact h pins _ σ H xs _ Q w (by simpa using g) f
def C1 (a b:TE) (t:JB):TG:=λv σ H Q=>a σ H λo H1=>b σ H1 λi H2=>t o i v H2 λH3=>Q σ H3
theorem hG{t:JB}(j:PE X o to)(hi:PE X i ti)(f:JV X t)
  (m:∀v,assign (.Subscript o i pos) X.env v=(do
   let a<-holding [v] (eval o X.env)
   let c<-holding [v,a] (eval i X.env)
   standAt pos
   holding [v,a,c] (setItem a c v)
   release [v,a,c] []):=by intro _;rfl):PG X (.Subscript o i pos) (C1 to ti t):=by
 intro pins s σ H v u Q I r h
 refine ND (Oe (cJ (j pins s σ H _ I h) λa s1 b=>?_))
 obtain⟨x,H1,I1,g,l⟩:=b
 refine ND (Oe (cJ (hi pins s1 σ H1 _ I1 l) λc s2 b=>?_))
 obtain⟨y,H2,I2,e,d⟩:=b
 refine ND (PV (ND (Oe (cJ (f pins s2 σ H2 x y v a c u _ I2 g e r d) λ_ s3 b=>?_))))
 obtain⟨H3,I3,q3⟩:=b
 exact wpAny_release ⟨σ,H3,I3,q3⟩
def jI (a:TE) (g:TG):TS:=λD σ H=>a σ H λx H1=>g x σ H1 D.nx
theorem dQ(d:PE X e te)(c:PG X tg g)(a:swapsWithSole [tg] e pos.line X.env=pure false:=by rfl)(f:swappedStores [tg] e X.env=pure none:=by rfl)
  (h1:(assignEach [tg] X.env).map (·.2)=[assign tg X.env]:=by rfl):PS X (.Assign [tg] e pos) (jI te g):=by
 intro pins s σ H D I h
 refine wpAny_Assign_stores (cJ (d pins s σ H _ I h) λv s1 i=>?_) a f
 obtain⟨x,H1,I1,b,j⟩:=i
 rw[h1]
 exact cJ (c pins s1 σ H1 x v _ I1 b j) λ_ s2 q=>q
theorem JD(f:X.N.Nodup)(hi:X.N[i]?=some x)(hx:JO X.env.scope x)(c:PE X e te)(a:swapsWith e (some (.Name x pos')) pos.line X.env=pure false:=by rfl)(hf:X.fn x=true\/X.env.scope.names.lookup x=some .local):
  PS X (.Assign [.Name x pos'] e pos) (jI te (dr i)):=by
 intro pins s σ H D I h
 refine wpAny_Assign_Name (cJ (c pins s σ H _ I h) λv s1 d=>?_) a
 obtain⟨y,H1,I1,b,g⟩:=d
 exact nz I1 f hi hx b (λs2 I2=>⟨_,H1,I2,g⟩) hf
end
structure It where
 go:Nat->Hp->Prop
 yld:Nat->Hp->V->Hp->Prop
 stop:Nat->Hp->Prop
def jT (X:Cx) (a:List (Addr×Obj)) (H:Hp) (b:Addr):Prop:=
 H b=none/\b≠X.env.locals/\b∉X.fs/\(b∈X.ex\/X.s₀.heap.objs.size<=b)/\(∀x c,X.env.cells.lookup x=some c->c≠b)/\∀p∈X.pn++a,p.1≠b
theorem aM.fpOk(I:aM X pins σ H s)(a:s.heap.objs.size<=b)(d:H' b=none):jT X pins H' b:=by
 refine⟨d,O7 (Oc I.lt a),I.nofs a,.inr (NP I.sz a),λx c e z=>?_,λp f z=>?_⟩
 ·obtain⟨v,q⟩:=I.cell x c e
  exact absurd (Oc q.lt (by rw[z];exact a)) (OP _)
 ·exact absurd (Oc (NO (I.pin p f).1) (by rw[z];exact a)) (OP _)
structure nO (P:Program) (w:World) (K:NJ) (tg:Expr) (J:It) (fp:List Addr) (it:Addr) (tn:Nat->Heap->Prop):Prop where
 mem:it∈fp
 obj:∀i h,tn i h->∀b∈fp,∃o,h.get? b=some o/\∀v,o.data≠.cell v
 keep:∀i h h',tn i h->(∀b∈fp,∀o,h.get? b=some o->h'.get? b=some o)->tn i h'
 item:∀(X:Cx),X.prog=P->X.w=w->X.K=K->X.calm=true->∀(i:Nat) (pins:List (Addr×Obj)) (s:Shared) (σ:St) (H:Hp) (E:Value->Shared->Prop),aM X pins σ H s->(∀b∈fp,jT X pins H b)->tn i s.heap->J.go i H->
  wpAny (model P w) X.A (pyNext (.ref it)) (λr s1=>∃u,r=some u/\
   wpAny (model P w) X.A (letOwnedTupleGo tg (.ref it) u) (λ_ s2=>∃x H',aM X pins σ H' s2/\bo x u/\J.yld i H x H'/\tn (i+1) s2.heap/\∀b∈fp,H' b=none) E s1) E s
 done:∀(X:Cx),X.prog=P->X.w=w->X.K=K->X.calm=true->∀(i:Nat) (pins:List (Addr×Obj)) (s:Shared) (σ:St) (H:Hp) (E:Value->Shared->Prop),aM X pins σ H s->(∀b∈fp,jT X pins H b)->tn i s.heap->J.stop i H->
  wpAny (model P w) X.A (pyNext (.ref it)) (λr s1=>r=none/\aM X pins σ H s1) E s
 self:∀(A:Around) (i:Nat) (s:Shared) (Q:Value->Shared->Prop) (E:Value->Shared->Prop),tn i s.heap->Q (.ref it) s->wpAny (model P w) A (pyIter (.ref it)) Q E s
abbrev TI:=St->Hp->(It->Hp->Prop)->Prop
def M4 (X:Cx) (a:List (Addr×Obj)) (σ:St) (e:Expr) (R:It->Hp->Prop) (c:Value) (s2:Shared):Prop:=
 ∃(it:Addr) (fp:List Addr) (d:Nat->Heap->Prop) (J:It) (H':Hp),c=.ref it/\aM X a σ H' s2/\nO X.prog X.w X.K e J fp it d/\d 0 s2.heap/\(∀b∈fp,jT X a H' b)/\R J H'
def PI (X:Cx) (c a:Expr) (b:TI):Prop:=
 ∀(pins:List (Addr×Obj)) (s:Shared) (σ:St) (H:Hp) (R:It->Hp->Prop),aM X pins σ H s->b σ H R->
  wpAny (model X.prog X.w) X.A (eval a X.env) (λv s1=>wpAny (model X.prog X.w) X.A (pyIter v) (M4 X pins σ c R) X.xe s1) X.xe s
theorem pY{it:Addr}{Q:Unit->Shared->Prop}(d:s.heap.get? it=some o)(c:o.cls=.type n)(hd:o.data=.fields vs)
  (b:["enumerate", "zip", "dict_itemiterator", "dict_reverseitemiterator", "odict_iterator", "itertools.zip_longest", "itertools.pairwise"].contains n=false) (a:Q () s):wpAny M A (letOwnedTupleGo tg (.ref it) u) Q E s:=by
 cases tg<;>first
  |exact NH a
  |(cases u<;>first
    |exact NH a
    |(refine ND (wpAny_load d ?_)
      rw[c,hd]
      show wpAny M A (if (["enumerate", "zip", "dict_itemiterator", "dict_reverseitemiterator", "odict_iterator", "itertools.zip_longest", "itertools.pairwise"].contains n&&vs[0]?==some (rawInt _))=true then _ else _) Q E s
      rw[if_neg (by intro h;rw[b,Pz] at h;cases h)]
      exact NH a))
noncomputable def zw (K:NJ) (a:Addr):It:=
 ⟨λi H=>∃xs x,bf K H a xs/\xs[i]?=some x,λi H x H'=>H'=H/\∀xs,bf K H a xs->xs[i]?=some x,λi H=>∃xs,bf K H a xs/\xs.length<=i⟩
noncomputable def KS (K:NJ) (a:Addr):It:=
 ⟨λi H=>∃xs x,bY K H a xs/\xs[i]?=some x,λi H x H'=>H'=H/\∀xs,bY K H a xs->xs[i]?=some x,λi H=>∃xs,bY K H a xs/\xs.length<=i⟩
noncomputable def AO (lo:Int) (n:Nat):It:=⟨λi _=>i<n,λi H x H'=>H'=H/\x=.int (lo+i),λi _=>n<=i⟩
theorem zI {P:Program}{U:Expr}(a it:Addr):nO P w K U (zw K a) [it] it (λi h=>h.IsListIter it a i) where
 mem:=by simp
 obj:=λi h st b g=>by
  have e:b=it:=by simpa using g
  subst e
  obtain⟨o,e,c,d⟩:=st
  exact⟨o,e,λv z=>by rw[d] at z;cases z⟩
 keep:=λi h h' st k=>st.at λo e=>k it (by simp) o e
 item:=by
  intro X B G A M i pins s σ H E I l st F
  subst B G A
  obtain⟨xs,x,m,C⟩:=F
  obtain⟨f,y,p,N⟩:=I.list m
  obtain⟨u,W,O⟩:=y.get C
  obtain⟨r,D,S,q,J,n⟩:=l it (by simp)
  refine wpAny_pyNext_list_item st p.isList (x:=u) (by simpa using W) λh' j sb=>?_
  have T:aM X pins σ H {s with heap:=h'}:=I.turned (t':=s.toks) (λb o g e=>(sb.2 b g).trans e) r D q J n
  obtain⟨o,e,c,d⟩:=id j
  exact⟨u,rfl,pY (s:={s with heap:=h'}) e c d (by decide) ⟨x,H,T,O,⟨rfl,λys Q=>by rw[I.list_inj Q m];exact C⟩,j,λb g=>(l b g).1⟩⟩
 done:=by
  intro X B G A M i pins s σ H E I l st F
  subst B G A
  obtain⟨xs,m,C⟩:=F
  obtain⟨f,y,p,N⟩:=I.list m
  obtain⟨r,D,S,q,J,n⟩:=l it (by simp)
  have Y:=y.length
  exact wpAny_pyNext_list_end (I.ok.hd M) st p.isList (by simp;lia) λh' R=>⟨rfl,I.turned (t':=s.toks) (λb o g e=>R b o g e) r D q J n⟩
 self:=λ_ _ _ _ _ st h=>wpAny_pyIter_listiter st h
theorem vJ {P:Program}{U:Expr}(a it:Addr):nO P w K U (KS K a) [it] it (λi h=>h.IsTupleIter it a i) where
 mem:=by simp
 obj:=λi h st b g=>by
  have e:b=it:=by simpa using g
  subst e
  obtain⟨o,e,c,d⟩:=st
  exact⟨o,e,λv z=>by rw[d] at z;cases z⟩
 keep:=λi h h' st k=>st.at λo e=>k it (by simp) o e
 item:=by
  intro X B G A M i pins s σ H E I l st F
  subst B G A
  obtain⟨xs,x,m,C⟩:=F
  obtain⟨f,y,p,N⟩:=I.tuple m
  obtain⟨u,W,O⟩:=y.get C
  obtain⟨r,D,S,q,J,n⟩:=l it (by simp)
  refine wpAny_pyNext_tuple_item st (show s.heap.IsTuple a f.toArray from p) (x:=u) (by simpa using W) λh' j sb=>?_
  have T:aM X pins σ H {s with heap:=h'}:=I.turned (t':=s.toks) (λb o g e=>(sb.2 b g).trans e) r D q J n
  obtain⟨o,e,c,d⟩:=id j
  exact⟨u,rfl,pY (s:={s with heap:=h'}) e c d (by decide) ⟨x,H,T,O,⟨rfl,λys Q=>by rw[I.tuple_inj Q m];exact C⟩,j,λb g=>(l b g).1⟩⟩
 done:=by
  intro X B G A M i pins s σ H E I l st F
  subst B G A
  obtain⟨xs,m,C⟩:=F
  obtain⟨f,y,p,N⟩:=I.tuple m
  obtain⟨r,D,S,q,J,n⟩:=l it (by simp)
  have Y:=y.length
  exact wpAny_pyNext_tuple_end (I.ok.hd M) st (show s.heap.IsTuple a f.toArray from p) (by simp;lia) λh' R=>⟨rfl,I.turned (t':=s.toks) (λb o g e=>R b o g e) r D q J n⟩
 self:=λ_ _ _ _ _ st h=>wpAny_pyIter_tupleiter st h
theorem vh {P:Program}{F:Expr}(it:Addr)(lo:Int)(n:Nat):nO P w K F (AO lo n) [it] it (λi h=>IsRangeIter h it (lo+(i:Nat)*1) ((n:Int) - (i:Nat)) 1) where
 mem:=by simp
 obj:=λi h st b a=>by
  have e:b=it:=by simpa using a
  subst e
  exact⟨_,st,λv z=>by
   have A:Data.fields _=Data.cell v:=z
   cases A⟩
 keep:=λi h h' st k=>k it (by simp) _ st
 item:=by
  intro X u x r g i pins s σ H E I d st m
  subst u x r
  obtain⟨j,l,C,q,p,f⟩:=d it (by simp)
  have W:=Walks.range (prog:=X.prog) (w:=X.w) (I.ok.hd g) it lo 1 n
  refine W.item i s _ _ m st λv h' tk G c y=>?_
  obtain⟨t,rfl⟩:=G
  have D:aM X pins σ H {s with heap:=h',toks:=tk}:=I.turned (λb o a e=>y b o (by simpa using a) e) j l q p f
  refine⟨_,rfl,pY (s:={s with heap:=h',toks:=tk}) (n:= "range_iterator") c rfl rfl (by decide) ⟨.int (lo+i),H,D,⟨t,?_⟩,⟨rfl,rfl⟩,c,λb a=>(d b a).1⟩⟩
  rw[Int.mul_one]
 done:=by
  intro X u x r g i pins s σ H E I d st m
  obtain⟨j,l,C,q,p,f⟩:=d it (by simp)
  exact wpAny_pyNext_range_end (I.ok.hd g) st (by have:n<=i:=m;lia) λh' B=>⟨rfl,I.turned (t':=s.toks) (λb o a e=>B b o a e) j l q p f⟩
 self:=λ_ _ _ _ _ st h=>wpAny_pyIter_rangeiter st h
section
variable {tg:Expr}
def r8 (K:NJ) (b:TE):TI:=λσ H R=>b σ H λx H1=>∃a,x=.ref a/\(∃xs,bf K H1 a xs)/\R (zw K a) H1
def Ep (K:NJ) (b:TE):TI:=λσ H R=>b σ H λx H1=>∃a,x=.ref a/\(∃xs,bY K H1 a xs)/\R (KS K a) H1
theorem bw(d:PE X l tl):PI X tg l (r8 X.K tl):=by
 intro pins s σ H R I h
 refine cJ (d pins s σ H _ I h) λv s1 i=>?_
 obtain⟨x,H1,I1,g,m⟩:=i
 obtain⟨a,e,⟨xs,f⟩,q⟩:=m
 subst e
 cases g
 obtain⟨c,r,p,n⟩:=I1.list f
 refine Pe p.isList ?_
 refine⟨s1.heap.objs.size,[s1.heap.objs.size],_,_,H1,rfl,I1.kept (t':=s1.toks) λb o e=>NN _ e,zI a _,⟨_,NZ _ rfl,rfl,rfl⟩,λb j=>?_,q⟩
 have e:b=s1.heap.objs.size:=by simpa using j
 subst e
 exact I1.fpOk (NI _) (I1.hok.fresh (NI _))
theorem qu(d:PE X l tl):PI X tg l (Ep X.K tl):=by
 intro pins s σ H R I h
 refine cJ (d pins s σ H _ I h) λv s1 i=>?_
 obtain⟨x,H1,I1,g,m⟩:=i
 obtain⟨a,e,⟨xs,f⟩,q⟩:=m
 subst e
 cases g
 obtain⟨c,r,p,n⟩:=I1.tuple f
 refine wpAny_pyIter_tuple (show s1.heap.IsTuple a c.toArray from p) ?_
 refine⟨s1.heap.objs.size,[s1.heap.objs.size],_,_,H1,rfl,I1.kept (t':=s1.toks) λb o e=>NN _ e,vJ a _,⟨_,NZ _ rfl,rfl,rfl⟩,λb j=>?_,q⟩
 have e:b=s1.heap.objs.size:=by simpa using j
 subst e
 exact I1.fpOk (NI _) (I1.hok.fresh (NI _))
theorem sk {R:It->Hp->Prop}{lo hi:Int}{t u v:Tok}{tk:Nat}(I:aM X pins σ H s)(h1: -(2^62)<=lo)(h:lo<2^62)(f: -(2^62)<=hi)(c:hi<2^62)
  (q:R (AO lo (hi - lo).toNat) H):wpAny (model X.prog X.w) X.A (pyIter (.ref s.heap.objs.size)) (M4 X pins σ tg R) E {s with heap:=s.heap.push {cls:=.type "range",data:=.fields #[.int lo t,.int hi u,.int 1 v]},toks:=tk}:=by
 refine wpAny_pyIter_range (IsRange.new ..) (small_one h1 h f c) ?_
 have a:aM X pins σ H {s with heap:=s.heap.push {cls:=.type "range",data:=.fields #[.int lo t,.int hi u,.int 1 v]},toks:=tk}:=I.kept λb o e=>NN _ e
 refine⟨(s.heap.push {cls:=.type "range",data:=.fields #[.int lo t,.int hi u,.int 1 v]}).objs.size,[(s.heap.push {cls:=.type "range",data:=.fields #[.int lo t,.int hi u,.int 1 v]}).objs.size],_,_,H,rfl,
  a.kept (t':=tk) λb o e=>NN _ e,vh _ lo (hi - lo).toNat,?_,λb g=>?_,q⟩
 ·have i:lo+((0:Nat):Int)*1=lo:=by simp
  have d:(((hi - lo).toNat:Nat):Int) - ((0:Nat):Int)=Builtin.Range.rangeSize lo hi 1:=by rw[rangeSize_one];split<;>lia
  rw[i,d]
  exact NZ _ rfl
 ·have e:b=(s.heap.push {cls:=.type "range",data:=.fields #[.int lo t,.int hi u,.int 1 v]}).objs.size:=by simpa using g
  subst e
  exact a.fpOk (NI _) (a.hok.fresh (NI _))
def qb (ta:TA):TI:=λσ H R=>ta σ H λvs H1=>∃j:Int,vs=[.int j]/\ -(2^62)<=j/\j<2^62/\R (AO 0 j.toNat) H1
def J3 (ta:TA):TI:=λσ H R=>ta σ H λvs H1=>∃i j:Int,vs=[.int i,.int j]/\(-(2^62)<=i/\i<2^62/\ -(2^62)<=j/\j<2^62)/\R (AO i (j - i).toNat) H1
theorem zv(i:Gl X "range")(d:X.mg "range" =none)(m:PA X [a] ta)(f:starEach [a] X.env=[(false,eval a X.env)]:=by rfl):PI X tg (.Call (.Name "range" p) [a] [] pos) (qb ta):=by
 intro pins s σ H R I h
 refine Call_ (ig I i d boot_range (PyProof.Rows.callWith_type1 (cJ (m pos pins s σ H _ I h) λn s1 l=>?_) f rfl))
 obtain⟨vs,H1,I1,g,b⟩:=l
 obtain⟨j,e,b,c,q⟩:=b
 subst e
 cases g with
 |cons r rr=>
  cases rr
  obtain⟨t,rfl⟩:=r
  exact call_range_1 (sk I1 (by lia) (by lia) b c (by simpa using q))
theorem pK(o:Gl X "range")(g:X.mg "range" =none)(v:PA X [a,b] ta)(l:starEach [a,b] X.env=[(false,eval a X.env),(false,eval b X.env)]:=by rfl)(c:starEach [b] X.env=[(false,eval b X.env)]:=by rfl):
  PI X tg (.Call (.Name "range" p) [a,b] [] pos) (J3 ta):=by
 intro pins s σ H R I h
 refine Call_ (ig I o g boot_range (PyProof.Rows.callWith_type1 (cJ (v pos pins s σ H _ I h) λw s1 u=>?_) (by rw[l,c]) (by rw[c];rfl)))
 obtain⟨vs,H1,I1,m,d⟩:=u
 obtain⟨i,j,e,⟨d,f,q3,n⟩,q⟩:=d
 subst e
 cases m with
 |cons r rr=>
  cases rr with
  |cons r' rr=>
   cases rr
   obtain⟨t,rfl⟩:=r
   obtain⟨x,rfl⟩:=r'
   exact call_range_2 (sk I1 d f q3 n q)
def jC (d:TI) (g:TG) (tb:TS):TS:=λD σ H=>d σ H λJ H1=>∃W:Nat->Nat->St->Hp->Prop,(∃m,W 0 m σ H1)/\∀i m σ H,W i m σ H->
 (J.stop i H/\D.nx σ H)\/(J.go i H/\∃N:St->Hp->Prop,(∀a H',N a H'->∃c,c<m/\W (i+1) c a H')/\∀x H',J.yld i H x H'->g x σ H' λb H2=>tb {D with nx:=N,ct:=N,bk:=D.nx} b H2)
noncomputable def nK (fp:List Addr) (h:Heap):List (Addr×Obj):=fp.filterMap λb=>(h.get? b).map λo=>(b,o)
theorem ie(a:b∈fp)(e:h.get? b=some o):(b,o)∈nK fp h:=Oy.mpr ⟨b,a,by rw[e];rfl⟩
theorem zA{p:Addr×Obj}(a:p∈nK fp h):p.1∈fp/\h.get? p.1=some p.2:=by
 obtain⟨b,d,e⟩:=Oy.mp a
 cases q:h.get? b with
 |none=>rw[q] at e;cases e
 |some o=>
  rw[q] at e
  have c:(b,o)=p:=Option.some.inj e
  subst c
  exact⟨d,q⟩
theorem aM.pinned(I:aM X pins σ H s)(hf:∀b∈fp,jT X pins H b)(j:∀b∈fp,∃o,s.heap.get? b=some o/\∀v,o.data≠.cell v):aM X (pins++nK fp s.heap) σ H s:=
 I.pins_of λp h=>(Ot.mp h).elim (λz=>I.pin p (Of _ z)) λz=>by
  obtain⟨a,e⟩:=zA z
  obtain⟨g,f,i,_⟩:=hf p.1 a
  obtain⟨o,c,d⟩:=j p.1 a
  rw[e] at c;cases c
  exact⟨e,g,f,i,d⟩
theorem aM.unpinned {pl:List (Addr×Obj)}(I:aM X (pins++pl) σ H s):aM X pins σ H s:=I.pins_of λp a=>I.pin p (Of _ (Ou _ a))
theorem fz(G:PassesOwn (model X.prog X.w) X.A X.env X.xe)(Y:X.calm=true)(hi:PI X tg iter wi)(hg:PG X tg g)(C:uj X body tb)
  (hs:∀x,foldedSetIterable iter X.env x=pure x:=by intro _;rfl):PS X (.For tg iter body [] pos) (jC wi g tb):=by
 intro pins s σ H D I h
 refine wpAny_For (cJ (hi pins s σ H _ I h) λv s1 h1=>cJ h1 λbb s2 h2=>?_) hs
 obtain⟨it,fp,Z,J,H2,e,I2,T,y,U,W,⟨m0,w0⟩,q⟩:=h2
 subst e
 have a:∀{H':Hp},(∀b∈fp,H' b=none)->∀b∈fp,jT X pins H' b:=λhn b C=>⟨hn b C,(U b C).2⟩
 refine codeAny_forLoop_any (λn s'=>∃i E H',aM X pins E H' s'/\Z i s'.heap/\(∀b∈fp,H' b=none)/\W i n E H') ?_ m0 ⟨0,σ,H2,I2,y,λb C=>(U b C).1,w0⟩
 rintro n s3 ⟨i,B,H3,I3,p,l,w3⟩
 rcases q i n B H3 w3 with ⟨O,qn⟩|⟨go,N,hN,step⟩
 ·refine Qg G (cJ (T.done X rfl rfl rfl Y i pins s3 B H3 X.xe I3 (a l) p O) λr s4 ⟨S,I4⟩=>?_)
  subst S
  exact wpAny_execs_nil ⟨B,H3,I4,qn⟩
 ·refine Qg G (cJ (T.item X rfl rfl rfl Y i pins s3 B H3 X.xe I3 (a l) p go) λr s4 M=>?_)
  obtain⟨u,S,h4⟩:=M
  subst S
  refine Qg G (cJ h4 λ_ s5 M=>?_)
  obtain⟨x,H5,I5,r5,y5,j,w⟩:=M
  have Q:=I5.pinned (a w) (T.obj _ _ j)
  refine Qg G (cJ (hg _ s5 B H5 x u _ Q r5 (step x H5 y5)) λ_ s6 M=>?_)
  obtain⟨R,H6,I6,q6⟩:=M
  refine Qg G (cJ (C _ s6 R H6 _ I6 q6) λf P F=>?_)
  have c:∀{z:St} {H7:Hp},aM X (pins++nK fp s5.heap) z H7 P->N z H7->∃m,m<n/\∃i E H',aM X pins E H' P/\Z i P.heap/\(∀b∈fp,H' b=none)/\W i m E H':=fun{z H7} I7 K=>by
   obtain⟨m',hm,w7⟩:=hN z H7 K
   refine⟨m',hm,i+1,z,H7,I7.unpinned,T.keep _ _ _ j λb C o e=>(I7.pin (b,o) (Of _ (Of _ (ie C e)))).1,λb C=>?_,w7⟩
   obtain⟨o,e,d⟩:=T.obj _ _ j b C
   exact(I7.pin (b,o) (Of _ (Of _ (ie C e)))).2.1
  cases f with
  |next=>obtain⟨z,H7,I7,K⟩:=F;exact c I7 K
  |cont=>obtain⟨z,H7,I7,K⟩:=F;exact c I7 K
  |brk=>obtain⟨z,H7,I7,F⟩:=F;exact⟨z,H7,I7.unpinned,F⟩
  |ret v=>obtain⟨x7,z,H7,I7,r7,F⟩:=F;exact⟨x7,z,H7,I7.unpinned,r7,F⟩
end
theorem cZ {a:Addr}{xs:List V}{g:TG}{tb:TS}{D:ez}(b:Nat->St->Hp->Prop)(h0:b 0 σ H)(h:∀i σ H,i<=xs.length->b i σ H->bf K H a xs)
  (j:∀i x σ H,xs[i]?=some x->b i σ H->g x σ H λd H2=>tb {D with nx:=b (i+1),ct:=b (i+1),bk:=D.nx} d H2) (hd:∀σ H,b xs.length σ H->D.nx σ H):
  ∃W:Nat->Nat->St->Hp->Prop,(∃m,W 0 m σ H)/\∀i m σ H,W i m σ H->
   ((zw K a).stop i H/\D.nx σ H)\/((zw K a).go i H/\∃N:St->Hp->Prop,(∀c H',N c H'->∃f,f<m/\W (i+1) f c H')/\∀x H',(zw K a).yld i H x H'->g x σ H' λd H2=>tb {D with nx:=N,ct:=N,bk:=D.nx} d H2):=by
 refine⟨λi m σ H=>m=xs.length - i/\i<=xs.length/\b i σ H,⟨xs.length,by simp,N9 _,h0⟩,?_⟩
 rintro i m σ H ⟨rfl,hi,p⟩
 have q:=h i σ H hi p
 by_cases hlt:i<xs.length
 ·refine .inr ⟨⟨xs,xs[i],q,by simp[hlt]⟩,b (i+1),λc H' l=>⟨xs.length - (i+1),by omega,rfl,hlt,l⟩,λx H' y=>?_⟩
  obtain⟨e,y⟩:=y
  subst e
  exact j i x σ _ (y xs q) p
 ·have e:i=xs.length:=by omega
  subst e
  exact .inl ⟨⟨xs,q,NI _⟩,hd σ H p⟩
theorem pb {lo:Int}{n:Nat}{g:TG}{tb:TS}{D:ez}(b:Nat->St->Hp->Prop)(h0:b 0 σ H)
  (f:∀i σ H,i<n->b i σ H->g (.int (lo+i)) σ H λc H2=>tb {D with nx:=b (i+1),ct:=b (i+1),bk:=D.nx} c H2) (hd:∀σ H,b n σ H->D.nx σ H):
  ∃W:Nat->Nat->St->Hp->Prop,(∃m,W 0 m σ H)/\∀i m σ H,W i m σ H->
   ((AO lo n).stop i H/\D.nx σ H)\/((AO lo n).go i H/\∃N:St->Hp->Prop,(∀a H',N a H'->∃d,d<m/\W (i+1) d a H')/\∀x H',(AO lo n).yld i H x H'->g x σ H' λc H2=>tb {D with nx:=N,ct:=N,bk:=D.nx} c H2):=by
 refine⟨λi m σ H=>m=n - i/\i<=n/\b i σ H,⟨n,by simp,N9 _,h0⟩,?_⟩
 rintro i m σ H ⟨rfl,hi,p⟩
 by_cases hlt:i<n
 ·refine .inr ⟨hlt,b (i+1),λa H' h=>⟨n - (i+1),by lia,rfl,hlt,h⟩,λx H' y=>?_⟩
  obtain⟨e,y⟩:=y
  subst e y
  exact f i σ _ hlt p
 ·have e:i=n:=by lia
  subst e
  exact .inl ⟨NI _,hd σ H p⟩
abbrev R2:=V->V->Hp->VK->Prop
def ji (X:Cx) (f:Value->Value->Sem Value) (r:R2):Prop:=
 ∀(pins:List (Addr×Obj)) (s:Shared) (σ:St) (H:Hp) (x y:V) (v u:Value) (Q:VK),aM X pins σ H s->bo x v->bo y u->r x y H Q->
  wpAny (model X.prog X.w) X.A (f v u) (EP X pins σ Q) X.xe s
def MR (X:Cx) (f:Value->Sem Value) (r:V->Hp->VK->Prop):Prop:=
 ∀(pins:List (Addr×Obj)) (s:Shared) (σ:St) (H:Hp) (x:V) (v:Value) (Q:VK),aM X pins σ H s->bo x v->r x H Q->
  wpAny (model X.prog X.w) X.A (f v) (EP X pins σ Q) X.xe s
def c_ (X:Cx) (f:Value) (r:List V->Hp->VK->Prop):Prop:=
 ∀(pins:List (Addr×Obj)) (s:Shared) (σ:St) (H:Hp) (xs:List V) (a:List Value) (Q:VK),aM X pins σ H s->bH xs a->r xs H Q->
  wpAny (model X.prog X.w) X.A (call f a) (EP X pins σ Q) X.xe s
def gb (r:R2) (ta tb:TE):TE:=λσ H Q=>ta σ H λx H1=>tb σ H1 λy H2=>r x y H2 Q
def Nb (r:V->Hp->VK->Prop) (ta:TE):TE:=λσ H Q=>ta σ H λx H1=>r x H1 Q
def rI (C:Int->Int->Prop) (g:Int->Int->V):R2:=λx y H Q=>∃i j,x=.int i/\y=.int j/\C i j/\Q (g i j) H
def Ad (g:Int->Int->V):R2:=λx y H Q=>∃i j,x=.int i/\y=.int j/\Q (g i j) H
def rU (g:Int->V):V->Hp->VK->Prop:=λx H Q=>∃i,x=.int i/\Q (g i) H
section
variable {a b c:Expr} {ta tb tc:TE} {pos:Pos}
theorem Jr (n:PE X a ta)(l:PE X b tb){R:V->V->Hp->Prop}(I:aM X pins σ H s)
  (h:ta σ H λx H1=>tb σ H1 λy H2=>R x y H2) {Q:Value->Shared->Prop} {f:Value->Value->Sem Value}
  (hf:∀v u s2 x y H2,aM X pins σ H2 s2->bo x v->bo y u->R x y H2->wpAny (model X.prog X.w) X.A (f v u) Q X.xe s2):
  wpAny (model X.prog X.w) X.A (eval a X.env) (λv c=>wpAny (model X.prog X.w) X.A (eval b X.env) (λu d=>wpAny (model X.prog X.w) X.A (f v u) Q X.xe d) X.xe c) X.xe s:=by
 refine cJ (n pins s σ H _ I h) λv s1 e=>?_
 obtain⟨x,H1,I1,j,m⟩:=e
 refine cJ (l pins s1 σ H1 _ I1 m) λu s2 e=>?_
 obtain⟨y,H2,I2,i,g⟩:=e
 exact hf v u s2 x y H2 I2 j i g
theorem ao(e:ji X (binaryOp op) r)(g:PE X a ta)(f:PE X b tb):PE X (.BinOp a op b pos) (gb r ta tb):=by
 intro pins s σ H Q I h
 exact wpAny_BinOp (Jr g f I h λv u s2 x y H2 I2 c d q=>e pins s2 σ H2 x y v u Q I2 c d q)
theorem Kn {b:UnaryOp}{r:V->Hp->VK->Prop}(f:MR X (unaryOp b) r)(e:PE X a ta):PE X (.UnaryOp b a pos) (Nb r ta):=by
 intro pins s σ H Q I h
 exact UnaryOp_ (cJ (e pins s σ H _ I h) λv s1 ⟨x,H1,I1,c,d⟩=>f pins s1 σ H1 x v Q I1 c d)
theorem MS {f:Value->Value->Sem Value}{C:Int->Int->Prop}{g:Int->Int->Int}
  (a:∀(i j:Int) (t u:Tok) (s:Shared) (Q:Value->Shared->Prop) (E:Value->Shared->Prop),C i j->Q (.int (g i j) s.toks) {s with toks:=s.toks+1}->wpAny (model X.prog X.w) X.A (f (.int i t) (.int j u)) Q E s):
  ji X f (rI C λi j=> .int (g i j)):=by
 intro pins s σ H x y v u Q I b c h
 obtain⟨i,j,rfl,rfl,e,q⟩:=h
 obtain⟨t,rfl⟩:=b
 obtain⟨d,rfl⟩:=c
 exact a i j t d s _ _ e ⟨.int (g i j),H,I.tok _,⟨_,rfl⟩,q⟩
theorem LF {f:Value->Value->Sem Value}{g:Int->Int->Int}
  (a:∀(i j:Int) (t u:Tok) (s:Shared) (Q:Value->Shared->Prop) (E:Value->Shared->Prop),Q (.int (g i j) s.toks) {s with toks:=s.toks+1}->wpAny (model X.prog X.w) X.A (f (.int i t) (.int j u)) Q E s):
  ji X f (Ad λi j=> .int (g i j)):=by
 intro pins s σ H x y v u Q I b c h
 obtain⟨i,j,rfl,rfl,q⟩:=h
 obtain⟨t,rfl⟩:=b
 obtain⟨d,rfl⟩:=c
 exact a i j t d s _ _ ⟨.int (g i j),H,I.tok _,⟨_,rfl⟩,q⟩
theorem Jx {f:Value->Value->Sem Value}{g:Int->Int->Bool}
  (a:∀(i j:Int) (t u:Tok) (s:Shared) (Q:Value->Shared->Prop) (E:Value->Shared->Prop),Q (.bool (g i j)) s->wpAny (model X.prog X.w) X.A (f (.int i t) (.int j u)) Q E s):
  ji X f (Ad λi j=> .bl (g i j)):=by
 intro pins s σ H x y v u Q I b c h
 obtain⟨i,j,rfl,rfl,q⟩:=h
 obtain⟨t,rfl⟩:=b
 obtain⟨d,rfl⟩:=c
 exact a i j t d s _ _ ⟨.bl (g i j),H,I,rfl,q⟩
def Ky (i j:Int):Prop:=0<=j/\j<=1000000/\i.natAbs<2^64
theorem aV:ji X (binaryOp .Add) (Ad λi j=> .int (i+j)):=LF λ_ _ _ _ _ _ _ q=>add_int q
theorem bZ:ji X (binaryOp .Sub) (Ad λi j=> .int (i - j)):=LF λ_ _ _ _ _ _ _ q=>sub_int q
theorem a9:ji X (binaryOp .Mod) (rI (λ_ j=>0<j) λi j=> .int (i%j)):=MS λi j _ _ _ _ _ a q=>by
 exact mod_int' (by lia) (by rw[Int.fmod_eq_emod_of_nonneg i (by lia)];exact q)
theorem fM:ji X (binaryOp .Pow) (rI Ky λi j=> .int (i^j.toNat)):=MS λ_ _ _ _ _ _ _ a q=>pow_int_small a.1 a.2.1 a.2.2 q
theorem Nw {f:Value->Sem Value}{g:Int->Int}
  (a:∀(i:Int) (t:Tok) (s:Shared) (Q:Value->Shared->Prop) (E:Value->Shared->Prop),Q (.int (g i) s.toks) {s with toks:=s.toks+1}->wpAny (model X.prog X.w) X.A (f (.int i t)) Q E s):
  MR X f (rU λi=> .int (g i)):=by
 intro pins s σ H x v Q I b h
 obtain⟨i,rfl,q⟩:=h
 obtain⟨t,rfl⟩:=b
 exact a i t s _ _ ⟨.int (g i),H,I.tok _,⟨_,rfl⟩,q⟩
theorem HH:MR X (unaryOp .USub) (rU λi=> .int (-i)):=Nw λ_ _ _ _ _ q=>neg_int q
end
noncomputable def Ly:V->V->Bool
 | .non,.non=>true| .non,.int _=>true| .int _,.non=>true| .non,.bl _=>true| .bl _,.non=>true| .non,.str _=>true| .str _,.non=>true
 | .int _,.int _=>true| .bl _,.bl _=>true| .str _,.str _=>true| .byt _,.byt _=>true
 | .int _,.str _=>true| .str _,.int _=>true| .bl _,.str _=>true| .str _,.bl _=>true
 |_,_=>false
def JX:R2:=λx y H Q=>Ly x y=true/\Q (.bl (decide (x=y))) H
def KB:R2:=λx y H Q=>Ly x y=true/\Q (.bl (!decide (x=y))) H
theorem mz:decide (V.int i=V.int j)=(i==j):=by
 rw[PB]
 simp
theorem uG:decide (V.bl i=V.bl j)=(i==j):=by
 rw[PB]
 simp
theorem yu:decide (V.str i=V.str j)=(i==j):=by
 rw[PB]
 simp
theorem yd {i j:Array UInt8}:decide (V.byt i=V.byt j)=(i.toList==j.toList):=by
 rw[PB]
 cases i
 cases j
 simp
section
variable {a b c:Expr} {ta tb tc:TE} {pos:Pos}
theorem bJ(I:aM X pins σ H s)(q:Q (.bl k) H)(e:k=k'):EP X pins σ Q (.bool k') s:=by
 subst e
 exact⟨.bl k,H,I,rfl,q⟩
theorem cw:ji X (compareOp .Eq) JX:=by
 intro pins s σ H x y v u Q I d a h
 obtain⟨c,q⟩:=h
 cases x with
 |non=>
  cases d
  cases y with
  |non=>cases a;exact PySem.EqNone.eq_none_none (bJ I q (by simp))
  |bl j=>cases a;exact PySem.EqNone.eq_none_bool (bJ I q (by simp))
  |int j=>obtain⟨b,rfl⟩:=a;exact PySem.EqNone.eq_none_int (bJ I q (by simp))
  |str j=>obtain⟨b,rfl⟩:=a;exact PySem.EqNone.eq_none_str (bJ I q (by simp))
  |_=>exact absurd (show false=true from c) NY
 |bl i=>
  cases d
  cases y with
  |non=>cases a;exact PySem.EqNone.eq_bool_none (bJ I q (by simp))
  |bl j=>cases a;exact eq_bool (bJ I q uG)
  |str j=>obtain⟨b,rfl⟩:=a;exact PySem.EqMixed.eq_bool_str (bJ I q (by simp))
  |_=>exact absurd (show false=true from c) NY
 |int i=>
  obtain⟨t,rfl⟩:=d
  cases y with
  |non=>cases a;exact PySem.EqNone.eq_int_none (bJ I q (by simp))
  |int j=>obtain⟨b,rfl⟩:=a;exact eq_int (bJ I q mz)
  |str j=>obtain⟨b,rfl⟩:=a;exact PySem.EqMixed.eq_int_str (bJ I q (by simp))
  |_=>exact absurd (show false=true from c) NY
 |str i=>
  obtain⟨t,rfl⟩:=d
  cases y with
  |non=>cases a;exact PySem.EqNone.eq_str_none (bJ I q (by simp))
  |bl j=>cases a;exact PySem.EqMixed.eq_str_bool (bJ I q (by simp))
  |int j=>obtain⟨b,rfl⟩:=a;exact PySem.EqMixed.eq_str_int (bJ I q (by simp))
  |str j=>obtain⟨b,rfl⟩:=a;exact eq_str (bJ I q yu)
  |_=>exact absurd (show false=true from c) NY
 |byt i=>
  obtain⟨t,rfl⟩:=d
  cases y with
  |byt j=>obtain⟨b,rfl⟩:=a;exact PySem.W.eq_bytes (bJ I q yd)
  |_=>exact absurd (show false=true from c) NY
 |_=>cases y<;>exact absurd (show false=true from c) NY
theorem iq:ji X (compareOp .NotEq) KB:=by
 intro pins s σ H x y v u Q I d a h
 obtain⟨c,q⟩:=h
 cases x with
 |non=>
  cases d
  cases y with
  |non=>cases a;exact PySem.EqNone.ne_none_none (bJ I q (by simp))
  |bl j=>cases a;exact PySem.EqNone.ne_none_bool (bJ I q (by simp))
  |int j=>obtain⟨b,rfl⟩:=a;exact PySem.EqNone.ne_none_int (bJ I q (by simp))
  |str j=>obtain⟨b,rfl⟩:=a;exact PySem.EqNone.ne_none_str (bJ I q (by simp))
  |_=>exact absurd (show false=true from c) NY
 |bl i=>
  cases d
  cases y with
  |non=>cases a;exact PySem.EqNone.ne_bool_none (bJ I q (by simp))
  |bl j=>cases a;exact ne_bool (bJ I q (congrArg not uG))
  |str j=>obtain⟨b,rfl⟩:=a;exact PySem.EqMixed.ne_bool_str (bJ I q (by simp))
  |_=>exact absurd (show false=true from c) NY
 |int i=>
  obtain⟨t,rfl⟩:=d
  cases y with
  |non=>cases a;exact PySem.EqNone.ne_int_none (bJ I q (by simp))
  |int j=>obtain⟨b,rfl⟩:=a;exact ne_int (bJ I q (congrArg not mz))
  |str j=>obtain⟨b,rfl⟩:=a;exact PySem.EqMixed.ne_int_str (bJ I q (by simp))
  |_=>exact absurd (show false=true from c) NY
 |str i=>
  obtain⟨t,rfl⟩:=d
  cases y with
  |non=>cases a;exact PySem.EqNone.ne_str_none (bJ I q (by simp))
  |bl j=>cases a;exact PySem.EqMixed.ne_str_bool (bJ I q (by simp))
  |int j=>obtain⟨b,rfl⟩:=a;exact PySem.EqMixed.ne_str_int (bJ I q (by simp))
  |str j=>obtain⟨b,rfl⟩:=a;exact ne_str (bJ I q (congrArg not yu))
  |_=>exact absurd (show false=true from c) NY
 |byt i=>
  obtain⟨t,rfl⟩:=d
  cases y with
  |byt j=>obtain⟨b,rfl⟩:=a;exact PySem.W.ne_bytes (bJ I q (congrArg not yd))
  |_=>exact absurd (show false=true from c) NY
 |_=>cases y<;>exact absurd (show false=true from c) NY
theorem tX:ji X (compareOp .Lt) (Ad λi j=> .bl (decide (i<j))):=Jx λ_ _ _ _ _ _ _ q=>lt_int q
theorem dJ:ji X (compareOp .LtE) (Ad λi j=> .bl (decide (i<=j))):=Jx λ_ _ _ _ _ _ _ q=>le_int q
theorem wq:ji X (compareOp .Gt) (Ad λi j=> .bl (decide (j<i))):=Jx λ_ _ _ _ _ _ _ q=>gt_int q
theorem pR:ji X (compareOp .In) (λx y H Q=>∃i j,x=.str i/\y=.str j/\Q (.bl (!(Builtin.Str.occurrences j i 0 j.length 1).isEmpty)) H):=by
 intro pins s σ H x y v u Q I a b h
 obtain⟨i,j,rfl,rfl,q⟩:=h
 obtain⟨t,rfl⟩:=a
 obtain⟨c,rfl⟩:=b
 exact in_str (bJ I q rfl)
theorem gq:ji X (compareOp .Is) (λx y H Q=>y=.non/\Q (.bl (decide (x=.non))) H):=by
 intro pins s σ H x y v u Q I a b h
 obtain⟨rfl,q⟩:=h
 cases b
 refine is_none_gen (bJ I q ?_)
 cases x<;>first
  |(cases a;rfl)
  |(obtain⟨t,rfl⟩:=a;rfl)
theorem E2:ji X (compareOp .IsNot) (λx y H Q=>y=.non/\Q (.bl (!decide (x=.non))) H):=by
 intro pins s σ H x y v u Q I a b h
 obtain⟨rfl,q⟩:=h
 cases b
 refine isnot_none_gen (bJ I q ?_)
 cases x<;>first
  |(cases a;rfl)
  |(obtain⟨t,rfl⟩:=a;rfl)
theorem j8:ji X (compareOp .NotIn) (λx y H Q=>∃i j,x=.str i/\y=.str j/\Q (.bl (!(!(Builtin.Str.occurrences j i 0 j.length 1).isEmpty))) H):=by
 intro pins s σ H x y v u Q I a b h
 obtain⟨i,j,rfl,rfl,q⟩:=h
 obtain⟨t,rfl⟩:=a
 obtain⟨c,rfl⟩:=b
 exact notIn_str (bJ I q rfl)
theorem Ax (b:Expr){a:CmpOp}(h:a≠.In:=by decide)(c:a≠.NotIn:=by decide):behindInMarks a b=false:=by
 have e:(a==CmpOp.In)=false:=by cases a<;>first|rfl|exact absurd rfl h
 have d:(a==CmpOp.NotIn)=false:=by cases a<;>first|rfl|exact absurd rfl c
 cases b<;>simp[behindInMarks,e,d]
theorem mD(f:ji X (compareOp op) r)(i:PE X a ta)(g:PE X b tb)(c:behindInMarks op b=false):PE X (.Compare a [op] [b] pos) (gb r ta tb):=by
 intro pins s σ H Q I h
 exact wpAny_Compare1 (Jr i g I h λv u s2 x y H2 I2 d e q=>f pins s2 σ H2 x y v u Q I2 d e q) c
def jr (t:TE):TT:=λσ H Q=>t σ H λx H'=>∃k,x=.bl k/\Q k H'
theorem j_(j:ji X (compareOp op) r)(n:PE X a ta)(l:PE X b tb)(f:behindInMarks op b=false):PT X (.Compare a [op] [b] pos) (jr (gb r ta tb)):=by
 intro pins s σ H Q I h
 refine wpAny_isTrue_Compare1 (cJ (n pins s σ H _ I h) λv s1 ⟨x,H1,I1,i,m⟩=>cJ (l pins s1 σ H1 _ I1 m) λu s2 ⟨y,H2,I2,g,d⟩=>
  cJ (j pins s2 σ H2 x y v u _ I2 i g d) λc s3 ⟨z,H3,I3,r3,k,e,q3⟩=>?_) f
 subst e
 cases r3
 exact OV ⟨H3,I3,q3⟩
def uQ (r b:R2) (ta tb c:TE):TE:=λσ H Q=>ta σ H λx H1=>tb σ H1 λy H2=>r x y H2 λz H3=>∃k,z=.bl k/\
 (if k=true then c σ H3 λa H4=>b y a H4 Q else Q (.bl false) H3)
theorem nj(o:ji X (compareOp op) r)(f:ji X (compareOp op') r')(D:PE X a ta)(w:PE X b tb)(A:PE X c tc)
  (l:lastMarks [op,op'] [b,c]=false:=by with_unfolding_all rfl):PE X (.Compare a [op,op'] [b,c] pos) (uQ r r' ta tb tc):=by
 intro pins s σ H Q I h
 refine Compare_chain (cJ (D pins s σ H _ I h) λv s1 ⟨x,H1,I1,m,C⟩=>chain_link (cJ (w pins s1 σ H1 _ I1 C) λu s2 ⟨y,H2,I2,g,i⟩=>
  cJ (o pins s2 σ H2 x y v u _ I2 m g i) λd s3 ⟨z,H3,I3,r3,k,e,q3⟩=>?_)) l
 subst e
 cases r3
 refine OV ?_
 cases k with
 |false=>exact ite_ff ⟨.bl false,H3,I3,rfl,q3⟩
 |true=>exact ite_tt (chain_last (cJ (A pins s3 σ H3 _ I3 q3) λp q ⟨B,H4,I4,j,n⟩=>f pins q σ H4 y B u p Q I4 g j n))
theorem eK(n:ji X (compareOp op) r)(f:ji X (compareOp op') r')(M:PE X a ta)(p:PE X b tb)(q:PE X c tc)
  (B:lastMarks [op,op'] [b,c]=false:=by with_unfolding_all rfl):PT X (.Compare a [op,op'] [b,c] pos) (jr (uQ r r' ta tb tc)):=by
 intro pins s σ H Q I h
 refine isTrue_chain (cJ (M pins s σ H _ I h) λv s1 ⟨x,H1,I1,l,K⟩=>test_link (cJ (p pins s1 σ H1 _ I1 K) λu s2 ⟨y,H2,I2,g,i⟩=>
  cJ (n pins s2 σ H2 x y v u _ I2 l g i) λd s3 ⟨z,H3,I3,r3,k,e,q3⟩=>?_)) B
 subst e
 cases r3
 refine OV ?_
 cases k with
 |false=>
  obtain⟨k',D,A⟩:=q3
  cases D
  exact ite_ff ⟨H3,I3,A⟩
 |true=>
  refine ite_tt (test_last (cJ (q pins s3 σ H3 _ I3 q3) λJ o ⟨w,H4,I4,j,E⟩=>cJ (f pins o σ H4 y w u J _ I4 g j E) λN P G=>?_))
  obtain⟨O,H5,I5,C,k2,m,F⟩:=G
  subst m
  cases C
  exact OV ⟨H5,I5,F⟩
theorem oB:(sizeLine:Nat)<2^63:=by rw[sizeLine_eq];decide
theorem ak:ji X (binaryOp .Add) (λx y H Q=>∃i j,x=.str i/\y=.str j/\i.length+j.length<=sizeLine/\Q (.str (i++j)) H):=by
 intro pins s σ H x y v u Q I a b h
 obtain⟨i,j,rfl,rfl,c,q⟩:=h
 obtain⟨t,rfl⟩:=a
 obtain⟨d,rfl⟩:=b
 exact add_str (λd tk=>⟨.str (i++j),H,I.tok _,⟨_,rfl⟩,q⟩) c
theorem dY(r:bH [x] us):∃u,us=[u]/\bo x u:=by
 cases r with
 |cons r1 r2=>cases r2;exact⟨_,rfl,r1⟩
theorem kl(r:bH [x,y] us):∃u w',us=[u,w']/\bo x u/\bo y w':=by
 cases r with
 |cons r1 r2=>
  cases r2 with
  |cons r3 r4=>cases r4;exact⟨_,_,rfl,r1,r3⟩
theorem tE:c_ X (.builtin "abs") (λxs H Q=>∃i,xs=[.int i]/\Q (.int (if i<0 then -i else i)) H):=by
 intro pins s σ H xs a Q I r h
 obtain⟨i,rfl,q⟩:=h
 obtain⟨u,rfl,t,rfl⟩:=dY r
 exact call_abs_int λu tk=>⟨.int (if i<0 then -i else i),H,I.tok _,⟨_,rfl⟩,q⟩
theorem fZ (a:X.calm=true):c_ X (.builtin "max") (λxs H Q=>∃i j,xs=[.int i,.int j]/\Q (.int (if j>i then j else i)) H):=by
 intro pins s σ H xs b Q I r h
 obtain⟨i,j,rfl,q⟩:=h
 obtain⟨u,d,rfl,⟨t,rfl⟩,⟨c,rfl⟩⟩:=kl r
 refine max_two_ints (I.ok.hd a) λh' tk k=>⟨_,H,I.kept k,?_,q⟩
 by_cases hj:j>i
 ·rw[if_pos hj,if_pos hj];exact⟨_,rfl⟩
 ·rw[if_neg hj,if_neg hj];exact⟨_,rfl⟩
theorem iZ (a:X.calm=true):c_ X (.builtin "min") (λxs H Q=>∃i j,xs=[.int i,.int j]/\Q (.int (if j<i then j else i)) H):=by
 intro pins s σ H xs b Q I r h
 obtain⟨i,j,rfl,q⟩:=h
 obtain⟨u,d,rfl,⟨t,rfl⟩,⟨c,rfl⟩⟩:=kl r
 refine min_two_ints (I.ok.hd a) λh' tk k=>⟨_,H,I.kept k,?_,q⟩
 by_cases hj:j<i
 ·rw[if_pos hj,if_pos hj];exact⟨_,rfl⟩
 ·rw[if_neg hj,if_neg hj];exact⟨_,rfl⟩
theorem a_:c_ X (.type "str") (λxs H Q=>∃i,xs=[.int i]/\i.natAbs.log2<1920/\Q (.str (toString i)) H):=by
 intro pins s σ H xs b Q I r h
 obtain⟨i,rfl,a,q⟩:=h
 obtain⟨u,rfl,t,rfl⟩:=dY r
 exact PySem.P.str_of_int a ⟨.str _,H,I.tok _,⟨_,rfl⟩,q⟩
def EN (K:NJ) (x:V) (H:Hp) (n:Nat):Prop:=
 match x with
 | .str y=>y.length<=sizeLine/\n=y.length
 | .byt y=>y.size<=sizeLine/\n=y.size
 | .ref p=>(∃xs,bf K H p xs/\n=xs.length)\/∃xs,bY K H p xs/\n=xs.length
 |_=>False
theorem bS:c_ X (.builtin "len") (λxs H Q=>∃x n,xs=[x]/\EN X.K x H n/\Q (.int n) H):=by
 intro pins s σ H xs m Q I r h
 obtain⟨x,n,rfl,e,q⟩:=h
 obtain⟨u,rfl,f⟩:=dY r
 have o:sizeLine=16777216:=sizeLine_eq
 cases x with
 |str y=>
  obtain⟨t,rfl⟩:=f
  obtain⟨l,c⟩:y.length<=sizeLine/\n=y.length:=e
  subst c
  exact len_str (by lia) ⟨.int _,H,I.tok _,⟨_,rfl⟩,q⟩
 |byt y=>
  obtain⟨t,rfl⟩:=f
  obtain⟨l,c⟩:y.size<=sizeLine/\n=y.size:=e
  subst c
  exact PySem.W.len_bytes (by lia) ⟨.int _,H,I.tok _,⟨_,rfl⟩,q⟩
 |ref p=>
  cases f
  have c:(∃xs,bf X.K H p xs/\n=xs.length)\/∃xs,bY X.K H p xs/\n=xs.length:=e
  rcases c with ⟨xs,d,c⟩|⟨xs,d,c⟩
  ·subst c
   obtain⟨b,i,g,j⟩:=I.list d
   have a:=i.length
   exact Calls.call_len_list g.isList (by simp only[Og];lia) ⟨.int xs.length,H,I.tok _,⟨_,by simp only[Og];rw[a]⟩,q⟩
  ·subst c
   obtain⟨b,i,g,j⟩:=I.tuple d
   have a:=i.length
   exact len_tuple g (by simp only[Og];lia) ⟨.int xs.length,H,I.tok _,⟨_,by simp only[Og];rw[a]⟩,q⟩
 |_=>exact(show False from e).elim
end
structure vc (h:Heap) (x dx C:Addr) (mA:Str->Option Value):Prop where
 obj:h.get? x=some (Pc C dx)
 ns:h.Ns1 dx mA
 ne:dx≠x
set_option tactic.hygienic true in
theorem pA {h:Heap}{d:Addr}{c:Str->Option Value}(n:h.Ns1 d c):∃f,h.get? d=some f/\∀name,PySem.W.lookIn name f=some (c name):=by
 obtain⟨o,es,ep,j,p,l,_,g⟩:=n
 refine⟨o,j,λname=>?_⟩
 have e:=g name
 unfold nsFind findBy at e
 rw[<-Array.find?_toList] at e
 unfold PySem.W.lookIn
 rw[p]
 dsimp only
 split
 ·rename_i y q
  rw[q] at e
  exact congrArg some e
 ·rename_i q
  rw[q] at e
  have a:es.toList.any (·.refKey)=false:=by
   rw[List.any_eq_false]
   intro y m
   obtain⟨z,t,b⟩:=l y (Pf.mp m)
   simp[DictEntry.refKey,b]
  have i:¬es.toList.any (·.refKey)=true:=by rw[a];exact NY
  rw[if_neg i]
  exact congrArg some e
theorem vc.look(I:vc h x dx C mA):∃a,PySem.W.InstAt h x (Pc C dx) C (some a)/\∀name,PySem.W.lookIn name a=some (mA name):=
 let ⟨a,ho,hl⟩:=pA I.ns
 ⟨a,⟨I.obj,rfl,rfl,ho⟩,hl⟩
section
variable {x dx C f:Addr} {mA:Str->Option Value} {name:Str} {v:Value}
theorem EA(X:K.In s.heap)(I:vc s.heap x dx C mA)(e:Qh K C name=true)(d:Qi K C=true)
  (f:Oh K (.ref C) name=some none) (b:mA name=some v) (a:PySem.W.handedIn v=true) (h:Q v {s with toks:=s.toks+1}):
  wpAny (model prog w) A (getAttr (.ref x) name expr) Q E s:=by
 obtain⟨g,J,c⟩:=I.look
 exact PySem.W.get_value X J (PySem.W.plainGet_of e).1 (PySem.W.findObj_own d f rfl (by rw[c,b])) a h
theorem DQ {pl:Sem Bool}{Q:Value×List Value->Shared->Prop}(X:K.In s.heap)(I:vc s.heap x dx C mA)(a:Qh K C name=true)
  (hf:Oh K (.ref C) name=some (some (.ref f))) (b:OX K (.ref f)=true) (d:mA name=none) (h:Q (.ref f,[.ref x]) s):
  wpAny (model prog w) A (getMethod (.ref x) name pl) Q E s:=by
 obtain⟨e,J,c⟩:=I.look
 exact PySem.W.method_fn X J (PySem.W.plainGet_of a).1 (PySem.W.plainGet_of a).2 hf (beq_iff_eq.mp b) (by show(PySem.W.lookIn name e).map (·.isSome)=some false;rw[c,d];rfl) h
theorem FY{ns:List Str}{Q:Unit->Shared->Prop}(X:K.In s.heap)(I:vc s.heap x dx C mA)
  (n:Oh K (.ref C) "__setattr__" =some (some (.builtin "object.__setattr__"))) (p:PySem.W.plainOver K C=true) (q:PySem.W.takerIn K C name=some none) (o:Qi K C=true)
  (u:PySem.Within mA ns) (hsz:ns.length<=sizeLine)
  (h:∀h',vc h' x dx C (λy=>if y=name then some v else mA y)->Heap.SameBut dx s.heap h'->Q () {s with heap:=h',toks:=s.toks+2}):
  wpAny (model prog w) A (setAttr (.ref x) name v) Q E s:=by
 obtain⟨F,J,B⟩:=I.look
 refine PySem.W.set_plain X J n (PySem.W.osa_open (s:={s with toks:=s.toks+1}) (r:=none) X J p q λb=>?_)
 obtain⟨cd,z,f⟩:=PySem.W.any_some o
 have m:s.heap.get? x=some ⟨.ref C,some dx,.plain,#[]⟩:=I.obj
 refine ND (NH (ND (ND (wpAny_loadPart m (ND (OQ.here (s:={s with toks:=s.toks+1}) (PySem.W.looks_clsIn X z) ?_))))))
 rw[f]
 refine NH (a:=some dx) (ND (NH (ND ?_)))
 refine wpAny_nsSet1 (s:={s with toks:=s.toks+1}) I.ns λh' j l=>?_
 obtain⟨D,g,i,e,d,c⟩:=j.count (PySem.Within.cons name v u)
 refine ND (wpAny_lookBehind e (by rw[d];exact pastItsLine_dict (NP c (by rw[NU];lia))) ?_)
 exact NH (h _ ⟨(l.2 _ (N6 I.ne)).trans I.obj,j,I.ne⟩ l)
theorem B9{b:List (Str×Value)}(X:K.In s.heap)(c:PySem.W.makesIn K C=true)
  (hi:Oh K (.ref C) "__init__" =some (some (.ref f))) (hf:PySem.W.typeIn K (.ref f)=some (.type "function"))
  (h:codeAny (model prog w) (A.under (.builtin "type.__call__" ⟨.ref C::vs,b⟩)) (.call (.ref f) ⟨.ref (s.heap.objs.size+1)::vs,b⟩) (PySem.W.InitBack (s.heap.objs.size+1) R)
   {s with heap:=(s.heap.push O8).push (Pc C s.heap.objs.size)}):
  codeAny (model prog w) A (.call (.ref C) ⟨vs,b⟩) R s:=by
 exact PySem.W.make_core (PySem.W.makes_of X c) (PX X hi) (λa=>PySem.W.bind_fn X a hf) (.inl rfl) h
end
noncomputable def fc (f:Str) (v:V):List (Str×V)->List (Str×V)
 |[]=>[(f,v)]
 |(g,x)::r=>if g=f then (g,v)::r else (g,x)::fc f v r
theorem aQ (f g:Str)(v:V):∀fs:List (Str×V),(fc f v fs).lookup g=if g=f then some v else fs.lookup g
 |[]=>by
  show OM g [(f,v)]=_
  by_cases h:g=f
  ·have a:(g==f)=true:=beq_iff_eq.mpr h
   simp only[OM,a,if_pos h]
  ·have a:(g==f)=false:=beq_eq_false_iff_ne.mpr h
   simp only[OM,a,if_neg h]
 |(k,x)::r=>by
  have b:=aQ f g v r
  rw[show fc f v ((k,x)::r)=(if k=f then (k,v)::r else (k,x)::fc f v r) from rfl]
  by_cases hk:k=f
  ·rw[if_pos hk]
   by_cases h:g=k
   ·have a:(g==k)=true:=beq_iff_eq.mpr h
    simp only[OM,a,if_pos (h.trans hk)]
   ·have a:(g==k)=false:=beq_eq_false_iff_ne.mpr h
    simp only[OM,a,if_neg (λe:g=f=>h (e.trans hk.symm))]
  ·rw[if_neg hk]
   by_cases h:g=k
   ·have a:(g==k)=true:=beq_iff_eq.mpr h
    simp only[OM,a,if_neg (λe:g=f=>hk (h.symm.trans e))]
   ·have a:(g==k)=false:=beq_eq_false_iff_ne.mpr h
    simp only[OM,a]
    exact b
theorem lB (f:Str)(v:V):∀fs:List (Str×V),f∈(fc f v fs).map (·.1)/\∀g,g∈fs.map (·.1)->g∈(fc f v fs).map (·.1)
 |[]=>⟨by simp[fc],λg h=>by simp at h⟩
 |(k,x)::r=>by
  obtain⟨a,b⟩:=lB f v r
  rw[show fc f v ((k,x)::r)=(if k=f then (k,v)::r else (k,x)::fc f v r) from rfl]
  by_cases hk:k=f
  ·rw[if_pos hk]
   subst hk
   exact⟨by simp,λg h=>by simpa using h⟩
  ·rw[if_neg hk]
   refine⟨?_,λg h=>?_⟩
   ·rw[NQ]
    exact NV _ a
   ·rw[NQ] at h|-
    rcases NK.mp h with e|e
    ·exact NK.mpr (.inl e)
    ·exact NV _ (b g e)
theorem bN (f:Str)(v:V):∀fs:List (Str×V),(fc f v fs).length<=fs.length+1
 |[]=>by simp[fc]
 |(k,x)::r=>by
  have a:=bN f v r
  rw[show fc f v ((k,x)::r)=(if k=f then (k,v)::r else (k,x)::fc f v r) from rfl]
  by_cases hk:k=f
  ·rw[if_pos hk,NU,NU];lia
  ·rw[if_neg hk,NU,NU];lia
theorem iP.some_of{o:Option Value}(r:iP (some v) o):∃u,o=some u/\bo v u:=by
 cases o with
 |none=>exact(show False from r).elim
 |some u=>exact⟨u,rfl,r⟩
theorem iP.none_of {o:Option Value}(r:iP none o):o=none:=by
 cases o with
 |none=>rfl
 |some u=>exact(show False from r).elim
theorem o8(r:bo v u):PySem.W.handedIn u=true:=by
 cases v with
 |non=>cases(show u=Value.none from r);rfl
 |bl b=>cases(show u=Value.bool b from r);rfl
 |int i=>obtain⟨t,e⟩:=(show∃t,u=Value.int i t from r);cases e;rfl
 |str x=>obtain⟨t,e⟩:=(show∃t,u=Value.str x t from r);cases e;rfl
 |byt b=>obtain⟨t,e⟩:=(show∃t,u=Value.bytes b t from r);cases e;rfl
 |flt b=>obtain⟨t,e⟩:=(show∃t,u=Value.float b t from r);cases e;rfl
 |ref a=>cases(show u=Value.ref a from r);rfl
 |ty n=>cases(show u=Value.type n from r);rfl
section
variable {P:Program} {H':Hp} {h h':Heap} {a C dx:Addr} {fs fs':List (Str×V)}
theorem lZ (b:iy P w H h)(e:H a=some (.ins C dx fs)):∃mA,vc h a dx C mA/\(∀f,iP (fs.lookup f) (mA f))/\PySem.Within mA (fs.map (·.1))/\fs.length<=1000/\H dx=some (.own a):=by
 obtain⟨d,z,c,g,mA,n,r,q⟩:=(show cg P w H h a (.ins C dx fs) from b a _ e)
 exact⟨mA,⟨g,n,c⟩,r,q,z,d⟩
end
structure mF (K:NJ) (C:Addr):Prop where
 pg:Qh K C Str.empty=true
 hd:Qi K C=true
 po:PySem.W.plainOver K C=true
 sa:Oh K (.ref C) "__setattr__" =some (some (.builtin "object.__setattr__"))
theorem mF.get {C:Addr}(c:mF K C)(f:Str):Qh K C f=true:=c.pg
def bL (K:NJ) (C:Addr) (f:Str):Prop:=Oh K (.ref C) f=some none
theorem bL.taker {C:Addr}{f:Str}(n:bL K C f):PySem.W.takerIn K C f=some none:=by
 unfold PySem.W.takerIn
 rw[show Oh K (.ref C) f=some none from n]
 rfl
structure LU (K:NJ) (C:Addr) (m:Str) (f:Addr):Prop where
 at_:Oh K (.ref C) m=some (some (.ref f))
 fn:OX K (.ref f)=true
 kp:Oo K (.ref f)=true
section
variable {a C dx:Addr} {fs:List (Str×V)} {f:Str} {v:V}
theorem uR(I:aM X pins σ H s)(e:H a=some (.ins C dx fs))(c:mF X.K C)(n:bL X.K C f)(l:fs.lookup f=some v)
  (h:∀u s',aM X pins σ H s'->bo v u->Q u s'):wpAny (model X.prog X.w) A (getAttr (.ref a) f b) Q E s:=by
 obtain⟨mA,O,r,_,_,_⟩:=lZ I.hok e
 obtain⟨u,g,d⟩:=iP.some_of (v:=v) (o:=mA f) (by rw[<-l];exact r f)
 exact EA I.kIn O (c.get f) c.hd n g (o8 d) (h u _ (I.tok _) d)
theorem jz{pl:Sem Bool}{Q:Value×List Value->Shared->Prop}(I:aM X pins σ H s)(e:H a=some (.ins C dx fs))(c:mF X.K C)(k:LU X.K C m g)(l:fs.lookup m=none)
  (h:Q (.ref g,[.ref a]) s):wpAny (model X.prog X.w) A (getMethod (.ref a) m pl) Q E s:=by
 obtain⟨mA,O,r,_,_,_⟩:=lZ I.hok e
 have b:mA m=none:=iP.none_of (by rw[<-l];exact r m)
 exact DQ I.kIn O (c.get m) k.at_ k.fn b h
theorem uK{Q:Unit->Shared->Prop}(I:aM X pins σ H s)(e:H a=some (.ins C dx fs))(c:mF X.K C)(n:bL X.K C f)(v:fs.length<1000)(i:bo y u)
  (h:∀s',aM X pins σ (upd H a (.ins C dx (fc f y fs))) s'->Q () s'):wpAny (model X.prog X.w) A (setAttr (.ref a) f u) Q E s:=by
 obtain⟨mA,O,r,wi,_,d⟩:=lZ I.hok e
 have l:(fs.map (·.1)).length<=sizeLine:=by rw[NG,sizeLine_eq];lia
 refine FY I.kIn O c.sa c.po n.taker c.hd wi l λh' O' sb=>h _ ?_
 have p:∃o,h'.get? dx=some o:=let ⟨o,_,_,e',_⟩:=O'.ns;⟨o,e'⟩
 refine I.write (x:=a) (e:=dx) (by rw[e];exact True.intro) (.inr d) (λb q m z=>(sb.2 b m).trans z) p ?_
 refine⟨by rw[ay O.ne];exact d,?_,O.ne,O'.obj,_,O'.ns,λg=>?_,λg j=>?_⟩
 ·have:=bN f y fs;lia
 ·show iP ((fc f y fs).lookup g) (if g=f then some u else mA g)
  rw[aQ]
  by_cases q:g=f
  ·rw[if_pos q,if_pos q];exact i
  ·rw[if_neg q,if_neg q];exact r g
 ·by_cases q:g=f
  ·rw[q];exact(lB f y fs).1
  ·refine(lB f y fs).2 g (wi g λz=>j ?_)
   show(if g=f then some u else mA g)=none
   rw[if_neg q];exact z
theorem aM.made (I:aM X pins σ H s):aM X pins σ (upd (upd H s.heap.objs.size (.own (s.heap.objs.size+1))) (s.heap.objs.size+1) (.ins C s.heap.objs.size []))
  {s with heap:=(s.heap.push O8).push (Pc C s.heap.objs.size)}:=by
 have d:(s.heap.push O8).get? s.heap.objs.size=some O8:=NZ s.heap rfl
 have f:((s.heap.push O8).push (Pc C s.heap.objs.size)).get? (s.heap.objs.size+1)=some (Pc C s.heap.objs.size):=by
  have:=NZ (s.heap.push O8) (o:=Pc C s.heap.objs.size) rfl
  rwa [OH] at this
 have j:(s.heap.push O8).Ns s.heap.objs.size (λ_=>none):=⟨O8,#[],_,d,rfl,(λe g=>absurd g (by simp)),λ_=>rfl⟩
 have h:=I.laid (a:=s.heap.objs.size) (o:=.own (s.heap.objs.size+1)) (h':=s.heap.push O8) (t':=s.toks) (λb u q=>NN _ q) (NI _) ⟨_,d⟩
 refine h.laid (a:=s.heap.objs.size+1) (o:=.ins C s.heap.objs.size []) (t':=s.toks) (λb u q=>NN _ q) (Nat.le_of_eq (OH _ _)) ?_
 have c:s.heap.objs.size≠s.heap.objs.size+1:=NS (PY _)
 refine⟨by rw[ay c,ah],N9 _,c,f,λ_=>none,(Heap.Ns1.of_empty j).at λo q=>NN _ q,λ_=>True.intro,λy i=>absurd rfl i⟩
theorem xK(b:attributeBase e f env (eval e env)=eval e env)
  (h:wpAny (model prog w) A (eval e env) (λo a=>wpAny (model prog w) A (getAttr o f true) Q E a) E s):wpAny (model prog w) A (eval (.Attribute e f pos) env) Q E s:=
 Attribute_any_ h (by rw[arm_eval_Attribute,b])
end
def FR (K:NJ) (ta:TE) (f:Str):TE:=λσ H Q=>ta σ H λx H1=>∃a C dx fs v,x=.ref a/\H1 a=some (.ins C dx fs)/\mF K C/\bL K C f/\fs.lookup f=some v/\Q v H1
def My (K:NJ) (ta b:TE) (f:Str):TS:=λD σ H=>b σ H λy H1=>ta σ H1 λx H2=>∃a C dx fs,x=.ref a/\H2 a=some (.ins C dx fs)/\mF K C/\bL K C f/\fs.length<1000/\
 D.nx σ (upd H2 a (.ins C dx (fc f y fs)))
section
variable {o e value:Expr} {f:Str} {pos pos' tpos:Pos} {ta tv:TE}
theorem dD (d:PE X e ta)(j:attributeBase e f X.env (eval e X.env)=eval e X.env):PE X (.Attribute e f pos) (FR X.K ta f):=by
 intro pins s σ H Q I h
 refine xK j (cJ (d pins s σ H _ I h) λu s1 i=>?_)
 obtain⟨x,H1,I1,b,a,C,dx,fs,v,ex,m,c,n,l,q⟩:=i
 subst ex
 obtain rfl:u=Value.ref a:=b
 exact uR I1 m c n l λo s2 I2 g=>⟨v,H1,I2,g,q⟩
theorem fw (r:PE X o ta)(j:PE X value tv)(e:swapsWith value (some (.Attribute o f pos')) pos.line X.env=pure false):PS X (.Assign [.Attribute o f pos'] value pos) (My X.K ta tv f):=by
 intro pins s σ H D I h
 refine plainObj_wpAny_Assign_Attribute (cJ (j pins s σ H _ I h) λu s1 ⟨y,H1,I1,i,q⟩=>cJ (r pins s1 σ H1 _ I1 q) λg s2 m=>?_) e
 obtain⟨x,H2,I2,d,a,C,dx,fs,ex,p,c,n,l,b⟩:=m
 subst ex
 obtain rfl:g=Value.ref a:=d
 exact uK I2 p c n l i λs3 I3=>⟨σ,_,I3,b⟩
end
section
variable {Q:Value->Shared->Prop} {c:Value} {b:Bool}
inductive kU (K:NJ) (H:Hp):V->Value->Prop where
 |non:kU K H .non (.type "NoneType")
 |bl (x:Bool):kU K H (.bl x) (.type "bool")
 |int (i:Int):kU K H (.int i) (.type "int")
 |str (x:Str):kU K H (.str x) (.type "str")
 |flt (x:UInt64):kU K H (.flt x) (.type "float")
 |lst {a:Addr} {xs:List V} (e:H a=some (.lst xs)):kU K H (.ref a) (.type "list")
 |frz {a:Addr} {o:Obj} {xs:List V} (e:H a=some (.frz o (.lst xs))):kU K H (.ref a) (.type "list")
 |tup {a:Addr} {xs:List V} (e:H a=some (.tup xs)):kU K H (.ref a) (.type "tuple")
 |dK {a:Addr} {kvs:List (dq×V)} (e:H a=some (.dK kvs)):kU K H (.ref a) (.type "dict")
 |dT {a:Addr} {kvs:List (List dq×V)} (e:H a=some (.dT kvs)):kU K H (.ref a) (.type "dict")
 |ins {a C dx:Addr} {fs:List (Str×V)} (e:H a=some (.ins C dx fs)) (cl:mF K C) (ha:Oh K (.ref C) "__class__" =some (some (.builtin "object.__class__")))
   (hn:Qj K (.builtin "object.__class__") "__get__" =some (some (.builtin "getset_descriptor.__get__"))) (htk:PySem.W.takesIn K (.builtin "object.__class__")=some true)
   (hm:Qk K C (.type "object")=some true):kU K H (.ref a) (.ref C)
theorem pD(I:aM X pins σ H s)(d:bo x u)(ty:kU X.K H x t)(e:OD X.K t c=some b)(h:∀tk,Q (.bool b) {s with toks:=tk}):
  wpAny (model X.prog X.w) A (call (.builtin "isinstance") [u,c]) Q E s:=by
 cases ty with
 |non=>cases(show u=Value.none from d);exact OI PySem.W.kitx_none I.kIn True.intro e (λz=>nomatch z) h
 |bl y=>cases(show u=Value.bool y from d);exact OI PySem.W.kitx_bool I.kIn True.intro e (λz=>nomatch z) h
 |int i=>obtain⟨t,q⟩:=(show∃t,u=Value.int i t from d);cases q;exact OI PySem.W.kitx_int I.kIn True.intro e (λz=>nomatch z) h
 |str y=>obtain⟨t,q⟩:=(show∃t,u=Value.str y t from d);cases q;exact OI PySem.W.kitx_str I.kIn True.intro e (λz=>nomatch z) h
 |flt y=>obtain⟨t,q⟩:=(show∃t,u=Value.float y t from d);cases q;exact OI PySem.W.kitx_float I.kIn True.intro e (λz=>nomatch z) h
 | @lst a xs ea=>
  cases(show u=Value.ref a from d)
  obtain⟨_,_,n,_,h1⟩:=(show cg X.prog X.w H s.heap a (.lst xs) from I.hok a _ ea)
  exact OI PySem.W.kitx_list I.kIn ⟨_,h1,rfl⟩ e (λz=>nomatch z) h
 | @frz a ob xs ea=>
  cases(show u=Value.ref a from d)
  obtain⟨_,_,_,n,_,h1⟩:=(show cg X.prog X.w H s.heap a (.frz ob (.lst xs)) from I.hok a _ ea)
  exact OI PySem.W.kitx_list I.kIn ⟨_,h1,rfl⟩ e (λz=>nomatch z) h
 | @tup a xs ea=>
  cases(show u=Value.ref a from d)
  obtain⟨_,_,_,p⟩:=(show cg X.prog X.w H s.heap a (.tup xs) from I.hok a _ ea)
  obtain⟨o,h1,h2,_⟩:=p
  exact OI PySem.W.kitx_tuple I.kIn ⟨o,h1,h2⟩ e (λz=>nomatch z) h
 | @dK a kvs ea=>
  cases(show u=Value.ref a from d)
  obtain⟨_,_,vs,_,p⟩:=(show cg X.prog X.w H s.heap a (.dK kvs) from I.hok a _ ea)
  obtain⟨o,es,ep,h1,h2,_⟩:=p
  exact OI PySem.W.kitx_dict I.kIn ⟨o,h1,h2.1⟩ e (λz=>nomatch z) h
 | @dT a kvs ea=>
  cases(show u=Value.ref a from d)
  obtain⟨_,_,xs,_,o,es,ep,h1,h2,_⟩:=(show cg X.prog X.w H s.heap a (.dT kvs) from I.hok a _ ea)
  exact OI PySem.W.kitx_dict I.kIn ⟨o,h1,h2.1⟩ e (λz=>nomatch z) h
 | @ins a C dx fs ea cl ha hn htk hm=>
  cases(show u=Value.ref a from d)
  obtain⟨mA,O,_⟩:=lZ I.hok ea
  obtain⟨f,J,_⟩:=O.look
  exact OI (PySem.W.kitx_own (cl.get _) cl.hd ha hn htk hm) I.kIn J e (λz=>nomatch z) h
end
structure dh (k:Nat) (A:Around):Prop where
 hd:A.handled=none
 dp:A.depth+3*k+5<recursionLimit
 un:A.units+16*k+200<cLine
 gd:A.guards=some []
theorem dh.mono(r:dh k A)(h:j<=k):dh j A:=⟨r.hd,by have:=r.dp;lia,by have:=r.un;lia,r.gd⟩
theorem dh.deeper(r:dh (k+1) A)(env:Env):dh k (A.deeper env):=
 ⟨r.hd,by have:=r.dp;show A.depth+1+3*k+5<_;lia,by have:=r.un;show A.units+3+16*k+200<_;lia,r.gd⟩
theorem u6 {C:Addr}{us:List Value}{a:List (Str×Value)}:(A.under (.builtin "type.__call__" ⟨.ref C::us,a⟩)).depth=A.depth+1:=by
 first|rfl|simp[Around.under,Code.weight,Code.isCreation,Code.isGuard,Code.isCaller,Code.frames,Code.isFrame,guardIds]
theorem uD {C:Addr}{us:List Value}{a:List (Str×Value)}:(A.under (.builtin "type.__call__" ⟨.ref C::us,a⟩)).units=A.units+1:=by
 first|rfl|simp[Around.under,Code.cUnits,Code.frames,Code.isFrame]
theorem sj {C:Addr}{us:List Value}{a:List (Str×Value)}:(A.under (.builtin "type.__call__" ⟨.ref C::us,a⟩)).guards=A.guards:=by
 first|rfl|simp[Around.under,Code.isGuard,Code.guards,guardIds]
theorem dh.make(r:dh (k+1) A)(C:Addr)(us:List Value)(a:List (Str×Value)):dh k (A.under (.builtin "type.__call__" ⟨.ref C::us,a⟩)):=
 ⟨r.hd,by have:=r.dp;rw[u6];lia,by have:=r.un;rw[uD];lia,by rw[sj];exact r.gd⟩
theorem dh.depth(r:dh k A):A.depth<recursionLimit:=by have:=r.dp;lia
theorem dh.units(r:dh k A):A.units+64<cLine:=by have:=r.un;lia
def dv:TA:=λ_ H Q=>Q [] H
def b9 (ta:TE) (tr:TA):TA:=λσ H Q=>ta σ H λx H1=>tr σ H1 λxs H2=>Q (x::xs) H2
section
variable {e:Expr} {es:List Expr} {te:TE} {t:TA} {pos:Pos}
theorem kG:PA X [] dv:=λ_ _ _ _ H Q I h=>Calls.spliced_nil ⟨[],H,I,.nil,h⟩
theorem ax (j:PE X e te)(f:PA X es t)(c:starEach (e::es) X.env=(false,eval e X.env)::starEach es X.env:=by rfl):PA X (e::es) (b9 te t):=by
 intro pos pins s σ H Q I h
 rw[c]
 refine Calls.spliced_cons (cJ (j pins s σ H _ I h) λu s1 g=>?_)
 obtain⟨x,H1,I1,d,i⟩:=g
 exact cJ (f pos pins s1 σ H1 _ I1 i) λl s2 ⟨xs,H2,I2,b,a⟩=>⟨x::xs,H2,I2,.cons d b,a⟩
def vK (t:TA):TE:=λσ H Q=>t σ H λxs H1=>xs.length<=sizeLine/\∀p,H1 p=none->Q (.ref p) (upd H1 p (.tup xs))
def mU (t:TA):TE:=λσ H Q=>t σ H λxs H1=>xs.length<=sizeLine/\∀p,H1 p=none->Q (.ref p) (upd H1 p (.lst xs))
theorem c9 {x1}(h:PA X es t):PE X (.Tuple es x1 pos) (vK t):=by
 intro pins s σ H Q I d
 refine wpAny_Tuple_spliced (cJ (h pos pins s σ H _ I d) λc s1 ⟨xs,H1,I1,r,z,q⟩=>⟨by rw[<-r.length];exact z,?_⟩)
 have a:H1 s1.heap.objs.size=none:=I1.hok.fresh (NI _)
 refine⟨.ref s1.heap.objs.size,upd H1 s1.heap.objs.size (.tup xs),I1.laid (t':=s1.toks) (λb u e=>NN _ e) (NI _) ?_,rfl,q _ a⟩
 exact⟨z,c,r,⟨_,NZ _ rfl,rfl,_,rfl⟩⟩
theorem cf (h:PA X es t):PE X (.List es pos) (mU t):=by
 intro pins s σ H Q I d
 refine wpAny_List_spliced (cJ (h pos pins s σ H _ I d) λc s1 ⟨xs,H1,I1,r,z,q⟩=>⟨by rw[<-r.length];exact z,?_⟩)
 have a:H1 s1.heap.objs.size=none:=I1.hok.fresh (NI _)
 refine⟨.ref s1.heap.objs.size,upd H1 s1.heap.objs.size (.lst xs),I1.laid (t':=s1.toks) (λb u e=>NN _ e) (NI _) ?_,rfl,q _ a⟩
 exact⟨z,c,0,r,NZ _ rfl⟩
end
abbrev Sp:=List V->Hp->VK->XK->Prop
abbrev Nl:=List Env->Hp->Shared->XK->Value->Shared->Prop
structure vp (P:Program) (w:World) (K:NJ) (mg:Str->Option Value) (base:Heap) (A:Around) (outer:List Env) (s:Shared) (H:Hp):Prop where
 frames:A.frames=some outer
 mod:Mod K mg base
 bs:∀b o,base.get? b=some o->s.heap.get? b=some o/\H b=none
 bsz:base.objs.size<=s.heap.objs.size
 funs:s.heap.FunFrames base outer
 frf:∀b∈frs outer,H b=none
 hok:iy P w H s.heap
 bare:AllBare s.gens
abbrev E0:XK:=λ_ _ _=>False
def um (h:Heap) (a T:Addr) (C:Value) (dd:Option Addr) (c:Value):Prop:=∃(oe:Obj) (vs:Array Value) (b:Obj) (ts:Array Value),h.get? a=some oe/\oe.cls=C/\oe.dict=dd/\oe.data=.fields vs/\vs[1]?=some (.ref T)/\T≠a/\h.get? T=some b/\b.data=.fields ts/\ts[3]?=some c
structure L6 (base:Heap) (l:List Env) (e T:Addr) (cls:Value) (dd:Option Addr) (fl:Value) (h h':Heap):Prop where
 stay:base.StaysIn h'
 frs:h'.FunFrames base l
 nT:base.get? T=none
 fl:um h' e T cls dd fl
 sl:h.UpToSlots h'
theorem ze (f:Array Value->Array Value)(o:Obj):(Obj.mapFields f o).dict=o.dict:=by obtain⟨_,_,d,_⟩:=o;cases d<;>rfl
section
variable {M:Model} {env:Env} {outer:List Env} {L e T:Addr} {oe:Obj} {vs:Array Value} {Q:Unit->Shared->Prop} {cls fl:Value} {dd:Option Addr}
theorem C8(F:A.frames=some (env::outer))(z:s.heap.FunFrames base (env::outer))(hf:env.frame=some L)(I:s.heap.get? e=some oe)(H:base.StaysIn s.heap)(K:base.get? e=none)(hd:oe.data=.fields vs)(hsz:1<vs.size)
  (h:∀h' T,L6 base (env::outer) e T oe.cls oe.dict (rawInt L) s.heap h'->Q () {s with heap:=h'}):
  wpAny M A (do let a<-frameOf env;let B<-entryPlaceOf L nx;let b<-EntryCells.newEntry head a .none (rawInt L) .none B;setField (.ref e) 1 b) Q E s:=by
 have n:e∉(env::outer).filterMap (·.frame):=λG=>by
  obtain⟨_,o,N,c⟩:=z.mem G
  rw[I] at N;cases N;exact c vs hd
 refine ND (wpAny_frameOf_fun F z hf λh₁ v=>ND (wpAny_entryPlaceOf λB y=>?_))
 refine ND (Ph ?_ (y.sizeOk5 _ _ _ _ _))
 generalize D:({cls:=.type "traceback",dict:=none,data:=.fields ([head,.ref L,.none,rawInt L,.none]++(if B.isEmpty then List.replicate 6 Value.none else B)).toArray}:Obj)=oT
 have r:∃ts,oT.data=.fields ts/\ts[3]?=some (rawInt L):=⟨_,by rw[<-D],by first|(simp;done)|(rcases y with rfl|⟨_,_,_,_,_,_,_,rfl⟩<;>simp)⟩
 obtain⟨ts,g,p⟩:=r
 have l:h₁.get? e=some oe:=(v.2.1 e n).trans I
 have f:base.StaysIn h₁:=λb o w=>(v.2.1 b λG=>by rw[(z.mem G).1] at w;cases w).trans (H b o w)
 have j:=NN (h:=h₁) oT l
 refine Pi j hd hsz (h _ h₁.objs.size ?_)
 have m:h₁.objs.size≠e:=O7 (NO l)
 have i:=Obj.data_mapFields hd (·.setIfInBounds 1 (Value.ref h₁.objs.size))
 have d:∀b o,b≠e->h₁.get? b=some o->((h₁.push oT).update e (Obj.mapFields (·.setIfInBounds 1 (Value.ref h₁.objs.size)))).get? b=some o:=λb o J x=>by
  rw[PD _ _ (N6 J)]
  exact NN _ x
 have u:∀b o,s.heap.get? b=some o->(∀vs,o.data≠.fields vs)->b≠e:=λb o x c q=>by
  rw[q,I] at x;cases x;exact c vs hd
 have C:s.heap.UpToSlots ((h₁.push oT).update e (Obj.mapFields (·.setIfInBounds 1 (Value.ref h₁.objs.size)))):=λb o x c=>by
  obtain⟨C,O⟩:=v.2.2 b o x
  exact⟨C,d b _ (u b o x c) O⟩
 exact⟨λb o w=>d b o (λq=>by rw[q,K] at w;cases w) (f b o w),z.of_keeps λb o x c=>let ⟨_,e⟩:=C b o x c;⟨_,e,rfl⟩,f.fresh,
  ⟨_,_,_,_,OR _ j (Obj.isFreed_of_fields i),Obj.cls_mapFields _ _,ze _ _,i,by simp[hsz],m,(PD _ _ (N6 m)).trans (NZ h₁ (Obj.isFreed_of_fields g)),g,p⟩,C⟩
theorem FK(r:base.StaysIn s.heap)(z:s.heap.FunFrames base l)(n:base.get? T=none)(B:um s.heap e T cls dd fl)
  {v:Option Addr} (h:∀h',L6 base l e T cls dd (v.elim .none λf=>rawInt f) s.heap h'->Q () {s with heap:=h'}):wpAny M A (setFlight (.ref e) v) Q E s:=by
 obtain⟨oe,vs,F,ts,x,D,g,y,h1,d,p,c,C⟩:=B
 have w:3<ts.size:=(PZ.mp C).1
 have a:∀b,b≠T->(s.heap.update T (Obj.mapFields (·.setIfInBounds 3 (v.elim Value.none λf=>rawInt f)))).get? b=s.heap.get? b:=λb j=>PD _ _ (N6 j)
 have u:∀b o,s.heap.get? b=some o->(∀vs,o.data≠.fields vs)->(s.heap.update T (Obj.mapFields (·.setIfInBounds 3 (v.elim Value.none λf=>rawInt f)))).get? b=some o:=λb o j i=>(a b λq=>by
  rw[q,p] at j;cases j;exact i ts c).trans j
 refine ND (Oq x y h1 ?_)
 exact Pi p c w (h _ ⟨λb o m=>(a b λq=>by rw[q,n] at m;cases m).trans (r b o m),z.of_keeps λb o j i=>⟨o,u b o j i,rfl⟩,n,
  ⟨oe,vs,_,_,(a e (N6 d)).trans x,D,g,y,h1,d,OR _ p (Obj.isFreed_of_fields (Obj.data_mapFields c _)),Obj.data_mapFields c _,by simp[w]⟩,λb o j i=>⟨o.slots,u b o j i⟩⟩)
theorem KY (p:A.frames=some (env::outer))(u:s.heap.FunFrames base (env::outer))(hf:env.frame=some L)(l:base.get? T=none)(w:um s.heap e T cls dd fl)(j:base.StaysIn s.heap)(m:base.get? e=none)
  (h:∀h' T,L6 base (env::outer) e T cls dd (rawInt L) s.heap h'->Q () {s with heap:=h'}):wpAny M A (noteFrame (.ref e) env) Q E s:=by
 obtain⟨oe,vs,B,ts,v,rfl,rfl,z,h1,d,n,c,y⟩:=id w
 unfold noteFrame
 simp only[hf]
 refine ND (Oq v z h1 (ND (Oq n c y ?_)))
 by_cases hq:fl=rawInt L
 ·subst hq
  rw[if_pos (by simp)]
  exact NH (h _ _ ⟨j,u,l,w,λb o e _=>⟨_,e⟩⟩)
 ·rw[if_neg (by simpa using hq)]
  have a:∀b,b≠T->(s.heap.update T (Obj.mapFields (·.setIfInBounds 3 Value.none))).get? b=s.heap.get? b:=λb i=>PD _ _ (N6 i)
  have r:s.heap.UpToSlots (s.heap.update T (Obj.mapFields (·.setIfInBounds 3 Value.none))):=λb o i g=>⟨o.slots,(a b λq=>by
   rw[q,n] at i;cases i;exact g ts c).trans i⟩
  refine ND (Pi n c (PZ.mp y).1 ?_)
  exact C8 p (u.of_keeps λb o i g=>let ⟨_,e⟩:=r b o i g;⟨_,e,rfl⟩) hf ((a e (N6 d)).trans v) (λb o f=>(a b λq=>by rw[q,l] at f;cases f).trans (j b o f)) m z (PZ.mp h1).1
   λh' T x=>h h' T ⟨x.stay,x.frs,x.nT,x.fl,r.trans x.sl⟩
end
theorem cg.there(x:cg P w H h a o):∃ob,h.get? a=some ob:=by
 cases o with
 |lst xs=>obtain⟨_,_,_,_,e⟩:=x;exact⟨_,e⟩
 |tup xs=>obtain⟨_,_,_,ob,e,_⟩:=x;exact⟨_,e⟩
 |dK kvs=>obtain⟨_,_,_,_,o,_,_,e,_⟩:=x;exact⟨_,e⟩
 |dT kvs=>obtain⟨_,_,_,_,o,_,_,e,_⟩:=x;exact⟨_,e⟩
 |set S n=>obtain⟨o,_,_,_,e,_⟩:=x;exact⟨_,e⟩
 |ins C dx fs=>obtain⟨_,_,_,e,_⟩:=x;exact⟨_,e⟩
 |own y=>exact x
 |xd fs=>obtain⟨_,⟨_,_,_,e,_⟩,_⟩:=x;exact⟨_,e⟩
 |rng lo hi=>obtain⟨_,_,_,e⟩:=x;exact⟨_,e⟩
 |frz ob u=>obtain⟨e,_⟩:=x;exact⟨_,e⟩
 |tbl ps=>exact⟨_,(show h.get? a=some _ from x)⟩
 |met f y=>exact⟨_,(show h.get? a=some _ from x)⟩
 |ext φ=>exact x.2.1
theorem iy.none_of(x:iy P w H h)(e:h.get? a=none):H a=none:=by
 cases q:H a with
 |none=>rfl
 |some u=>
  obtain⟨o,z⟩:=(x a u q).there
  rw[e] at z;cases z
theorem iy.keepT(x:iy P w H h)(k:∀b u,(H b).isSome=true->h.get? b=some u->h'.get? b=some u):iy P w H h':=λa o e=>
 (x a o e).stay (λb u c q=>k b u (by
  rcases c with z|z
  ·rw[z,e];rfl
  ·rw[z];rfl) q) (λ_ q=>q) λ_ _ q=>q
structure Nt (X:Cx) (pins:List (Addr×Obj)) (H:Hp) (a:Addr):Prop where
 h:H a=none
 n:X.s₀.heap.get? a=none
 p:∀p∈X.pn++pins,p.1≠a
 l:X.env.locals≠a
 c:∀x c,X.env.cells.lookup x=some c->c≠a
def A4 (X:Cx):Prop:=X.ex=[]/\X.stack=X.env::X.outer/\X.env.frame=some X.env.locals
section
variable {H':Hp} {a b T:Addr} {C fl:Value} {dd:Option Addr} {Q:Unit->Shared->Prop} {hid:List Addr} {h':Heap}
theorem aM.nt (I:aM X pins σ H s)(x:X.ex=[])(e:s.heap.get? b=none)(h:H' b=none):Nt X pins H' b:=by
 refine⟨h,?_,λp d z=>?_,λz=>?_,λx c q z=>?_⟩
 ·cases q:X.s₀.heap.get? b with
  |none=>rfl
  |some o=>
   obtain⟨o',z⟩:=I.base.there b o q (by rw[x];simp)
   rw[e] at z;cases z
 ·have:=(I.pin p d).1
  rw[z,e] at this;cases this
 ·obtain⟨_,⟨o,_,_,a,_⟩,_⟩:=I.loc
  rw[z,e] at a;cases a
 ·obtain⟨_,o,a,_⟩:=I.cell x c q
  rw[z,e] at a;cases a
theorem aM.land (I:aM X pins σ H s)(t:A4 X)(A:∀b∈hid,Nt X pins H b)(st:(PQ s.heap (hid++frs X.stack)).StaysIn h')(w:s.heap.UpToSlots h'):aM X pins σ H {s with heap:=h'}:=by
 have y:frs X.stack=X.env.locals::X.fs:=by
  rw[t.2.1]
  show List.filterMap (·.frame) (X.env::X.outer)=_
  rw[OB,t.2.2];rfl
 have l:∀b o,s.heap.get? b=some o->b∉hid->b∉frs X.stack->h'.get? b=some o:=λb o e Q R=>st b o (PySem.W.hideAll_get _ e λz=>(Ot.mp z).elim Q R)
 have E:∀b o,b∈frs X.stack->s.heap.get? b=some o->∀vs,o.data≠.fields vs:=λb o a e vs d=>by
  obtain⟨_,o',J,n⟩:=I.stack.mem a
  rw[e] at J;cases J
  exact n vs d
 have K:∀b o,X.s₀.heap.get? b=some o->b∉X.fs->b∉frs X.stack:=λb o e n z=>by
  rw[y] at z
  rcases NK.mp z with z|z
  ·rw[z,O6 I.ok.above] at e;cases e
  ·exact n z
 have G:∀b o,X.s₀.heap.get? b=some o->b∉hid:=λb o e z=>by rw[(A b z).n] at e;cases e
 have u:=I.base
 have C:∀c v,s.heap.IsCell c v->h'.IsCell c v:=λc v ⟨o,e,d⟩=>by
  obtain⟨_,q⟩:=w c o e λvs z=>by rw[d] at z;cases z
  exact⟨_,q,d⟩
 refine⟨I.ok,I.os,I.bare,⟨λb o e n a j=>l b o (u.keep b o e n a j) (G b o e) (K b o e a),λb o e n a j=>?_,u.free,λb o e j=>?_,u.tups,u.frzs,u.tbls⟩,?_,λx c e=>?_,I.free,I.freeC,λp B=>?_,?_,I.len⟩
 ·obtain⟨_,f⟩:=u.slot b o e n a j
  obtain⟨s2,g⟩:=w b _ f (E b _ (by rw[y];exact NV _ a) f)
  exact⟨s2,g⟩
 ·obtain⟨o',f⟩:=u.there b o e j
  by_cases a:b∈frs X.stack
  ·obtain⟨_,g⟩:=w b _ f (E b o' a f)
   exact⟨_,g⟩
  ·exact⟨o',l b o' f (G b o e) a⟩
 ·obtain⟨m,P,M⟩:=I.loc
  refine⟨m,w.ns P,λi x v f g T=>?_⟩
  obtain⟨u,r,S⟩:=M i x v f g T
  exact⟨u,r,S.imp_right λ⟨k,c,e,z⟩=>⟨k,c,e,C c _ z⟩⟩
 ·obtain⟨v,z⟩:=I.cell x c e
  exact⟨v,C c v z⟩
 ·obtain⟨O,p2,D,F,N⟩:=I.pin p B
  refine⟨l p.1 p.2 O (λz=>(A _ z).p p B rfl) ?_,p2,D,F,N⟩
  rw[y]
  exact λz=>(NK.mp z).elim D F
 ·refine I.hok.keepT λb u a e=>l b u e (λz=>?_) λz=>?_
  ·rw[(A b z).h] at a;cases a
  ·rw[I.stkFree b z] at a;cases a
theorem aM.landT(I:aM X pins σ H s)(t:A4 X)(c:∀b∈hid,Nt X pins H b)(x:L6 (PQ s.heap (hid++frs X.stack)) l a T C dd fl s.heap h'):aM X pins σ H {s with heap:=h'}/\Nt X pins H T:=by
 refine⟨I.land t c x.stay x.sl,?_⟩
 by_cases hT:T∈hid
 ·exact c T hT
 cases q:s.heap.get? T with
 |none=>exact I.nt t.1 q (I.hok.none_of q)
 |some o=>
  obtain⟨_,_,h,ts,_,_,_,_,_,_,g,d,_⟩:=x.fl
  by_cases hf:T∈frs X.stack
  ·obtain⟨_,o',f,n⟩:=I.stack.mem hf
   obtain⟨_,e⟩:=x.sl T o' f n
   rw[g] at e
   rw[Option.some.inj e] at d
   exact absurd d (n ts)
  ·have z:=PySem.W.hideAll_get (hid++frs X.stack) q λz=>(Ot.mp z).elim hT hf
   rw[x.nT] at z;cases z
theorem aM.hide (I:aM X pins σ H s)(t:A4 X)(a:List Addr):(PQ s.heap (a++frs X.stack)).StaysIn s.heap/\(∀b∈a,(PQ s.heap (a++frs X.stack)).get? b=none)/\s.heap.FunFrames (PQ s.heap (a++frs X.stack)) (X.env::X.outer)/\X.A.frames=some (X.env::X.outer):=
 ⟨λb o e=>PySem.W.of_hideAll _ e,λb f=>PySem.W.hideAll_none _ (Ou _ f),by
  rw[<-t.2.1]
  exact PySem.W.funFrames_hide I.stack λenv c L d=>Of _ (Oy.mpr ⟨env,c,d⟩),by rw[<-t.2.1];exact I.ok.frames⟩
theorem M6 {P:Addr->Prop}(h:P a)(h':P b):∀c∈[a,b],P c:=λc hc=>by
 rcases NK.mp hc with rfl|hc
 ·exact h
 ·rw[NR.mp hc];exact h'
theorem BV (I:aM X pins σ H s)(t:A4 X)(b:Nt X pins H a)(c:Nt X pins H T)(f:um s.heap a T C dd fl)
  (h:∀h' T,aM X pins σ H {s with heap:=h'}->Nt X pins H T->um h' a T C dd (rawInt X.env.locals)->s.heap.UpToSlots h'->Q () {s with heap:=h'}):wpAny (model X.prog X.w) X.A (noteFrame (.ref a) X.env) Q E s:=by
 obtain⟨k,n,l,g⟩:=I.hide t [a,T]
 refine KY g l t.2.2 (n T (by simp)) f k (n a (by simp)) λh' T' x=>?_
 obtain⟨I',z⟩:=I.landT t (M6 b c) x
 exact h h' T' I' z x.fl x.sl
theorem tI(I:aM X pins σ H s)(t:A4 X)(b:Nt X pins H a)(c:Nt X pins H T)(f:um s.heap a T C dd fl)
  (h:∀s',aM X pins σ H s'->um s'.heap a T C dd (v.elim .none λf=>rawInt f)->Q () s'):wpAny (model X.prog X.w) A (setFlight (.ref a) v) Q E s:=by
 obtain⟨k,n,l,g⟩:=I.hide t [a,T]
 exact FK k l (n T (by simp)) f λh' x=>h _ (I.landT t (M6 b c) x).1 x.fl
theorem G1 (I:aM X pins σ H s)(t:A4 X)(c:Nt X pins H a)(d:Nt X pins H T)(f:um s.heap a T C dd fl)(h:∀s' T,aM X pins σ H s'->Nt X pins H T->um s'.heap a T C dd .none->Q () s'):
  wpAny (model X.prog X.w) X.A (noteFrame (.ref a) X.env) (λ_ b=>wpAny (model X.prog X.w) X.A (setFlight (.ref a) none) Q E b) E s:=
 BV I t c d f λ_ T I z f _=>tI I t c z f λs' I f=>h s' T I z f
theorem Lc(I:aM X pins σ H s)(t:A4 X)(c:Nt X pins H a)(e:s.heap.get? a=some oe)(d:oe.data=.fields vs)(v:vs[1]?=some .none)(h:∀s' T,aM X pins σ H s'->Nt X pins H T->um s'.heap a T oe.cls oe.dict .none->Q () s'):
  wpAny (model X.prog X.w) X.A (leaving X.env (.ref a)) Q E s:=by
 obtain⟨k,n,l,g⟩:=I.hide t [a]
 unfold leaving noteFrame
 simp only[t.2.2]
 refine ND (ND (Oq e d v ?_))
 refine C8 g l t.2.2 e k (n a (by simp)) d (PZ.mp v).1 λh' T x=>?_
 obtain⟨I',z⟩:=I.landT t (λb i=>by rw[NR.mp i];exact c) x
 exact tI I' t c z x.fl λs' I f=>h s' T I z f
theorem aM.track(I:aM X pins σ H s)(z:Nt X pins H a)(f:cg X.prog X.w (upd H a o) s.heap a o):aM X pins σ (upd H a o) s:=by
 obtain⟨C,B,l,y,v⟩:=z
 have up:∀b u,H b=some u->upd H a o b=some u:=λb u e=>by rw[ay (λz=>by rw[z,C] at e;cases e)];exact e
 refine⟨I.ok,I.os,I.bare,⟨I.base.keep,I.base.slot,λb g e n h=>?_,I.base.there,λb xs e=>up _ _ (I.base.tups b xs e),λb g u e=>up _ _ (I.base.frzs b g u e),λb ps e=>?_⟩,I.loc,I.cell,?_,λx c e=>?_,λp d=>?_,λb u e=>?_,I.len⟩
 ·have z:b≠a:=λz=>by rw[z,B] at e;cases e
  rw[ay z];exact I.base.free b g e n h
 ·obtain⟨m,r⟩:=I.base.tbls b ps e
  exact⟨m,up _ _ r⟩
 ·rw[ay y];exact I.free
 ·rw[ay (v x c e)];exact I.freeC x c e
 ·obtain⟨D,p2,A,i,j⟩:=I.pin p d
  exact⟨D,by rw[ay (l p d)];exact p2,A,i,j⟩
 ·by_cases hb:b=a
  ·subst hb;rw[ah] at e;cases e;exact f
  ·rw[ay hb] at e
   exact(I.hok b u e).stay (λ_ _ _ q=>q) (λc q=>up _ _ q) λc xs q=>up _ _ q
end
def EG (E:XK) (C:Value) (dd:Option Addr) (H:Hp):Prop:=E C none H\/∃D,dd=some D/\E C (some D) H
noncomputable def Jd (P:Program) (w:World):Nl:=λouter H s E e s'=>∃(a T:Addr) (dd:Option Addr) (C:Value) (H':Hp),e=.ref a/\s'.os=s.os/\AllBare s'.gens/\Un (frs outer) [] H H' s.heap s'.heap/\iy P w H' s'.heap/\
 H' a=none/\H' T=none/\s.heap.get? a=none/\s.heap.get? T=none/\um s'.heap a T C dd .none/\EG E C dd H'
def CE (a:List Env) (P:Program) (w:World) (H:Hp) (s:Shared) (Q:VK) (u:Value) (b:Shared):Prop:=
 ∃v H',b.os=s.os/\AllBare b.gens/\Un (frs a) [] H H' s.heap b.heap/\iy P w H' b.heap/\bo v u/\Q v H'
def CR (a:List Env) (P:Program) (w:World) (H:Hp) (s:Shared) (Q:VK) (E:XK) (r:Result) (b:Shared):Prop:=
 match r with
 | .ok (.ret u)=>CE a P w H s Q u b
 | .ok _=>False
 | .error e=>Jd P w a H s E e b
structure gr (P:Program) (w:World) (K:NJ) (mg:Str->Option Value) (base:Heap) (k:Nat) (f:Addr) (fd:FuncData) (ps:List Str) (sp:Sp):Prop where
 len:∀vs H Q E,sp vs H Q E->vs.length=ps.length
 run:∀(A:Around) (outer:List Env) (s:Shared) (H:Hp) (args:Args) (us:List Value) (vs:List V) (Q:VK) (E:XK),dh k A->vp P w K mg base A outer s H->BindsTo s fd args (ps.zip us)->bH vs us->sp vs H Q E->
  codeAny (model P w) A (.call (.ref f) args) (CR outer P w H s Q E) s
theorem vp.make {P:Program}{a:List Env}(e:vp P w K mg base A a s H)(C:Addr)(us:List Value)(b:List (Str×Value)):
  vp P w K mg base (A.under (.builtin "type.__call__" ⟨.ref C::us,b⟩)) a s H:=⟨by first|exact e.frames|(simpa[Around.under,Code.envs,Code.isFrame,pushEnvs] using e.frames),e.mod,e.bs,e.bsz,e.funs,e.frf,e.hok,e.bare⟩
section
variable {s':Shared}
theorem aM.env0 (I:aM X pins σ H s):vp X.prog X.w X.K X.mg X.base X.A X.stack s H:=
 ⟨I.ok.frames,I.ok.mod,I.bs,NP I.ok.bsz I.sz,I.stack,I.stkFree,I.hok,I.bare⟩
theorem aM.after(I:aM X pins σ H s)(h:CE X.stack X.prog X.w H s Q u s'):EP X pins σ Q u s':=by
 obtain⟨v,H',os,a,un,c,r,q⟩:=h
 obtain⟨f,g,d,t,e⟩:=s'
 obtain rfl:e=s.os:=os
 exact⟨v,H',I.call (h':=f) (g':=g) (d':=d) (t':=t) (ch:=[]) un c a (λb z=>absurd z (by simp)),r,q⟩
end
def fg (K:NJ) (b:FuncData) (ps:List Str):Prop:=∀(s:Shared) (a:List Value),K.In s.heap->a.length=ps.length->BindsTo s b ⟨a,[]⟩ (ps.zip a)
theorem fg.all {b:FuncData}{ps:List Str}(h:∀a:List Value,a.length=ps.length->bindArgs b ⟨a,[]⟩=pure (ps.zip a)):fg K b ps:=λs a _ c=> .of_eq (h a c)
section
variable {Ex:St->XK} {k:Nat} {f C:Addr} {fd:FuncData} {ps:List Str} {sp:Sp} {x m:Str} {p pos apos:Pos} {e o:Expr} {es:List Expr} {ta:TE} {t:TA}
def gT (P:Program) (w:World) (X:Cx) (Ex:St->XK):Prop:=
 ∀(pins:List (Addr×Obj)) (σ:St) (H:Hp) (s:Shared) (e:Value) (s':Shared),aM X pins σ H s->Jd P w X.stack H s (Ex σ) e s'->X.xe e s'
def Lp (X:Cx) (Ex:XK):Prop:=∀(pins:List (Addr×Obj)) (σ:St) (H:Hp) (s:Shared) (a T:Addr) (C fl:Value) (dd:Option Addr),aM X pins σ H s->Nt X pins H a->Nt X pins H T->um s.heap a T C dd fl->EG Ex C dd H->X.xe (.ref a) s
theorem L0 (C:Value)(dd:Option Addr)(H:Hp):¬EG E0 C dd H:=λq=>q.elim id λ⟨_,_,z⟩=>z
theorem Mq {P:Program}{l:List Env}{a:Shared}{e:Value}(h:Jd P w l H s E0 e a):False:=by
 obtain⟨_,_,_,_,_,_,_,_,_,_,_,_,_,_,_,q⟩:=h
 exact L0 _ _ _ q
theorem gM:gT P w X λ_=>E0:=λ_ _ _ _ _ _ _ h=>(Mq h).elim
def xr (Ex:St->XK) (sp:Sp) (t:TA):TE:=λσ H Q=>t σ H λvs H1=>sp vs H1 Q (Ex σ)
abbrev jo:Sp->TA->TE:=xr λ_=>E0
def Lw (C:Addr) (m:Str) (sp:Sp) (ta:TE) (t:TA):TE:=λσ H Q=>ta σ H λx H1=>∃a dx fs,x=.ref a/\H1 a=some (.ins C dx fs)/\fs.lookup m=none/\t σ H1 λvs H2=>sp (x::vs) H2 Q E0
def LK (Ex:St->XK) (C:Addr) (sp:Sp) (t:TA):TE:=λσ H Q=>t σ H λvs H1=>∀x dx,H1 x=none->H1 dx=none->dx≠x->
 sp (.ref x::vs) (upd (upd H1 dx (.own x)) x (.ins C dx [])) (λv H2=>v=.non/\Q (.ref x) H2) (Ex σ)
theorem mZ(F:gr X.prog X.w X.K X.mg X.base k f fd ps sp)(c:dh k X.A)(b:fg X.K fd ps)(hx:gT X.prog X.w X Ex)
  (I:aM X pins σ H s) (r:bH vs us) (h:sp vs H Q (Ex σ)):wpAny (model X.prog X.w) X.A (call (.ref f) us) (EP X pins σ Q) X.xe s:=by
 refine OS (codeAny_mono (F.run X.A X.stack s H ⟨us,[]⟩ us vs Q _ c I.env0 (b s us I.kIn (by rw[<-r.length];exact F.len _ _ _ _ h)) r h) λr s' a=>?_)
 cases r with
 |error e=>exact hx pins σ H s e s' I a
 |ok fl=>
  cases fl with
  |ret u=>exact I.after a
  |next=>exact False.elim a
  |brk=>exact False.elim a
  |cont=>exact False.elim a
structure aG (P:Program) (w:World) (K:NJ) (mg:Str->Option Value) (base:Heap) (x:Str) (k:Nat) (ps:List Str) (sp:Sp):Prop where
 ex:∃f fd,gr P w K mg base k f fd ps sp/\mg x=some (.ref f)/\Oo K (.ref f)=true/\fg K fd ps
structure fE (P:Program) (w:World) (K:NJ) (mg:Str->Option Value) (base:Heap) (C:Addr) (m:Str) (k:Nat) (ps:List Str) (sp:Sp):Prop where
 ex:∃f fd,gr P w K mg base k f fd ps sp/\LU K C m f/\fg K fd ps
theorem Gk {Ex:St->XK}(C:aG X.prog X.w X.K X.mg X.base x k ps sp)(d:dh k X.A)(g:Gl X x)(hx:gT X.prog X.w X Ex)(m:PA X (e::es) t)
  (b:(x==("__debug__" :Str))=false) (i:starEach (e::es) X.env=(false,eval e X.env)::starEach es X.env) (a:(backTo pos (starEach es X.env)).any (·.1)=false):
  PE X (.Call (.Name x p) (e::es) [] pos) (xr Ex sp t):=by
 obtain⟨f,fd,F,c,j,l⟩:=C.ex
 intro pins s σ H Q I h
 refine Pj (ij I g c ?_ b)
 exact Ql (h₀:=X.base) I.ok.mod.kin j (cJ (m pos pins s σ H _ I h) λn s1 ⟨vs,H1,I1,r,q⟩=>⟨I1.kIn,mZ F d l hx I1 r q⟩) i a
theorem Ia {pl:Sem Bool}(v:PE X o ta)(c:mF X.K C)(G:fE X.prog X.w X.K X.mg X.base C m k ps sp)(D:dh k X.A)(J:PA X (e::es) t)
  (d:starEach (e::es) X.env=(false,eval e X.env)::starEach es X.env:=by rfl) (b:(backTo pos (starEach es X.env)).any (·.1)=false:=by rfl)
  (y:eval (.Call (.Attribute o m apos) (e::es) [] pos) X.env=(do
   let j<-eval o X.env
   standAt apos.atName
   let (f,first)<-holding [j] (getMethod j m pl)
   callWith pos f first (backTo pos (starEach (e::es) X.env)) (backToKw pos (keywordEach [] X.env))):=by rfl):
  PE X (.Call (.Attribute o m apos) (e::es) [] pos) (Lw C m sp ta t):=by
 obtain⟨f,fd,F,i,z⟩:=G.ex
 intro pins s σ H Q I h
 refine Qw (pl:=pl) (cJ (v pins s σ H _ I h) λu s1 E=>?_) y
 obtain⟨x,H1,I1,p,a,dx,fs,ex,B,l,q⟩:=E
 subst ex
 obtain rfl:u=Value.ref a:=p
 refine jz I1 B c i l ?_
 refine Ql (first:=[.ref a]) (h₀:=X.base) I.ok.mod.kin i.kp (cJ (J pos pins s1 σ H1 _ I1 q) λg s2 ⟨vs,H2,I2,r,n⟩=>⟨I2.kIn,?_⟩) d b
 exact mZ (us:=.ref a::g) (vs:=.ref a::vs) F D z gM I2 (.cons rfl r) n
structure Mk (K:NJ) (C f:Addr):Prop where
 makes:PySem.W.makesIn K C=true
 init:Oh K (.ref C) "__init__" =some (some (.ref f))
 fn:OX K (.ref f)=true
 kp:Oo K (.ref C)=true
theorem BF(M:Mk X.K C f)(F:gr X.prog X.w X.K X.mg X.base k f fd ps sp)(l:dh (k+1) X.A)(g:fg X.K fd ps)
  (hx:gT X.prog X.w X Ex) (I:aM X pins σ H s) (r:bH vs us)
  (h:∀x dx,H x=none->H dx=none->dx≠x->sp (.ref x::vs) (upd (upd H dx (.own x)) x (.ins C dx [])) (λv H2=>v=.non/\Q (.ref x) H2) (Ex σ)):
  wpAny (model X.prog X.w) X.A (call (.ref C) us) (EP X pins σ Q) X.xe s:=by
 have d:=h (s.heap.objs.size+1) s.heap.objs.size (I.hok.fresh (Nat.le_succ _)) (I.hok.fresh (NI _)) (NS (PY _))
 have b:=aM.made (C:=C) I
 have c:bH (V.ref (s.heap.objs.size+1)::vs) (Value.ref (s.heap.objs.size+1)::us):=.cons rfl r
 refine OS (B9 (f:=f) I.kIn M.makes M.init (beq_iff_eq.mp M.fn) (codeAny_mono (F.run _ X.stack _ _ ⟨Value.ref (s.heap.objs.size+1)::us,[]⟩ (Value.ref (s.heap.objs.size+1)::us) _ _ _ (l.make C us [])
  (b.env0.make C us []) (g _ _ b.kIn (by rw[<-c.length];exact F.len _ _ _ _ d)) c d) λr s' a=>?_))
 cases r with
 |error e=>exact hx pins σ _ _ e s' b a
 |ok fl=>
  cases fl with
  |ret u=>
   obtain⟨v,H',I3,j,i,q3⟩:=b.after a
   subst i
   exact⟨j,⟨V.ref (s.heap.objs.size+1),H',I3,rfl,q3⟩⟩
  |next=>exact False.elim a
  |brk=>exact False.elim a
  |cont=>exact False.elim a
structure fW (P:Program) (w:World) (K:NJ) (mg:Str->Option Value) (base:Heap) (C:Addr) (x:Str) (k:Nat) (ps:List Str) (sp:Sp):Prop where
 ex:∃f fd,gr P w K mg base k f fd ps sp/\Mk K C f/\mg x=some (.ref C)/\fg K fd ps
theorem qT (G:fW X.prog X.w X.K X.mg X.base C x k ps sp)(d:dh (k+1) X.A)(g:Gl X x)(hx:gT X.prog X.w X Ex)(l:PA X (e::es) t)(b:(x==("__debug__" :Str))=false:=by decide)
  (i:starEach (e::es) X.env=(false,eval e X.env)::starEach es X.env:=by rfl) (a:(backTo pos (starEach es X.env)).any (·.1)=false:=by rfl):PE X (.Call (.Name x p) (e::es) [] pos) (LK Ex C sp t):=by
 obtain⟨f,fd,F,M,c,j⟩:=G.ex
 intro pins s σ H Q I h
 refine Pj (ij I g c ?_ b)
 refine Ql (h₀:=X.base) I.ok.mod.kin M.kp (cJ (l pos pins s σ H _ I h) λm s1 ⟨vs,H1,I1,r,q⟩=>⟨I1.kIn,?_⟩) i a
 exact BF M F d j hx I1 r q
end
structure eP (N P:List Str) (sc:Scope):Prop where
 kind:sc.kind=.function
 co:sc.isCoroutine=false
 gen:sc.isGenerator=false
 nd:N.Nodup
 pre:N.take P.length=P
 par:∀x∈P,sc.names.lookup x=some .local\/sc.names.lookup x=some .cell
 nofree:∀y∈sc.names,y.2≠.free
theorem p_ {a:Str->Option NameKind}:∀{binds:List (Str×Value)} {m:Str->Option Value},(∀v,(x,v)∉binds)->bindL a binds m x=m x
 |[],_,_=>rfl
 |(n,v)::r,m,h=>by
  unfold bindL
  rw[p_ λw b=>h w (NV _ b)]
  split
  ·have:x≠n:=by rintro rfl;exact h v N7
   simp[this]
  ·rfl
theorem pG {a:Str->Option NameKind}:∀{binds:List (Str×Value)} {m:Str->Option Value},(∀v,(x,v)∉binds)->bindC a binds m x=m x
 |[],_,_=>rfl
 |(n,v)::r,m,h=>by
  unfold bindC
  rw[pG λw b=>h w (NV _ b)]
  split
  ·rfl
  ·have:x≠n:=by rintro rfl;exact h v N7
   simp[this]
theorem pB {a:Str->Option NameKind}:∀{P:List Str} {vs:List Value} {i:Nat} {m:Str->Option Value},P.Nodup->P[i]?=some x->vs[i]?=some v->a x=some .local->
  bindL a (P.zip vs) m x=some v
 |[],_,_,_,_,h,_,_=>by simp at h
 |_::_,[],_,_,_,_,h,_=>by simp at h
 |p::P,w::vs,0,m,nd,h1,h2,hk=>by
  simp at h1 h2;subst h1;subst h2
  show bindL a ((p,w)::P.zip vs) m p=_
  unfold bindL
  rw[p_ λv b=>(OT.mp nd).1 (List.of_mem_zip b).1,if_pos hk]
  simp
 |p::P,w::vs,i+1,m,nd,h1,h2,hk=>by
  show bindL a ((p,w)::P.zip vs) m x=_
  unfold bindL
  exact pB (i:=i) (OT.mp nd).2 (by simpa using h1) (by simpa using h2) hk
theorem o7 {a:Str->Option NameKind}:∀{P:List Str} {vs:List Value} {i:Nat} {m:Str->Option Value},P.Nodup->P[i]?=some x->vs[i]?=some v->a x≠some .local->
  bindC a (P.zip vs) m x=some v
 |[],_,_,_,_,h,_,_=>by simp at h
 |_::_,[],_,_,_,_,h,_=>by simp at h
 |p::P,w::vs,0,m,nd,h1,h2,hk=>by
  simp at h1 h2;subst h1;subst h2
  show bindC a ((p,w)::P.zip vs) m p=_
  unfold bindC
  rw[pG λv b=>(OT.mp nd).1 (List.of_mem_zip b).1,if_neg hk]
  simp
 |p::P,w::vs,i+1,m,nd,h1,h2,hk=>by
  show bindC a ((p,w)::P.zip vs) m x=_
  unfold bindC
  exact o7 (i:=i) (OT.mp nd).2 (by simpa using h1) (by simpa using h2) hk
noncomputable def jt (N:List Str) (vs:List V):St:=vs.map some++List.replicate (N.length - vs.length) none
noncomputable def g0 (P:Program) (w:World) (K:NJ) (mg:Str->Option Value) (base:Heap) (N:List Str) (a:Str) (scope:Scope) (f:Addr) (c:Value) (A:Around) (outer:List Env) (s:Shared) (H:Hp) (E:XK):Cx where
 prog:=P
 w:=w
 K:=K
 mg:=mg
 base:=base
 A:=A.deeper (envOfC a scope s.heap.objs.size f c)
 N:=N
 s₀:=s
 H₀:=H
 env:=envOfC a scope s.heap.objs.size f c
 outer:=outer
 stack:=envOfC a scope s.heap.objs.size f c::outer
 ex:=[]
 calm:=true
 fn:=λ_=>true
 pn:=[]
 xe:=λe s'=>wpAny (model P w) (A.deeper (envOfC a scope s.heap.objs.size f c)) (leaving (envOfC a scope s.heap.objs.size f c) e) (λ_ b=>Jd P w outer H s E e b) (λd b=>Jd P w outer H s E d b) s'
theorem fo {P:Program}{N:List Str}{q:Str}{b:Scope}{f:Addr}{a:Value}{o:List Env}{E:XK}:(g0 P w K mg base N q b f a A o s H E).K=K:=rfl
theorem sL {a:Scope}{n:Nat}{x:Str}(h:a.names.lookup x=some .cell):∃c,(cellsFrom n a.names []).lookup x=some c:=by
 have q:=PySem.W.cellsFrom_some a.names n [] (.inl h)
 exact Option.isSome_iff_exists.mp q
theorem Ab {P:Program}{N ps:List Str}{m:Str}{scope:Scope}{f:Addr}{C:Value}{l:List Env}{s1:Shared}{E:XK}{us:List Value}{vs:List V}
  (S:eP N ps scope) (hd:A.handled=none) (o:vp P w K mg base A l s H) (J:vs.length=ps.length) (r:bH vs us)
  (x:InCallC s s.heap.objs.size (bindL (envOfC m scope s.heap.objs.size f C).kindOf (ps.zip us) λ_=>none) (cellsFrom (s.heap.objs.size+1) scope.names []) (bindC (envOfC m scope s.heap.objs.size f C).kindOf (ps.zip us) λ_=>none) s1):
  aM (g0 P w K mg base N m scope f C A l s H E) [] (jt N vs) H s1:=by
 have j:ps.length<=N.length:=by have:=congrArg List.length S.pre;rw[N_] at this;lia
 obtain⟨h1,tk,rfl,D⟩:=x.done
 have d:∀b:Addr,b∉(g0 P w K mg base N m scope f C A l s H E).ex:=λb z=>absurd (show b∈([]:List Addr) from z) (by simp)
 refine⟨⟨o.mod,S.kind,rfl,rfl,NI _,λy z c h1 h2=>?_,λy hy=>?_,λy c _ h=>?_,λ_=>hd,Around.frames_deeper o.frames,.inr ⟨rfl,rfl⟩,λb z=>absurd z (d b),o.bs,o.bsz,λb _ _=>d b,λb z=>absurd z (d b),o.funs,o.frf⟩,
  rfl,o.bare,Un.kept D,⟨_,x.toInCall.ns,λi y v h1 h2 M=>?_⟩,λy c h=>⟨_,x.cell y c h⟩,o.hok.fresh (NI _),λy c h=>?_,λp B=>absurd (show p∈([]:List (Addr×Obj)) from B) (by simp),o.hok.kept D,?_⟩
 ·exact name_of_addr x.apart (PySem.mem_of_lookup h1) (PySem.mem_of_lookup h2)
 ·have hy:scope.names.lookup y=some .cell\/scope.names.lookup y=some .free:=hy
  rcases hy with hy|hy
  ·exact sL hy
  ·exact absurd rfl (S.nofree _ (PySem.mem_of_lookup hy))
 ·exact Py (x.above y c (PySem.mem_of_lookup h))
 ·have hi:i<vs.length:=by
   unfold jt at h2
   by_cases hi:i<vs.length
   ·exact hi
   ·rw[OU (by simpa using hi)] at h2
    rw[List.getElem?_replicate] at h2
    split at h2<;>cases h2
  have I:vs[i]?=some v:=by
   unfold jt at h2
   rw[Pk (by simpa using hi),Od] at h2
   cases e:vs[i]? with
   |none=>rw[e] at h2;cases h2
   |some a=>rw[e] at h2;cases h2;rfl
  obtain⟨u,F,G⟩:=r.get I
  have B:ps[i]?=some y:=by
   rw[<-S.pre,List.getElem?_take_of_lt (by lia)];exact h1
  have g:ps.Nodup:=by rw[<-S.pre];exact S.nd.sublist (List.take_sublist _ _)
  refine⟨u,G,?_⟩
  rcases S.par y (Oi B) with k|k
  ·exact .inl ⟨k,pB g B F k⟩
  ·obtain⟨c,e⟩:=sL (n:=s.heap.objs.size+1) k
   refine .inr ⟨.inl k,c,e,?_⟩
   have q:=x.cell y c e
   rw[o7 g B F (by show scope.names.lookup y≠_;rw[k];decide)] at q
   exact q
 ·exact o.hok.fresh (Py (x.above y c (PySem.mem_of_lookup h)))
 ·unfold jt
  show _=N.length
  rw[NM,NG,Pm]
  lia
theorem GQ {P:Program}{k:Nat}{f:Addr}{name g:Str}{i:Arguments}{body:List Stmt}{scope:Scope}{M kV p U h R oc:Value}{X od:Option Addr}
  {C:Array (Option Value)} {N ps:List Str} {sp:Sp} (lk:K.lookup f=some ⟨oc,od,.func (Oj name g i body scope M kV p U X h R),C⟩) (G:OE K h g=true) (S:eP N ps scope)
  (len:∀vs H Q E,sp vs H Q E->vs.length=ps.length)
  (l:∀(A:Around) (outer:List Env) (s:Shared) (H:Hp) (vs:List V) (Q:VK) (E:XK),dh k (A.deeper (envOfC g scope s.heap.objs.size f h))->sp vs H Q E->
   ∃t,uj (g0 P w K mg base N g scope f h A outer s H E) body t/\t {nx:=λ_ H'=>Q .non H',rt:=Q} (jt N vs) H):
  gr P w K mg base (k+1) f (Oj name g i body scope M kV p U X h R) ps sp:=by
 refine⟨len,λA outer s H O Y vs Q E F z hb r B=>?_⟩
 have Z:=len _ _ _ _ B
 have T:K.In s.heap:=z.mod.kin.keeps λb o e=>(z.bs b o e).1
 have d:s.heap.NoLimit:=z.mod.nolimit.keeps λb o e=>(z.bs b o e).1
 have a:∀y∈ps.zip Y,scope.names.lookup y.1=some .local\/(scope.names.lookup y.1=some .cell/\((cellsFrom (s.heap.objs.size+1) scope.names []).lookup y.1).isSome=true):=λ⟨n,v⟩ hy=>by
  rcases S.par n (List.of_mem_zip hy).1 with q|q
  ·exact .inl q
  ·exact .inr ⟨q,PySem.W.cellsFrom_some _ _ _ (.inl q)⟩
 refine codeAny_call_function F.depth (T _ _ lk) rfl S.co S.gen rfl (PySem.W.codeRec_of T G) (hb _ _ _ _ ?_)
 refine wpAny_newFunctionEnv_cells S.kind a λenv he s1 x=>?_
 subst he
 refine⟨d.keeps x.toInCall.keep,codeAny_func ?_⟩
 obtain⟨t,ht,hq⟩:=l A outer s H vs Q E (F.deeper _) B
 have I:aM (g0 P w K mg base N g scope f h A outer s H E) [] (jt N vs) H s1:=Ab S F.hd z Z r x
 refine On (ht [] s1 (jt N vs) H _ I hq) (λfl s' m=>?_) λe s' m=>m
 have c:∀{j:St} {H':Hp} {v:V} {u:Value},aM (g0 P w K mg base N g scope f h A outer s H E) [] j H' s'->bo v u->Q v H'->CE outer P w H s Q u s':=
  fun{j H' v u} J D q=>⟨v,H',J.os,J.bare,J.base,J.hok,D,q⟩
 cases fl with
 |ret u=>
  obtain⟨v,j,H',J,D,q⟩:=m
  exact c J D q
 |next=>
  obtain⟨j,H',J,q⟩:=m
  exact c (v:=V.non) (u:=Value.none) J rfl q
 |brk=>
  obtain⟨_,_,_,q⟩:=m
  exact False.elim q
 |cont=>
  obtain⟨_,_,_,q⟩:=m
  exact False.elim q
section
variable {x:Str} {p pos:Pos} {e:Expr} {es:List Expr} {t:TA} {id T:String} {r:List V->Hp->VK->Prop}
def xS (r:List V->Hp->VK->Prop) (t:TA):TE:=λσ H Q=>t σ H λvs H1=>r vs H1 Q
theorem A1 (m:c_ X (.builtin id) r)(i:Gl X x)(f:X.mg x=none)(l:bootBuiltins x=some (.builtin id))(o:PA X (e::es) t)(c:x≠ "__name__" :=by decide)(b:(x==("__debug__" :Str))=false:=by decide)
  (j:starEach (e::es) X.env=(false,eval e X.env)::starEach es X.env:=by rfl) (a:(backTo pos (starEach es X.env)).any (·.1)=false:=by rfl):PE X (.Call (.Name x p) (e::es) [] pos) (xS r t):=by
 intro pins s σ H Q I h
 refine Pj (ig I i f l ?_ c b)
 exact PyProof.Rows.callWith_builtin1 (cJ (o pos pins s σ H _ I h) λd s1 ⟨vs,H1,I1,g,n⟩=>m pins s1 σ H1 vs d Q I1 g n) j a
theorem z_ (m:c_ X (.type T) r)(i:Gl X x)(f:X.mg x=none)(l:bootBuiltins x=some (.type T))(o:PA X (e::es) t)(c:x≠ "__name__" :=by decide)(b:(x==("__debug__" :Str))=false:=by decide)
  (j:starEach (e::es) X.env=(false,eval e X.env)::starEach es X.env:=by rfl) (a:(backTo pos (starEach es X.env)).any (·.1)=false:=by rfl):PE X (.Call (.Name x p) (e::es) [] pos) (xS r t):=by
 intro pins s σ H Q I h
 refine Pj (ig I i f l ?_ c b)
 exact PyProof.Rows.callWith_type1 (cJ (o pos pins s σ H _ I h) λd s1 ⟨vs,H1,I1,g,n⟩=>m pins s1 σ H1 vs d Q I1 g n) j a
end
end L2
namespace HT
open PySem PyProof.Rows
noncomputable def lexLt:List Int->List Int->Bool
 |[],[]=>false
 |[],_::_=>true
 |_::_,[]=>false
 |x::xs,y::ys=>if x=y then lexLt xs ys else decide (x<y)
theorem lexLt_cons (x y:Int)(xs ys:List Int):lexLt (x::xs) (y::ys)=if x=y then lexLt xs ys else decide (x<y):=rfl
theorem cat_tup(p:IsTup s.heap t vs.toArray)(q:IsTup s.heap b ws.toArray)(l:vs≠[])
  (h1:ws=[]->Q (.ref t) s) (u:ws≠[]->Q (.ref s.heap.objs.size) {s with heap:=s.heap.push {cls:=.type "tuple",data:=.seq (vs++ws).toArray}})
  (hsz:vs.length+ws.length<=sizeLine):wpAny (model prog w) A (binaryOp .Add (.ref t) (.ref b)) Q E s:=by
 obtain⟨⟨cls,dd,data,o⟩,j,r,n,v⟩:=id p
 obtain⟨⟨i,d,h,c⟩,a,f,m,g⟩:=id q
 subst r v f g
 have e:vs.toArray++ws.toArray=(vs++ws).toArray:=by simp
 by_cases hw:ws=[]
 ·exact concat_meets ⟨_,j,rfl⟩ ⟨_,a,rfl⟩ noFill_tuple_add seq_tuple_add PySem.F.slot_tuple_add QI (QJ _ _)
   (tuple_addW1 t b vs.toArray ws.toArray n m dd d o c (by simpa using l) (by simp[hw])) ⟨j,a,h1 hw⟩
 ·refine concat_meets ⟨_,j,rfl⟩ ⟨_,a,rfl⟩ noFill_tuple_add seq_tuple_add PySem.F.slot_tuple_add QI (QJ _ _)
   (tuple_addW2 t b vs.toArray ws.toArray n m dd d o c (by simpa using l) (by simpa using hw) (by rw[Og,Og];exact hsz)) ⟨j,a,?_⟩
  rw[e]
  exact u hw
noncomputable def sIx (n d:Nat):Option Int->Nat
 |none=>d
 |some v=>if v<0 then (v+(n:Int)).toNat else min v.toNat n
theorem sIx_none (n d:Nat):sIx n d none=d:=rfl
theorem sIx_nat (n d k:Nat):sIx n d (some (k:Int))=min k n:=by
 show(if (k:Int)<0 then ((k:Int)+(n:Int)).toNat else min (k:Int).toNat n)=min k n
 rw[if_neg (by lia),PJ]
end HT
namespace L2
open PySem PySem.Spec PyProof.Rows
variable {X:Cx} {pins:List (Addr×Obj)} {σ:St} {H:Hp} {s:Shared} {prog:Program} {w:World} {A:Around} {E:Value->Shared->Prop} {K:NJ} {mg:Str->Option Value} {base:Heap}
abbrev TO:=St->Hp->(Option Int->Hp->Prop)->Prop
def PO (X:Cx) (e:Option Expr) (t:TO):Prop:=
 ∀(pins:List (Addr×Obj)) (s:Shared) (σ:St) (H:Hp) (Q:Option Int->Hp->Prop),aM X pins σ H s->t σ H Q->
  wpAny (model X.prog X.w) X.A (evalPart e X.env) (λu s'=>∃o H',aM X pins σ H' s'/\IsPart u o/\Q o H') X.xe s
def gz:TO:=λ_ H Q=>Q none H
noncomputable def jv (t:TE):TO:=λσ H Q=>t σ H λx H1=>∃i,x=.int i/\Q (some i) H1
theorem m8{ns:List Int}:∀{a:List Value},bH (ns.map V.int) a->IntsAre a ns:=by
 induction ns with
 |nil=>intro a r;rw[OA] at r;cases r;exact .nil
 |cons n ns ih=>
  intro a r
  cases r with
  |cons r1 r2=>
   obtain⟨t,e⟩:=r1
   subst e
   exact .cons n t (ih r2)
section
variable {e:Expr} {te:TE} {lo hi:Option Expr} {tl th:TO} {pos p2:Pos}
theorem bX:PO X none gz:=by
 intro pins s σ H Q I h
 exact NH ⟨none,H,I,.none,h⟩
theorem bq (h:PE X e te):PO X (some e) (jv te):=by
 intro pins s σ H Q I b
 refine cJ (h pins s σ H _ I b) λu s1 c=>?_
 obtain⟨x,H1,I1,a,d⟩:=c
 obtain⟨i,rfl,q⟩:=d
 obtain⟨t,rfl⟩:=a
 exact⟨some i,H1,I1,.int i t,q⟩
def MZ (X:Cx) (r:V->Option Int->Option Int->Hp->VK->Prop):Prop:=
 ∀(pins:List (Addr×Obj)) (s:Shared) (σ:St) (H:Hp) (x:V) (v a b:Value) (lo hi:Option Int) (c:Addr) (Q:VK),aM X pins σ H s->bo x v->s.heap.IsSliceOf c a b .none->IsPart a lo->IsPart b hi->r x lo hi H Q->
  ∃T id,typeLookup (.type T) "__getitem__" =pure (some (.builtin id))/\s.TypeIs v T/\wpAny (model X.prog X.w) X.A (getItem v (.ref c)) (EP X pins σ Q) X.xe s
def FH (r:V->Option Int->Option Int->Hp->VK->Prop) (b:TE) (a th:TO):TE:=λσ H Q=>b σ H λx H1=>a σ H1 λl H2=>th σ H2 λu H3=>r x l u H3 Q
theorem bg {r:V->Option Int->Option Int->Hp->VK->Prop}(o:MZ X r)(j:PE X e te)(g:PO X lo tl)(B:PO X hi th):PE X (.Subscript e (.Slice lo hi none p2) pos) (FH r te tl th):=by
 intro pins s σ H Q I h
 refine Subscript_ (cJ (j pins s σ H _ I h) λv s1 d=>?_)
 obtain⟨x,H1,I1,i,A⟩:=d
 refine wpAny_Slice (cJ (g pins s1 σ H1 _ I1 A) λa s2 ⟨l,H2,I2,p,f⟩=>cJ (B pins s2 σ H2 _ I2 f) λc s3 d=>?_)
 obtain⟨u,H3,I3,y,q3⟩:=d
 refine NH ?_
 have z:aM X pins σ H3 {s3 with heap:=s3.heap.push {cls:=.type "slice",data:=.fields #[a,c,.none]}}:=I3.kept (t':=s3.toks) λb C q=>NN _ q
 obtain⟨T,id,n,m,w⟩:=o pins {s3 with heap:=s3.heap.push {cls:=.type "slice",data:=.fields #[a,c,.none]}} σ H3 x v a c l u s3.heap.objs.size Q z i (Heap.IsSliceOf.new ..) p y q3
 exact tail_any (ops:=[.ref s3.heap.objs.size,v]) m n w (by with_unfolding_all rfl)
noncomputable def fT (xs:List V) (lo hi:Option Int):List V:=(xs.drop (HT.sIx xs.length 0 lo)).take (HT.sIx xs.length xs.length hi - HT.sIx xs.length 0 lo)
theorem sJ (xs:List V)(lo hi:Option Int):(fT xs lo hi).length<=xs.length:=by
 unfold fT
 rw[N_,OC]
 omega
def KM (K:NJ):R2:=λx y H Q=>∃a b xs ys,x=.ref a/\y=.ref b/\bY K H a xs/\bY K H b ys/\xs≠[]/\xs.length+ys.length<=sizeLine/\
 (ys=[]->Q (.ref a) H)/\(ys≠[]->∀p,H p=none->Q (.ref p) (upd H p (.tup (xs++ys))))
theorem bH.nil_iff(r:bH xs us):us=[]↔xs=[]:=by
 cases r with
 |nil=>simp
 |cons _ _=>simp
theorem Fo:ji X (binaryOp .Add) (KM X.K):=by
 intro pins s σ H x y v u Q I l n h
 obtain⟨a,b,xs,ys,rfl,rfl,A,p,j,g,r,i⟩:=h
 cases l
 cases n
 obtain⟨d,f,m,_⟩:=I.tuple A
 obtain⟨c,e,p2,_⟩:=I.tuple p
 refine HT.cat_tup m p2 (λz=>j (f.nil_iff.mp z)) (λz=>⟨.ref a,H,I,rfl,r (e.nil_iff.mp z)⟩) (λz=>?_) (by rw[<-f.length,<-e.length];exact g)
 refine⟨.ref s.heap.objs.size,_,I.laid (t':=s.toks) (o:=.tup (xs++ys)) (λb B q=>NN _ q) (NI _) ?_,rfl,i (λw=>z (e.nil_iff.mpr w)) _ (I.hok.fresh (NI _))⟩
 exact⟨by rw[NM];exact g,_,f.append e,IsTup.new _ _⟩
end
noncomputable def EK (n:Nat) (i:Int):Option Nat:=if 0<=i then (if i<n then some i.toNat else none) else if -(n:Int)<=i then some (i+n).toNat else none
noncomputable def oN {α:Type} (xs:List α) (i:Int):Option α:=(EK xs.length i).bind λj=>xs[j]?
theorem xW(h:EK n i=some j):seqIndex? i n=some j/\j<n/\ -(n:Int)<=i/\i<n:=by
 unfold EK at h
 by_cases h0:0<=i
 ·rw[if_pos h0] at h
  by_cases h1:i<n
  ·rw[if_pos h1] at h
   have e:i.toNat=j:=Option.some.inj h
   exact⟨by rw[seqIndex_of h0 h1,e],by lia,by lia,h1⟩
  ·rw[if_neg h1] at h;cases h
 ·rw[if_neg h0] at h
  by_cases h1: -(n:Int)<=i
  ·rw[if_pos h1] at h
   have e:(i+n).toNat=j:=Option.some.inj h
   exact⟨by rw[seqIndex_neg (by lia) h1,e],by lia,h1,by lia⟩
  ·rw[if_neg h1] at h;cases h
theorem qY {a:Type}{xs:List a}{v:a}(h:oN xs i=some v):∃j,seqIndex? i xs.length=some j/\xs[j]?=some v/\j<xs.length/\ -(xs.length:Int)<=i/\i<xs.length:=by
 unfold oN at h
 cases e:EK xs.length i with
 |none=>rw[e] at h;cases h
 |some j=>
  rw[e] at h
  obtain⟨h1,h2,b,c⟩:=xW e
  exact⟨j,h1,h,h2,b,c⟩
theorem eg {a:Type}{xs:List a}{j:Nat}{v:a}(h:xs[j]?=some v):oN xs (j:Int)=some v:=by
 have b:j<xs.length:=(Ov.mp h).1
 have e:EK xs.length (j:Int)=some j:=by
  unfold EK
  rw[if_pos (by lia),if_pos (by lia)];simp
 unfold oN;rw[e];exact h
def w6 (b:Expr):Prop:=∀o i,subscripted b false o i=operate [o,i] (getItem o i)
def JJ (X:Cx) (r:R2):Prop:=
 ∀(value a:Expr) (pins:List (Addr×Obj)) (s:Shared) (σ:St) (H:Hp) (x y:V) (v u:Value) (Q:VK),aM X pins σ H s->bo x v->bo y u->r x y H Q->
  subscripted a false v u=operate [v,u] (getItem v u)->wpAny (model X.prog X.w) X.A (subscriptTail value a v u) (EP X pins σ Q) X.xe s
def JN (X:Cx) (id:String) (r:V->List V->Hp->VK->Prop):Prop:=
 ∀(pins:List (Addr×Obj)) (s:Shared) (σ:St) (H:Hp) (x:V) (xs:List V) (v:Value) (a:List Value) (Q:VK),aM X pins σ H s->bo x v->bH xs a->r x xs H Q->
  wpAny (model X.prog X.w) X.A (call (.builtin id) (v::a)) (EP X pins σ Q) X.xe s
section
variable {a b:Expr} {ta tb:TE} {pos:Pos}
theorem LG(e:JJ X r)(i:PE X a ta)(g:PE X b tb)(d:w6 b):PE X (.Subscript a b pos) (gb r ta tb):=by
 intro pins s σ H Q I h
 exact Subscript_ (Jr i g I h λv u s2 x y H2 I2 c f q=>e a b pins s2 σ H2 x y v u Q I2 c f q (d _ _))
def uh (K:NJ):R2:=λx y H Q=>∃p xs i v,x=.ref p/\y=.int i/\bf K H p xs/\oN xs i=some v/\Q v H
def yD (K:NJ):R2:=λx y H Q=>∃p xs i v,x=.ref p/\y=.int i/\bY K H p xs/\oN xs i=some v/\Q v H
def K3:R2:=λx y H Q=>∃z i c,x=.str z/\y=.int i/\z.length<=sizeLine/\oN z.cps.toList i=some c/\Q (.str ⟨#[c]⟩) H
theorem aH:JJ X (uh X.K):=by
 intro value f pins s σ H x y v u Q I n o h g
 obtain⟨p,xs,i,z,rfl,rfl,B,A,q⟩:=h
 cases n
 obtain⟨t,rfl⟩:=o
 obtain⟨c,r,e,E⟩:=I.list B
 obtain⟨j,h1,h2,G,C,D⟩:=qY A
 obtain⟨w,l,b⟩:=r.get h2
 have m:=r.length
 have F:=oB
 have a:EP X pins σ Q w s:=⟨z,H,I,b,q⟩
 by_cases h0:0<=i
 ·have d:i.toNat=j:=by
   rw[seqIndex_of h0 D] at h1
   exact Option.some.inj h1
  exact item_listR e.isList h0 (by lia) (by rw[d];simpa using l) a g
 ·have d:(i+(c.toArray.size:Int)).toNat=j:=by
   rw[seqIndex_neg (by lia) C] at h1
   rw[Og,<-m]
   exact Option.some.inj h1
  exact subscriptTail_builtinR (x:=w) e.isList.typeIs slot_list_getitem.lookup
   (wpAny_getItem_list_neg (Q:=λr s'=>r=w/\EP X pins σ Q r s') e.isList (by lia) (by rw[Og]<;>lia) (by lia) (by rw[d];simpa using l) ⟨rfl,a⟩) g
theorem aZ:JJ X (yD X.K):=by
 intro value d pins s σ H x y v u Q I g m h l
 obtain⟨p,xs,i,z,rfl,rfl,A,n,q⟩:=h
 cases g
 obtain⟨t,rfl⟩:=m
 obtain⟨c,r,e,B⟩:=I.tuple A
 obtain⟨j,h1,h2,E,D,F⟩:=qY n
 obtain⟨w,o,b⟩:=r.get h2
 have f:=r.length
 have C:=oB
 have a:EP X pins σ Q w s:=⟨z,H,I,b,q⟩
 exact subscriptTail_builtinR (x:=w) e.typeIs slot_tuple_getitem.lookup
  (getItem_tuple (j:=j) (Q:=λr s'=>r=w/\EP X pins σ Q r s') e (by lia) (by lia) (by rw[Og,<-f];exact h1) (by simpa using o) ⟨rfl,a⟩) l
theorem DC:JJ X K3:=by
 intro value a pins s σ H x y v u Q I b g h e
 obtain⟨z,i,c,rfl,rfl,r,l,q⟩:=h
 obtain⟨t,rfl⟩:=b
 obtain⟨w,rfl⟩:=g
 obtain⟨j,h1,h2,A,d,n⟩:=qY l
 have f:z.cps.toList.length=z.length:=by simp[Str.length]
 rw[f] at h1 d n
 have p:=oB
 exact tail_any (typeIs_str s z t) slot_str_getitem.lookup (getItem_str (c:=c) (by
  have o:decide (i< -(2^63:Int))=false:=decide_eq_false (by lia)
  have m:decide (i>=2^63)=false:=decide_eq_false (by lia)
  rw[o,m,Bool.or_false]) (by rw[h1];simpa using h2) ⟨.str ⟨#[c]⟩,H,I.tok _,⟨_,rfl⟩,q⟩) e
theorem vR (its:List Value)(n j:Nat)(u:Value):Obj.mapSeq (·.setIfInBounds j u) {cls:=.type "list",data:=.seq its.toArray n}={cls:=.type "list",data:=.seq (its.set j u).toArray n}:=by
 simp[Obj.mapSeq]
theorem aM.lst(I:aM X pins σ H s)(h:H p=some (.lst xs)):
  ∃(a:List Value) (n:Nat),bH xs a/\s.heap.get? p=some {cls:=.type "list",data:=.seq a.toArray n}/\xs.length<=sizeLine:=by
 obtain⟨z,a,n,r,e⟩:=I.hok p _ h
 exact⟨a,n,r,e,z⟩
theorem aM.lstUpd {p:Addr}{xs ys:List V}{its its':List Value}{n a:Nat}{f:Obj->Obj}(I:aM X pins σ H s)(h:H p=some (.lst xs))
  (d:s.heap.get? p=some {cls:=.type "list",data:=.seq its.toArray n}) (hf:f {cls:=.type "list",data:=.seq its.toArray n}={cls:=.type "list",data:=.seq its'.toArray a}) (r:bH ys its') (c:ys.length<=sizeLine) (t:Nat):
  aM X pins σ (upd H p (.lst ys)) {s with heap:=s.heap.update p f,toks:=t}:=by
 have e:(s.heap.update p f).get? p=some {cls:=.type "list",data:=.seq its'.toArray a}:=by
  rw[OR f d (by rw[hf]<;>rfl),hf]
 refine I.write (x:=p) (e:=p) (by rw[h];trivial) (.inl rfl) (λb u g q=>(PD _ _ (N6 g)).trans q) ⟨_,e⟩ ?_
 exact⟨c,its',a,r,e⟩
noncomputable def tq:V->V->V->Hp->(Hp->Prop)->Prop:=λo i v H Q=>∃p xs k j,o=.ref p/\i=.int k/\H p=some (.lst xs)/\EK xs.length k=some j/\Q (upd H p (.lst (xs.set j v)))
theorem ff:JV X tq:=by
 intro pins s σ H o i v A B u Q I w z y h
 obtain⟨p,xs,k,j,rfl,rfl,e,x,q⟩:=h
 cases w
 obtain⟨t,rfl⟩:=z
 obtain⟨a,n,r,c,m⟩:=I.lst e
 obtain⟨h1,h2,g,f⟩:=xW x
 have b:=r.length
 have C:=oB
 have l:aM X pins σ (upd H p (.lst (xs.set j v))) {s with heap:=s.heap.update p (Obj.mapSeq (·.setIfInBounds j u))}:=
  I.lstUpd e c (vR a n j u) (r.set y j) (by rw[List.length_set];exact m) s.toks
 by_cases h0:0<=k
 ·have d:k.toNat=j:=by
   rw[seqIndex_of h0 f] at h1
   exact Option.some.inj h1
  exact PySem.W.ki_setAt c h0 (by lia) (by rw[Og,<-b];exact f) (by rw[d];exact⟨_,l,q⟩)
 ·have d:(k+(a.toArray.size:Int)).toNat=j:=by
   rw[seqIndex_neg (by lia) g] at h1
   rw[Og,<-b]
   exact Option.some.inj h1
  exact PySem.W.ki_setBack c (by lia) (by rw[Og,<-b];exact g) (by lia) (by rw[d];exact⟨_,l,q⟩)
theorem qP (lo hi:Option Int)(n:Nat):(sliceBounds lo hi none n).1=((HT.sIx n 0 lo:Nat):Int)/\(sliceBounds lo hi none n).2.1=((HT.sIx n n hi:Nat):Int)/\(sliceBounds lo hi none n).2.2=1:=by
 refine⟨?_,?_,rfl⟩
 ·cases lo with
  |none=>simp[sliceBounds,HT.sIx]
  |some i=>
   simp only[sliceBounds,HT.sIx,Option.getD_none,show(1:Int)>0 by decide,if_true]
   by_cases h:i<0
   ·simp only[h,if_true]<;>lia
   ·simp only[h,if_false]<;>lia
 ·cases hi with
  |none=>simp[sliceBounds,HT.sIx]
  |some i=>
   simp only[sliceBounds,HT.sIx,Option.getD_none,show(1:Int)>0 by decide,if_true]
   by_cases h:i<0
   ·simp only[h,if_true]<;>lia
   ·simp only[h,if_false]<;>lia
theorem oF (its:List Value)(lo hi:Option Int):slicePick its.toArray lo hi none=((its.drop (HT.sIx its.length 0 lo)).take (HT.sIx its.length its.length hi - HT.sIx its.length 0 lo)).toArray:=by
 obtain⟨h1,h2,a⟩:=qP lo hi its.toArray.size
 unfold slicePick
 rw[h1,h2,a]
 simp only[sliceRange_one,pick_run,Og]<;>rfl
noncomputable def qt (K:NJ):V->Option Int->Option Int->Hp->VK->Prop:=λx lo hi H Q=>∃a xs,x=.ref a/\bf K H a xs/\∀p,H p=none->Q (.ref p) (upd H p (.lst (fT xs lo hi)))
theorem bE:MZ X (qt X.K):=by
 intro pins s σ H x v n p lo hi w Q I g i j m h
 obtain⟨a,xs,rfl,f,q⟩:=h
 cases g
 obtain⟨d,r,e,l⟩:=I.list f
 have c:=r.length
 refine⟨"list",_,slot_list_getitem.lookup,e.isList.typeIs,?_⟩
 refine wpAny_getItem_list_slice e.isList i j m .none (by simp) ?_ (by rw[Og]<;>lia)
 rw[oF,<-c]
 refine⟨.ref s.heap.objs.size,_,I.laid (t':=s.toks) (o:=.lst (fT xs lo hi)) (λb u q=>NN _ q) (NI _) ?_,rfl,q _ (I.hok.fresh (NI _))⟩
 exact⟨NP (sJ xs lo hi) l,_,0,(r.drop (HT.sIx xs.length 0 lo)).take (HT.sIx xs.length xs.length hi - HT.sIx xs.length 0 lo),NZ _ rfl⟩
noncomputable def jw:V->Bool
 | .non=>true
 | .bl _=>true
 | .int _=>true
 | .str _=>true
 |_=>false
noncomputable def GX:V->V->Bool
 | .non,.non=>true
 | .bl a,.bl b=>a==b
 | .bl a,.int b=>(if a then 1 else 0)==b
 | .int a,.bl b=>a==(if b then 1 else 0)
 | .int a,.int b=>a==b
 | .str a,.str b=>a==b
 |_,_=>false
theorem Hu(f:bo y u)(c:bo x v)(g:jw y=true)(e:jw x=true):SeqAt.EqAt A s u v (GX y x):=by
 cases y with
 |non=>
  cases f
  cases x with
  |non=>cases c;exact SeqAt.EqAt.same _
  |bl b=>cases c;exact SeqAt.EqAt.none_bool b
  |int b=>obtain⟨t,rfl⟩:=c;exact SeqAt.EqAt.none_int b t
  |str b=>obtain⟨t,rfl⟩:=c;exact SeqAt.EqAt.none_str b t
  |_=>exact absurd (show false=true from e) NY
 |bl a=>
  cases f
  cases x with
  |non=>cases c;exact SeqAt.EqAt.bool_none a
  |bl b=>cases c;exact SeqAt.EqAt.bool_bool a b
  |int b=>obtain⟨t,rfl⟩:=c;exact SeqAt.EqAt.bool_int a b t
  |str b=>obtain⟨t,rfl⟩:=c;exact SeqAt.EqAt.bool_str a b t
  |_=>exact absurd (show false=true from e) NY
 |int a=>
  obtain⟨d,rfl⟩:=f
  cases x with
  |non=>cases c;exact SeqAt.EqAt.int_none a d
  |bl b=>cases c;exact SeqAt.EqAt.int_bool a d b
  |int b=>obtain⟨t,rfl⟩:=c;exact SeqAt.EqAt.int_int a d b t
  |str b=>obtain⟨t,rfl⟩:=c;exact SeqAt.EqAt.int_str a d b t
  |_=>exact absurd (show false=true from e) NY
 |str a=>
  obtain⟨d,rfl⟩:=f
  cases x with
  |non=>cases c;exact SeqAt.EqAt.str_none a d
  |bl b=>cases c;exact SeqAt.EqAt.str_bool a d b
  |int b=>obtain⟨t,rfl⟩:=c;exact SeqAt.EqAt.str_int a d b t
  |str b=>obtain⟨t,rfl⟩:=c;exact SeqAt.EqAt.str_str a d b t
  |_=>exact absurd (show false=true from e) NY
 |_=>exact absurd (show false=true from g) NY
noncomputable def Fs (x:V) (u:Value):Bool:=match u with
 | .none=>GX .non x
 | .bool b=>GX (.bl b) x
 | .int i _=>GX (.int i) x
 | .str z _=>GX (.str z) x
 |_=>false
theorem DM(r:bo y u)(f:jw y=true):Fs x u=GX y x:=by
 cases y with
 |non=>cases r;rfl
 |bl b=>cases r;rfl
 |int i=>obtain⟨t,rfl⟩:=r;rfl
 |str z=>obtain⟨t,rfl⟩:=r;rfl
 |_=>exact absurd (show false=true from f) NY
theorem w9(a:bH xs us)(f:xs.all jw=true):us.any (Fs x)=xs.any λy=>GX y x:=by
 induction a with
 |nil=>rfl
 |cons r _ ih=>
  rw[PL,N8] at f
  rw[OY,OY,DM r f.1,ih f.2]
theorem nY(b:bo x v)(c:jw x=true):∀{xs:List V} {a:List Value},bH xs a->xs.all jw=true->∀u∈a,SeqAt.EqAt A s u v (Fs x u)
 |_,_,.nil,_=>λu hu=>by cases hu
 |y::xs,u::a,.cons r t,f=>λd hu=>by
  rw[PL,N8] at f
  rcases NK.mp hu with rfl|hu
  ·rw[DM r f.1];exact Hu r b f.1 c
  ·exact nY b c t f.2 d hu
def LZ (x:V) (xs:List V):Bool:=xs.any λy=>GX y x
def Nu (K:NJ) (a:Bool):R2:=λx y H Q=>∃p xs,y=.ref p/\(bf K H p xs\/bY K H p xs)/\jw x=true/\xs.all jw=true/\Q (.bl (if a then !LZ x xs else LZ x xs)) H
theorem p9:ji X (compareOp .In) (Nu X.K false):=by
 intro pins s σ H x y v u Q I d f h
 obtain⟨p,xs,rfl,hq,e,fs,q⟩:=h
 cases f
 rcases hq with hq|hq
 ·obtain⟨a,r,b,g⟩:=I.list hq
  refine SeqAt.in_listAt (Fs x) b.isList (λw c=>nY d e r fs w (by simpa using c)) ⟨.bl _,H,I,rfl,?_⟩
  rw[show a.toArray.any (Fs x)=a.any (Fs x) by simp,w9 r fs]
  exact q
 ·obtain⟨a,r,b,g⟩:=I.tuple hq
  refine SeqAt.in_tupleAt (Fs x) b (λw c=>nY d e r fs w (by simpa using c)) ⟨.bl _,H,I,rfl,?_⟩
  rw[show a.toArray.any (Fs x)=a.any (Fs x) by simp,w9 r fs]
  exact q
theorem rh:c_ X (.builtin "len") (λxs H Q=>∃z,xs=[.str z]/\z.length<=sizeLine/\Q (.int z.length) H):=by
 intro pins s σ H xs b Q I r h
 obtain⟨z,rfl,c,q⟩:=h
 obtain⟨u,rfl,t,rfl⟩:=dY r
 have a:=oB
 exact len_str (by lia) ⟨.int z.length,H,I.tok _,⟨_,rfl⟩,q⟩
theorem fV:c_ X (.type "list") (λxs H Q=>∃p ys,xs=[.ref p]/\(bf X.K H p ys\/bY X.K H p ys)/\∀l,H l=none->Q (.ref l) (upd H l (.lst ys))):=by
 intro pins s σ H xs A Q I r h
 obtain⟨p,ys,rfl,hq,q⟩:=h
 obtain⟨u,rfl,z⟩:=dY r
 cases z
 have c:∀(a:List Value),bH ys a->ys.length<=sizeLine->∀(h':Heap) (g:Nat),(∀b o',s.heap.get? b=some o'->h'.get? b=some o')->
   h'.get? s.heap.objs.size=some {cls:=.type "list",dict:=none,data:=.seq a.toArray g,slots:= #[]}->EP X pins σ Q (.ref s.heap.objs.size) {s with heap:=h'}:=λa f j h' g i e=>
  ⟨.ref s.heap.objs.size,_,I.laid (t':=s.toks) i (NI _) (show cg X.prog X.w _ h' _ (.lst ys) from⟨j,a,g,f,e⟩),rfl,q _ (I.hok.fresh (NI _))⟩
 rcases hq with hq|hq
 ·obtain⟨a,f,y,j⟩:=I.list hq
  have d:=f.length
  obtain⟨o,m,v,n,x⟩:=y.isList
  exact call_list_seq p (.inl rfl) m v x (λh' g i e=>c a f j h' g i e) (by simp only[Og]<;>lia)
 ·obtain⟨a,f,y,j⟩:=I.tuple hq
  have d:=f.length
  obtain⟨o,m,v,n,x⟩:=y
  exact call_list_seq p (.inr rfl) m v x (λh' g i e=>c a f j h' g i e) (by simp only[Og]<;>lia)
theorem eM:c_ X (.type "tuple") (λxs H Q=>∃p ys,xs=[.ref p]/\((bf X.K H p ys/\∀l,H l=none->Q (.ref l) (upd H l (.tup ys)))\/(bY X.K H p ys/\Q (.ref p) H))):=by
 intro pins s σ H xs x Q I r h
 obtain⟨p,ys,rfl,h⟩:=h
 obtain⟨u,rfl,n⟩:=dY r
 cases n
 rcases h with ⟨d,q⟩|⟨d,q⟩
 ·obtain⟨a,f,g,i⟩:=I.list d
  have c:=f.length
  refine call_tuple_list g.isList (λh' m=>?_) (by simp only[Og]<;>lia)
  have j:aM X pins σ H {s with heap:=h'}:=I.kept (t':=s.toks) m
  have v:aM X pins σ (upd H h'.objs.size (.tup ys)) {s with heap:=h'.push {cls:=.type "tuple",data:=.seq a.toArray}}:=
   j.laid (t':=s.toks) (λb o e=>NN _ e) (NI _) (show cg X.prog X.w _ _ _ (.tup ys) from⟨i,a,f,IsTup.new _ _⟩)
  exact⟨.ref h'.objs.size,_,v,rfl,q _ (j.hok.fresh (NI _))⟩
 ·obtain⟨a,f,g,i⟩:=I.tuple d
  exact call_tuple_same g ⟨.ref p,H,I,rfl,q⟩
def L_ (K:NJ) (T:String) (x:V) (H:Hp):Prop:=match x with
 | .str _=>T= "str"
 | .int _=>T= "int"
 | .ref p=>(T= "list" /\∃xs,bf K H p xs)\/(T= "tuple" /\∃o,K.lookup p=some o/\o.cls=.type "tuple" /\o.dict=none)\/
   (T= "dict" /\((∃kvs,H p=some (.dK kvs))\/∃kvs,H p=some (.dT kvs)))\/(T= "set" /\∃S n,H p=some (.set S n))
 |_=>False
theorem Jl(I:aM X pins σ H s)(r:bo x v)(ty:L_ X.K T x H):
  s.TypeIs v T/\∀a,v=.ref a->∃j,s.heap.get? a=some j/\j.dict=none:=by
 cases x with
 |str z=>
  obtain⟨t,rfl⟩:=r
  cases(show T= "str" from ty)
  exact⟨typeIs_str s z t,λ_ e=>nomatch e⟩
 |int i=>
  obtain⟨t,rfl⟩:=r
  cases(show T= "int" from ty)
  exact⟨typeIs_int s i t,λ_ e=>nomatch e⟩
 |ref p=>
  cases r
  rcases ty with ⟨rfl,xs,l⟩|⟨rfl,o,d,m,f⟩|⟨rfl,d⟩|⟨rfl,S,n,d⟩
  ·obtain⟨b,_,h,_⟩:=I.list l
   refine⟨h.isList.typeIs,λa e=>?_⟩
   cases e
   obtain⟨o,n,e,c,f,_⟩:=h
   exact⟨o,e,f⟩
  ·refine⟨⟨o,I.kIn p o d,m⟩,λa e=>?_⟩
   cases e
   exact⟨o,I.kIn _ o d,f⟩
  ·have z:∃o,s.heap.get? p=some o/\o.ExactDict:=by
    rcases d with ⟨kvs,d⟩|⟨kvs,d⟩
    ·obtain⟨_,_,_,_,o,_,_,e,ex,_⟩:=I.hok p _ d
     exact⟨o,e,ex⟩
    ·obtain⟨_,_,_,_,o,_,_,e,ex,_⟩:=I.hok p _ d
     exact⟨o,e,ex⟩
   obtain⟨o,e,ex⟩:=z
   refine⟨⟨o,e,ex.1⟩,λa g=>?_⟩
   cases g
   exact⟨o,e,ex.2.1⟩
  ·obtain⟨o,_,_,_,e,ex,_⟩:=I.hok p _ d
   refine⟨⟨o,e,ex.1⟩,λa g=>?_⟩
   cases g
   exact⟨o,e,ex.2.1⟩
 |_=>exact False.elim ty
def D4 (K:NJ) (T:String) (r:V->List V->Hp->VK->Prop) (a:TE) (t:TA):TE:=λσ H Q=>a σ H λx H1=>L_ K T x H1/\t σ H1 λxs H2=>r x xs H2 Q
variable {o e:Expr} {es:List Expr} {to:TE} {t:TA} {name:Str} {apos cpos:Pos} {T id:String} {r:V->List V->Hp->VK->Prop}
theorem bI (z:PlainAttrs T)(d:Slot T name id)(g:typeOf (.builtin id)=pure (.type "method_descriptor"))(m:JN X id r)(u:PE X o to)(A:PA X (e::es) t)
  (b:attributeBase o name X.env (eval o X.env)=eval o X.env:=by rfl)
  (f:((backTo cpos (starEach (e::es) X.env)).all (λx=>!x.1)&&(backToKw cpos (keywordEach [] X.env)).all (λx=>x.1.isSome)
   &&decide ((e::es).length+([]:List Keyword).length+(if ([]:List Keyword).isEmpty then 0 else 1)<30))=true:=by rfl)
  (c:(apos.endLine==cpos.line)=true:=by rfl) (p:starEach (e::es) X.env=(false,eval e X.env)::starEach es X.env:=by rfl) (a:(backTo cpos (starEach es X.env)).any (·.1)=false:=by rfl):
  PE X (.Call (.Attribute o name apos) (e::es) [] cpos) (D4 X.K T r to t):=by
 intro pins s σ H Q I h
 refine wpAny_Call_method_late b f c rfl (cJ (u pins s σ H _ I h) λv s1 w=>?_)
 obtain⟨x,H1,I1,i,ty,y⟩:=w
 obtain⟨h1,h2⟩:=Jl I1 i ty
 refine⟨T,id,z,d,g,h1,h2,?_⟩
 have j:=A cpos pins s1 σ H1 _ I1 y
 rw[p] at j|-
 refine Calls.callWith_builtin (by show(false||(backTo cpos (starEach es X.env)).any (·.1))=false;rw[a]<;>rfl) (Calls.evalArgs_plain ?_)
 exact cJ j λn s2 ⟨vs,H2,I2,q,l⟩=>m pins s2 σ H2 x vs v n Q I2 i q l
end
def M_ (X:Cx) (id:String) (r:V->List V->Hp->VK->Prop):Prop:=
 ∀(pins:List (Addr×Obj)) (s:Shared) (σ:St) (H:Hp) (x:V) (xs:List V) (v:Value) (a:List Value) (Q:VK),aM X pins σ H s->bo x v->bH xs a->r x xs H Q->
  wpAny (model X.prog X.w) X.A (call (.builtin id) (v::a)) (EP X pins σ Q) X.xe s
theorem bH.one(h:bH [x] us):∃u,us=[u]/\bo x u:=by
 cases h with|cons r t=>cases t;exact⟨_,rfl,r⟩
section
variable {l b:Addr} {xs ys zs:List V}
theorem aM.lset {its its':List Value}{n:Nat}{f:Array Value->Array Value}{t':Nat}(I:aM X pins σ H s)(b:H l=some (.lst xs))
  (e:s.heap.get? l=some {cls:=.type "list",data:=.seq its.toArray n}) (hf:f its.toArray=its'.toArray) (g:bH ys its') (c:ys.length<=sizeLine):
  aM X pins σ (upd H l (.lst ys)) {s with heap:=s.heap.update l (Obj.mapSeq f),toks:=t'}:=by
 have q:=PySem.IsL.update e f
 rw[hf] at q
 refine I.write (x:=l) (e:=l) (by rw[b];exact trivial) (.inl rfl) (λh u a d=>(PD s.heap (Obj.mapSeq f) (N6 a)).trans d) ⟨_,q⟩ ?_
 exact⟨c,its',_,g,q⟩
theorem aM.lnew(I:aM X pins σ H s)(b:bH ys its)(a:ys.length<=sizeLine):
  aM X pins σ (upd H s.heap.objs.size (.lst ys)) {s with heap:=s.heap.push {cls:=.type "list",data:=.seq its.toArray},toks:=t'}:=
 I.laid (λ_ _ q=>NN _ q) (NI _) ⟨a,its,0,b,NZ _ rfl⟩
theorem aM.fresh (I:aM X pins σ H s):H s.heap.objs.size=none:=I.hok.fresh (NI _)
theorem aM.lstM (I:aM X pins σ H s)(b:H l=some (.lst xs)):xs.length<=sizeLine/\∃(a:List Value) (n:Nat),bH xs a/\xs.length=a.length/\s.heap.get? l=some {cls:=.type "list",data:=.seq a.toArray n}:=by
 obtain⟨z,a,n,r,e⟩:=I.hok l _ b
 exact⟨z,a,n,r,r.length,e⟩
theorem A7(h:n<=sizeLine):Builtin.List.listTooLong n=false:=by
 exact decide_eq_false (by lia)
end
noncomputable def ml:V->List V->Hp->VK->Prop:=λx vs H Q=>∃l xs y,x=.ref l/\vs=[y]/\H l=some (.lst xs)/\xs.length<sizeLine/\Q .non (upd H l (.lst (xs++[y])))
theorem aL:M_ X "list.append" ml:=by
 intro pins s σ H x vs v g Q I c f h
 obtain⟨l,xs,y,rfl,rfl,b,j,q⟩:=h
 cases c
 obtain⟨u,rfl,d⟩:=f.one
 obtain⟨z,a,n,r,i,e⟩:=I.lstM b
 refine call_meets F.slot_list_append ⟨_,e,rfl⟩ F.entry_list_append (F.args_list_append_2 _ _) (PySem.list_append l a.toArray n u (by rw[Og];lia)) ⟨e,?_⟩
 refine⟨.non,_,I.lset (its':=a++[u]) b e (by simp) (r.append (.cons d .nil)) ?_,rfl,q⟩
 rw[NM,Qm]
 lia
noncomputable def Ef:V->List V->Hp->VK->Prop:=λx vs H Q=>∃l b xs zs,x=.ref l/\vs=[.ref b]/\H l=some (.lst xs)/\H b=some (.lst zs)/\xs.length+zs.length<=sizeLine/\Q .non (upd H l (.lst (xs++zs)))
theorem qc:M_ X "list.extend" Ef:=by
 intro pins s σ H x vs v B Q I p y h
 obtain⟨l,b,xs,zs,rfl,rfl,i,j,D,q⟩:=h
 cases p
 obtain⟨u,rfl,o⟩:=y.one
 cases o
 obtain⟨z,c,n,r,C,e⟩:=I.lstM i
 obtain⟨E,a,A,w,g,m⟩:=I.lstM j
 have f:c.toArray.size+a.toArray.size<=sizeLine:=by rw[Og,Og];lia
 have d:¬(!c.toArray.isEmpty&&Builtin.List.listTooLong (c.toArray.size+a.toArray.size))=true:=by
  rw[A7 f,Om]
  exact NY
 refine call_meets F.slot_list_extend ⟨_,e,rfl⟩ F.entry_list_extend (F.args_list_extend_2 _ _)
  (AutoSeq1.list_extend_list_list_0 l c.toArray n b a.toArray A d (by rw[Og];lia) (by lia)) ⟨e,m,?_⟩
 refine⟨.non,_,I.lset (its':=c++a) i e (by simp) (r.append w) ?_,rfl,q⟩
 rw[NM]
 lia
def zD:R2:=λx y H Q=>∃l b xs zs,x=.ref l/\y=.ref b/\H l=some (.lst xs)/\H b=some (.lst zs)/\xs.length+zs.length<=sizeLine/\∀p,H p=none->Q (.ref p) (upd H p (.lst (xs++zs)))
theorem eB:ji X (binaryOp .Add) zD:=by
 intro pins s σ H x y v u Q I f i h
 obtain⟨l,b,xs,zs,rfl,rfl,o,g,B,q⟩:=h
 cases f
 cases i
 obtain⟨z,c,n,r,A,e⟩:=I.lstM o
 obtain⟨w,a,C,j,d,m⟩:=I.lstM g
 refine PySem.P.add_list e m ?_ (by rw[Og,Og];lia)
 have p:c.toArray++a.toArray=(c++a).toArray:=by simp
 rw[p]
 exact⟨.ref _,_,I.lnew (t':=s.toks) (r.append j) (by rw[NM];lia),rfl,q _ I.fresh⟩
section
variable {κ:Type} [DecidableEq κ]
noncomputable def fD (a:List (κ×V)) (k:κ):Option V:=(a.find? λkv=>decide (kv.1=k)).map (·.2)
noncomputable def gO (a:List (κ×V)) (k:κ) (v:V):List (κ×V):=
 if (a.any λkv=>decide (kv.1=k))=true then a.map (λkv=>if kv.1=k then (kv.1,v) else kv) else a++[(k,v)]
theorem dZ {p:κ×V}{r:List (κ×V)}{k:κ}(e:p.1=k):fD (p::r) k=some p.2:=by simp[fD,P0,e]
theorem dM {p:κ×V}{r:List (κ×V)}{k:κ}(e:¬p.1=k):fD (p::r) k=fD r k:=by simp[fD,P0,e]
theorem gQ (k:κ):∀kvs:List (κ×V),(kvs.any λkv=>decide (kv.1=k))=(fD kvs k).isSome
 |[]=>rfl
 |p::r=>by
  rw[OY]
  by_cases e:p.1=k
  ·simp only[dZ e,decide_eq_true e,Bool.true_or,Option.isSome_some]
  ·rw[dM e,decide_eq_false e,Bool.false_or];exact gQ k r
theorem sN (k j:κ)(y:V):∀kvs:List (κ×V),fD (kvs.map λkv=>if kv.1=k then (kv.1,y) else kv) j=(fD kvs j).map λx=>if j=k then y else x
 |[]=>rfl
 |p::r=>by
  have a:=sN k j y r
  rw[NQ]
  by_cases h:p.1=k
  ·rw[if_pos h]
   by_cases e:p.1=j
   ·rw[dZ (p:=(p.1,y)) e,dZ e,PU,if_pos (e.symm.trans h)]
   ·rw[dM (p:=(p.1,y)) e,dM e,a]
  ·rw[if_neg h]
   by_cases e:p.1=j
   ·rw[dZ (p:=p) e,dZ e,PU,if_neg (λz=>h (e.trans z))]
   ·rw[dM (p:=p) e,dM e,a]
theorem oX (k j:κ)(y:V):∀kvs:List (κ×V),fD kvs k=none->fD (kvs++[(k,y)]) j=if j=k then some y else fD kvs j
 |[],_=>by
  by_cases e:k=j
  ·rw[if_pos e.symm];exact dZ (p:=(k,y)) e
  ·rw[if_neg (λz=>e z.symm)];exact dM (p:=(k,y)) e
 |p::r,hn=>by
  rw[Pn]
  have a:¬p.1=k:=λz=>by rw[dZ z] at hn;cases hn
  rw[dM a] at hn
  have b:=oX k j y r hn
  by_cases e:p.1=j
  ·rw[dZ e,dZ e,if_neg (λz=>a (e.trans z))]
  ·rw[dM e,dM e,b]
theorem Cj (b:List (κ×V))(k j:κ)(y:V):fD (gO b k y) j=if j=k then some y else fD b j:=by
 unfold gO
 by_cases a:(b.any λkv=>decide (kv.1=k))=true
 ·rw[if_pos a,sN]
  rw[gQ] at a
  by_cases e:j=k
  ·obtain⟨x,c⟩:=Option.isSome_iff_exists.mp a
   rw[if_pos e,e,c,PU,if_pos rfl]
  ·rw[if_neg e]
   cases fD b j with
   |none=>rfl
   |some x=>rw[PU,if_neg e]
 ·rw[if_neg a]
  refine oX k j y b ?_
  rw[gQ] at a
  cases q:fD b k with
  |none=>rfl
  |some x=>rw[q] at a;exact(a rfl).elim
theorem fJ (a:List (κ×V))(k:κ)(v:V):(gO a k v).length<=a.length+1:=by
 unfold gO
 split
 ·rw[NG];lia
 ·rw[NM,NU,Qn];lia
theorem iP.isSome_eq{u:Option Value}(r:iP o u):o.isSome=u.isSome:=by
 cases o with
 |none=>cases u with
  |none=>rfl
  |some _=>exact(show False from r).elim
 |some _=>cases u with
  |none=>exact(show False from r).elim
  |some _=>rfl
theorem KV.val {a:List (κ×V)}{vs:List (κ×Value)}(r:KV a vs)(k:κ):iP (fD a k) (valueAt vs k):=by
 induction r with
 |nil=>exact True.intro
 | @cons p q ps c h t f=>
  obtain⟨h1,h2⟩:=h
  by_cases e:p.1=k
  ·have d:q.1=k:=h1.symm.trans e
   have b:valueAt (q::c) k=some q.2:=by simp[valueAt,P0,d]
   rw[dZ e,b];exact h2
  ·have d:¬q.1=k:=λz=>e (h1.trans z)
   have b:valueAt (q::c) k=valueAt c k:=by simp[valueAt,P0,d]
   rw[dM e,b];exact f
theorem KV.any {a:List (κ×V)}{vs:List (κ×Value)}(r:KV a vs)(k:κ):(a.any λkv=>decide (kv.1=k))=vs.any λkv=>decide (kv.1=k):=by
 induction r with
 |nil=>rfl
 |cons h t ih=>rw[OY,OY,ih,h.1]
theorem KV.repl {a:List (κ×V)}{vs:List (κ×Value)}(r:KV a vs)(k:κ){y:V}{u:Value}(b:bo y u):
  KV (a.map λkv=>if kv.1=k then (kv.1,y) else kv) (vs.map λkv=>if kv.1=k then (kv.1,u) else kv):=by
 induction r with
 |nil=>exact .nil
 | @cons p q ps qs h t ih=>
  rw[NQ,NQ]
  refine .cons ?_ ih
  obtain⟨h1,h2⟩:=h
  by_cases e:p.1=k
  ·rw[if_pos e,if_pos (h1.symm.trans e)];exact⟨h1,b⟩
  ·rw[if_neg e,if_neg (λz=>e (h1.trans z))];exact⟨h1,h2⟩
theorem KV.put {a:List (κ×V)}{vs:List (κ×Value)}(r:KV a vs)(k:κ){y:V}{u:Value}(b:bo y u):KV (gO a k y) (stored vs k u):=by
 unfold gO stored
 rw[r.any k]
 by_cases e:(vs.any λkv=>decide (kv.1=k))=true
 ·rw[if_pos e,if_pos e];exact r.repl k b
 ·rw[if_neg e,if_neg e];exact Paired.snoc r ⟨rfl,b⟩
theorem KV.length {a:List (κ×V)}{vs:List (κ×Value)}(r:KV a vs):a.length=vs.length:=Paired.length r
end
theorem yw(r:bo (kV k) u):(bG P w).is k u=true:=by
 cases k with
 |inl i=>obtain⟨t,e⟩:=(show∃t,u=Value.int i t from r);subst e;exact tQ P w i t
 |inr x=>obtain⟨t,e⟩:=(show∃t,u=Value.str x t from r);subst e;exact tJ P w x t
theorem p6:∀{a:List dq} {b:List Value},bH (a.map kV) b->ItemsAre (bG P w) a b
 |[],_,r=>by rw[OA] at r;cases r;exact .nil
 |k::a,_,r=>by
  cases r with
  |cons h t=>exact .cons (yw h) (p6 t)
abbrev KT (H:Hp):List (List dq×V)->List (List dq×Addr×Value)->Prop:=Paired λp q=>p.1=q.1/\H q.2.1=some (.tup (p.1.map kV))/\bo p.2 q.2.2
theorem KT.val {a:List (List dq×V)}{xs:List (List dq×Addr×Value)}(r:KT H a xs)(k:List dq):iP (fD a k) ((atKey xs k).map (·.2)):=by
 induction r with
 |nil=>exact True.intro
 | @cons p q ps c h t f=>
  obtain⟨h1,_,h2⟩:=h
  by_cases e:p.1=k
  ·have d:q.1=k:=h1.symm.trans e
   have b:atKey (q::c) k=some q.2:=by simp[atKey,P0,d]
   rw[dZ e,b];exact h2
  ·have d:¬q.1=k:=λz=>e (h1.trans z)
   have b:atKey (q::c) k=atKey c k:=by simp[atKey,P0,d]
   rw[dM e,b];exact f
theorem KT.repl {a:List (List dq×V)}{xs:List (List dq×Addr×Value)}(r:KT H a xs)(k:List dq){y:V}{u:Value}(c:bo y u):
  KT H (a.map λkv=>if kv.1=k then (kv.1,y) else kv) (xs.map (putAt k u)):=by
 induction r with
 |nil=>exact .nil
 | @cons p q ps qs h t ih=>
  rw[NQ,NQ]
  refine .cons ?_ ih
  obtain⟨h1,h2,b⟩:=h
  unfold putAt
  by_cases e:p.1=k
  ·rw[if_pos e,if_pos (h1.symm.trans e)];exact⟨h1,h2,c⟩
  ·rw[if_neg e,if_neg (λz=>e (h1.trans z))];exact⟨h1,h2,b⟩
theorem KT.put {a:List (List dq×V)}{xs:List (List dq×Addr×Value)}(r:KT H a xs)(k:List dq){b:Addr}{y:V}{u:Value}(d:H b=some (.tup (k.map kV)))(c:bo y u):
  KT H (gO a k y) (storedH xs k b u):=by
 have e:(a.any λkv=>decide (kv.1=k))=(atKey xs k).isSome:=by
  rw[gQ,(r.val k).isSome_eq,Option.isSome_map]
 unfold gO storedH
 rw[e]
 by_cases q:(atKey xs k).isSome=true
 ·rw[if_pos q,if_pos q];exact r.repl k c
 ·rw[if_neg q,if_neg q];exact Paired.snoc r ⟨rfl,d,c⟩
theorem KT.keeps{a:List (List dq×V)}{xs:List (List dq×Addr×Value)}(r:KT H a xs)(c:∀b ys,H b=some (.tup ys)->H' b=some (.tup ys)):KT H' a xs:=
 Paired.mapP r λ_ _ z=>⟨z.1,c _ _ z.2.1,z.2.2⟩
section
variable {P:Program} {h:Heap} {a:Addr}
theorem GG(ok:iy P w H h)(e:Rd H a u):cg P w H h a u:=e.ok ok
theorem Cf {b:List (dq×V)}(ok:iy P w H h)(e:Rd H a (.dK b)):b.length<=sizeLine/\(a==sysModules)=false/\∃vs,KV b vs/\h.DictOf (bG P w) a vs:=
 show cg P w H h a (.dK b) from GG ok e
theorem KD {b:List (dq×V)}(ok:iy P w H h)(e:H a=some (.dK b)):b.length<=sizeLine/\(a==sysModules)=false/\∃vs,KV b vs/\h.DictOf (bG P w) a vs:=Cf ok (.inl e)
theorem rG(ok:iy P w H h)(e:H a=some (.tup (ks.map kV))):(tupleKind (bG P w)).is h ks a:=by
 obtain⟨_,b,r,o,h1,h2,n,c⟩:=(show cg P w H h a (.tup (ks.map kV)) from ok a _ e)
 exact⟨o,b.toArray,n,h1,h2,c,by simpa using p6 r⟩
theorem Bc {b:List (List dq×V)}(ok:iy P w H h)(e:Rd H a (.dT b)):b.length<=sizeLine/\(a==sysModules)=false/\
  ∃xs,KT H b xs/\h.DictOfH (tupleKind (bG P w)) a xs:=by
 obtain⟨z,y,xs,r,o,es,ep,h1,h2,d,c,f⟩:=(show cg P w H h a (.dT b) from GG ok e)
 refine⟨z,y,xs,r,o,es,ep,h1,h2,d,c,λx hx=>?_,f⟩
 have all:∀{l:List (List dq×V)} {m:List (List dq×Addr×Value)},KT H l m->∀x∈m,(tupleKind (bG P w)).is h x.1 x.2.1:=by
  intro l m q
  induction q with
  |nil=>intro x hx;exact nomatch hx
  | @cons p q ps qs hq t ih=>
   intro x hx
   rcases NK.mp hx with e|hx
   ·subst e
    exact rG ok (by rw[<-hq.1];exact hq.2.1)
   ·exact ih x hx
 exact all r x hx
theorem Ld {b:List (List dq×V)}(ok:iy P w H h)(e:H a=some (.dT b)):b.length<=sizeLine/\(a==sysModules)=false/\
  ∃xs,KT H b xs/\h.DictOfH (tupleKind (bG P w)) a xs:=Bc ok (.inl e)
end
def qQ (H:Hp) (a:Addr) (y:V) (r:Option V):Prop:=
 (∃kvs k,Rd H a (.dK kvs)/\y=kV k/\r=fD kvs k)\/∃kvs k b,Rd H a (.dT kvs)/\y=.ref b/\H b=some (.tup (k.map kV))/\r=fD kvs k
def qJ (H:Hp) (a:Addr) (y v:V) (H':Hp):Prop:=
 (∃kvs k,H a=some (.dK kvs)/\y=kV k/\kvs.length<sizeLine/\H'=upd H a (.dK (gO kvs k v)))\/
 ∃kvs k b,H a=some (.dT kvs)/\y=.ref b/\H b=some (.tup (k.map kV))/\kvs.length<sizeLine/\H'=upd H a (.dT (gO kvs k v))
theorem qQ.k {a:Addr}{b:List (dq×V)}{k:dq}(e:H a=some (.dK b)):qQ H a (kV k) (fD b k):=.inl ⟨b,k,.inl e,rfl,rfl⟩
theorem qQ.t {a b:Addr}{c:List (List dq×V)}{k:List dq}(e:H a=some (.dT c))(d:H b=some (.tup (k.map kV))):qQ H a (.ref b) (fD c k):=.inr ⟨c,k,b,.inl e,rfl,d,rfl⟩
theorem qJ.k {a:Addr}{b:List (dq×V)}{k:dq}{v:V}(e:H a=some (.dK b))(c:b.length<sizeLine):qJ H a (kV k) v (upd H a (.dK (gO b k v))):=.inl ⟨b,k,e,rfl,c,rfl⟩
theorem qJ.t {a b:Addr}{c:List (List dq×V)}{k:List dq}{v:V}(e:H a=some (.dT c))(f:H b=some (.tup (k.map kV)))(d:c.length<sizeLine):
  qJ H a (.ref b) v (upd H a (.dT (gO c k v))):=.inr ⟨c,k,b,e,rfl,f,d,rfl⟩
section
variable {a:Addr} {y v:V} {u r:Value} {o:Option V}
theorem aM.big (I:aM X pins σ H s):sysModules<s.heap.objs.size:=by
 have h:mainGlobals<s.heap.objs.size:=(I.mod.glob.keeps I.bk).lt
 exact Nat.lt_trans (by decide) h
theorem MO(m:A.units+1<cLine)(I:aM X pins σ H s)(g:qQ H a y o)(i:bo y u)(h:∀s',aM X pins σ H s'->Q (.bool o.isSome) s'):
  wpAny (model X.prog X.w) A (compareOp .In u (.ref a)) Q E s:=by
 rcases g with ⟨kvs,k,e,d,l⟩|⟨kvs,k,b,e,d,j,l⟩
 ·subst d
  obtain⟨z,f,vs,c,dd⟩:=Cf I.hok e
  refine wpAny_in_of (yw i) f dd.mapOf ?_
  rw[<-(c.val k).isSome_eq,<-l]
  exact h _ (I.tok _)
 ·subst d
  cases(show u=Value.ref b from i)
  obtain⟨z,f,xs,c,dd⟩:=Bc I.hok e
  refine wpAny_in_heap (tupleKind_room_in1 m) (rG I.hok j) f dd ?_
  have q:=(c.val k).isSome_eq
  rw[Option.isSome_map] at q
  rw[<-q,<-l]
  exact h _ (I.tok _)
theorem wU(I:aM X pins σ H s)(g:Er (H a))(d:Heap.SameBut a s.heap h')(h:∃q,h'.get? a=some q)(c:cg X.prog X.w (upd H a ob) h' a ob):
  aM X pins σ (upd H a ob) {s with heap:=h',toks:=t'}:=
 I.write (x:=a) (e:=a) g (.inl rfl) (λb q f z=>(d.2 b f).trans z) h c
theorem DK{b:List (dq×V)}{vs:List (dq×Value)}(z:b.length<=sizeLine)(hd:(a==sysModules)=false)(c:KV b vs)(dd:h'.DictOf (bG P w) a vs):
  cg P w H' h' a (.dK b):=⟨z,hd,vs,c,dd⟩
theorem y7{Q:Unit->Shared->Prop}(N:A.units+1<cLine)(I:aM X pins σ H s)(g:qJ H a y v H')(B:bo y u)(C:bo v r)(h:∀s',aM X pins σ H' s'->Q () s'):
  wpAny (model X.prog X.w) A (setItem (.ref a) u r) Q E s:=by
 rcases g with ⟨kvs,k,e,p,l,x⟩|⟨kvs,k,b,e,p,D,l,x⟩
 ·subst p x
  obtain⟨z,o,vs,d,dd⟩:=KD I.hok e
  have n:vs.length<=sizeLine:=by rw[<-d.length];exact z
  have j:(gO kvs k v).length<=sizeLine:=by have:=fJ kvs k v;lia
  refine wpAny_setItem_pairs (hsz:=n) (yw B) dd λh' f m=>h _ ?_
  have G:∃q,h'.get? a=some q:=let ⟨q,_,_,i,_⟩:=f;⟨q,i⟩
  exact wU I (by rw[e];exact True.intro) m G (DK j o (d.put k C) f)
 ·subst p x
  cases(show u=Value.ref b from B)
  obtain⟨z,o,xs,d,dd⟩:=Ld I.hok e
  have n:xs.length<=sizeLine:=by rw[<-Paired.length d];exact z
  have j:(gO kvs k v).length<=sizeLine:=by have:=fJ kvs k v;lia
  refine wpAny_setItem_heap (hsz:=n) (tupleKind_room_in1 N) (rG I.hok D) dd λh' f m=>h _ ?_
  obtain⟨q,es,ep,i,h2,K,J,_,M⟩:=f
  refine wU I (by rw[e];exact True.intro) m ⟨q,i⟩ ⟨j,o,_,(d.put k D C).keeps λc ys F=>?_,q,es,ep,i,h2,K,J,M⟩
  rw[ay (lO F e (λz=>nomatch z))]
  exact F
end
def KG (ty b:TE):TE:=λσ H Q=>ty σ H λy H1=>b σ H1 λx H2=>∃a o,x=.ref a/\qQ H2 a y o/\Q (.bl o.isSome) H2
def Az (c ty b:TE):TS:=λD σ H=>b σ H λv H1=>c σ H1 λx H2=>ty σ H2 λy H3=>∃a H4,x=.ref a/\qJ H3 a y v H4/\D.nx σ H4
section
variable {o i e value:Expr} {pos pos' tpos:Pos} {td ty tv:TE}
theorem Be (m:X.A.units+1<cLine)(hi:PE X i ty)(f:PE X o td):PC X .In i o (KG ty td):=by
 intro pins s σ H Q I h
 refine cJ (hi pins s σ H _ I h) λn s1 ⟨y,H1,I1,e,l⟩=>cJ (f pins s1 σ H1 _ I1 l) λu s2 j=>?_
 obtain⟨x,H2,I2,c,a,d,ex,g,b⟩:=j
 subst ex
 obtain rfl:u=Value.ref a:=c
 exact MO m I2 g e λs3 I3=>⟨.bl d.isSome,H2,I3,rfl,b⟩
theorem xo (n:X.A.units+1<cLine)(f:PE X o td)(hi:PE X i ty)(m:PE X value tv)(d:swapsWith value (some (.Subscript o i pos')) pos.line X.env=pure false):
  PS X (.Assign [.Subscript o i pos'] value pos) (Az td ty tv):=by
 intro pins s σ H D I h
 refine wpAny_Assign_Subscript (cJ (m pins s σ H _ I h) λr s1 ⟨v,H1,I1,p,l⟩=>cJ (f pins s1 σ H1 _ I1 l) λu s2 ⟨x,H2,I2,c,b⟩=>cJ (hi pins s2 σ H2 _ I2 b) λw s3 j=>?_) d
 obtain⟨y,H3,I3,e,a,H4,ex,g,q3⟩:=j
 subst ex
 obtain rfl:u=Value.ref a:=c
 exact y7 n I3 g e p λq I4=>⟨σ,H4,I4,q3⟩
end
theorem DL(h:Heap)(a:sysModules<h.objs.size):cg P w H (h.push {cls:=.type "dict",data:=.dict #[]}) h.objs.size (.dK []):=
 ⟨N9 _,beq_eq_false_iff_ne.mpr (N6 (NS a)),[],.nil,Heap.DictOf.new h⟩
theorem As(h:Heap)(a:sysModules<h.objs.size):cg P w H (h.push {cls:=.type "dict",data:=.dict #[]}) h.objs.size (.dT []):=
 ⟨N9 _,beq_eq_false_iff_ne.mpr (N6 (NS a)),[],.nil,_,#[],0,NZ _ rfl,⟨rfl,rfl,rfl⟩,rfl,rfl,P1⟩
def H_:TE:=λ_ H Q=>∀p,H p=none->Q (.ref p) (upd H p (.dK []))
def IQ:TE:=λ_ H Q=>∀p,H p=none->Q (.ref p) (upd H p (.dT []))
section
variable {pos:Pos}
theorem AA:PE X (.Dict [] [] pos) H_:=λpins s σ H Q I h=>
 wpAny_Dict_empty ⟨.ref s.heap.objs.size,_,I.laid (a:=s.heap.objs.size) (o:=.dK []) (t':=s.toks) (λ_ _ q=>NN _ q) (NI _) (DL s.heap I.big),rfl,h _ (I.hok.fresh (NI _))⟩
theorem mL:PE X (.Dict [] [] pos) IQ:=λpins s σ H Q I h=>
 wpAny_Dict_empty ⟨.ref s.heap.objs.size,_,I.laid (a:=s.heap.objs.size) (o:=.dT []) (t':=s.toks) (λ_ _ q=>NN _ q) (NI _) (As s.heap I.big),rfl,h _ (I.hok.fresh (NI _))⟩
end
section
variable {a:Addr} {kvs:List (dq×V)}
theorem Dc(I:aM X pins σ H s)(e:Rd H a (.dK kvs))(h:∀p s',H p=none->aM X pins σ (upd H p (.dK kvs)) s'->Q (.ref p) s'):wpAny (model X.prog X.w) A (call (.type "dict") [.ref a]) Q E s:=by
 obtain⟨z,g,vs,c,dd⟩:=Cf I.hok e
 refine kt_call_dict g dd (by rw[<-c.length];exact z) λh' d i=>?_
 refine h _ _ (I.hok.fresh (NI _)) (I.laid (a:=s.heap.objs.size) (o:=.dK kvs) (t':=s.toks) (λb q f=>?_) (NI _) (DK z (beq_eq_false_iff_ne.mpr (N6 (NS I.big))) c d))
 exact(i.2 b (NS (NO f))).trans (NN _ f)
end
end L2
namespace Att
open PySem PySem.W PySem.Calls PyProof.Rows
theorem lS {P:Params}:∀(ns:List Int) (vs:List Value),WellAll P h vs (ns.map WData.int)->IntsAre vs ns:=by
 intro ns
 induction ns with
 |nil=>
  intro vs w
  cases w
  exact .nil
 |cons n ns ih=>
  intro vs w
  cases w with
  |cons a b=>
   cases a
   exact .cons _ _ (ih _ b)
theorem zW {l:OpenLaw}(m:l.most=some n){P:Params}{h:Heap}{args:List WData}{e:List Value}
  (f:l.row.toRowW.claim.pre args=true) (j:WellAll P h e args):
  ∃a vs ns,e=[Value.ref a]/\args=[WData.list (ns.map WData.int)]/\h.get? a=some {cls:=.type "list",data:=.seq vs.toArray}/\IntsAre vs ns/\ns.length<=n:=by
 have c:WShape.hasAll [] args [.list .int]=true:=(pre_splitW f).1
 have p:l.pre.holds [] {args:=args}=true:=(pre_splitW f).2
 obtain⟨d,r,rfl,h1,h2⟩:=hasAllW_cons c
 obtain rfl:=hasAllW_nil h2
 obtain⟨xs,rfl,o⟩:=hasW_list h1
 obtain⟨ns,rfl⟩:=items_int o
 have b:ns.length<=n:=by
  have g:(WTm.not (.lt (.lit (.int (n:Int))) (.len (.arg 0)))).holds [] {args:=[.list (ns.map .int)]}=true:=by
   have g:=(holds_andW p).1
   rw[m] at g
   exact g
  have i:=condW_of g (w_not (w_lt w_lit (w_len_list (w_arg rfl))))
  refine Nat.le_of_not_lt λq=>?_
  first
   |(rw[decide_eq_true q'] at i;exact absurd i (by decide))
   |(simp at i;lia)
 cases j with
 |cons w1 w2=>
  cases w2
  cases w1 with
  |list ho hall=>exact⟨_,_,ns,rfl,rfl,ho,lS ns _ hall,b⟩
theorem zi (l:OpenLaw)(args:List WData):l.row.toRowW.claim.post args (.bool true) args=true:=
 postW_of (r:=l.row.toRowW) (X:=(true==true))
  (show WShape.has [] (.bool true) .bool=true by first|rfl|decide|simp[WShape.has,WShape.arms,WShape.armsAll])
  (show(WTm.eq .res (.lit (.bool true))).value [] {args:=args,res:=some (.bool true),after:=args}=some (.bool (true==true)) from w_eq_bool (w_res rfl) w_lit) rfl
theorem attach_call {l:OpenLaw}{y:(Str->Option Value)->Heap->Prop}{A:World->Heap->Prop}{d:DefRec}
  (K:l.most=some n) (m:d.params.defaults=[])
  (call:∀(w:World) (s₀ g:Shared) (mg u:Str->Option Value) (j:Addr) (o:Obj) (s cd h:Value) (a:Addr) (vs:List Value) (ns:List Int),
   Ground q loose [] y w s₀ mg u g.heap->A w g.heap->
   g.heap.get? j=some o->o.data=.func (docDef d.name d.params d.body d.scope s cd h)->g.heap.CodeRec cd d.name->mg d.name=some (.ref j)->
   g.heap.get? a=some {cls:=.type "list",data:=.seq vs.toArray}->IntsAre vs ns->ns.length<=n->g.gens= #[]->
   codeAny (model l.prog w) callerA (.call (.ref j) ⟨[.ref a],[]⟩) (λr s'=>r=.ok (.ret (.bool true))/\OldK g.heap s'.heap/\s'.os=g.os/\AllBare s'.gens) g):
  WalkO q loose y A l.row.toRowW d [] (λf vs=>PySem.call f vs):=by
 intro w s₀ g mg u G Y j o s cd h E kV F J v D p P B C as i z I x H
 obtain rfl:E=.none:=Dflts.none D m
 obtain rfl:kV=.none:=Dflts.noKw D
 obtain⟨a,vs,ns,rfl,rfl,e,b,c⟩:=zW K i x
 refine enter_call (codeAny_mono (call w s₀ g mg u j o s cd h a vs ns G Y F (fd_plain J) v p e b c P) λr s' M=>?_)
 obtain⟨rfl,h2,Q,O⟩:=M
 exact⟨.inl ⟨.bool true,.bool true,[],rfl,λ_=>rfl,.bool true,zi l _,λ_=>⟨List.Pairwise.nil,λ_ N=>(nomatch N)⟩⟩,h2,Q,O⟩
section
variable {K:Frag}
def noObjs (h:Heap):Heap:={h with objs:= #[]}
theorem noObjs_get (h:Heap)(b:Addr):(noObjs h).get? b=none:=by
 cases e:(noObjs h).get? b with
 |none=>rfl
 |some o=>exact absurd (NO e) (OZ _)
theorem fr_all{L:Addr}(n:h.Ns L m):Fr (noObjs h) L h m:=
 ⟨n,λb o e=>(by rw[noObjs_get] at e;cases e),N9 _⟩
end
end Att
namespace L2
open PySem PySem.Spec PyProof.Rows
variable {X:Cx} {pins:List (Addr×Obj)} {σ:St} {H:Hp} {s:Shared} {prog:Program} {w:World} {A:Around} {E:Value->Shared->Prop} {K:NJ} {mg:Str->Option Value} {base:Heap}
theorem yM{ns:List Int}(h:IntsAre vs ns):bH (ns.map V.int) vs:=by
 induction h with
 |nil=>exact .nil
 |cons n t _ ih=>exact .cons ⟨t,rfl⟩ ih
def JF (H:Hp):Prop:=∀b,H b=none\/∃o xs,H b=some (.frz o (.lst xs))
theorem DU {P:Program}{N:Str->Option Value}{k:Nat}{M a:Addr}{R:FuncData}{x:Str}{sp:Sp}{s₁:Shared}{vs:List Value}{ns:List Int}
  (X:K.In s₁.heap) (C:s₁.heap.Ns mainGlobals mg) (A:s₁.heap.Ns builtinsNs N) (Q:∀x:Str,x≠ "__name__" ->N x=bootBuiltins x) (G:s₁.heap.NoLimit) (hg:s₁.gens= #[])
  (I:s₁.heap.get? a=some {cls:=.type "list",data:=.seq vs.toArray}) (hi:IntsAre vs ns) (S:ns.length<=sizeLine) (hr:dh k callerA)
  (F:∀base:Heap,K.In base->base.Ns mainGlobals mg->gr P w K mg base k M R [x] sp) (B:∀(s:Shared) (u:Value),BindsTo s R ⟨[u],[]⟩ [(x,u)])
  (O:∀H:Hp,JF H->bf K H a (ns.map V.int)->sp [.ref a] H (λv _=>v=.bl true) λ_ _ _=>False):
  codeAny (model P w) callerA (.call (.ref M) ⟨[.ref a],[]⟩) (λr s'=>r=.ok (.ret (.bool true))/\OldK s₁.heap s'.heap/\s'.os=s₁.os/\AllBare s'.gens) s₁:=by
 have W:=yM hi
 have p:=hi.length
 have g:∀H:Hp,JF H->bf K H a (ns.map V.int)->iy P w H s₁.heap->(∀b,H b≠none->b=a)->(H a≠none->K.lookup a=none)->
   codeAny (model P w) callerA (.call (.ref M) ⟨[.ref a],[]⟩) (λr s'=>r=.ok (.ret (.bool true))/\OldK s₁.heap s'.heap/\s'.os=s₁.os/\AllBare s'.gens) s₁:=by
  intro H Y hS D T hK
  have c:∀{b:Addr} {o:Obj},s₁.heap.get? b=some o->H b=none->(rE s₁.heap H).get? b=some o:=λe n=>DV e n
  have y:∀{b:Addr} {o:Obj} {es:Array DictEntry} {ep:Nat},s₁.heap.get? b=some o->o.data=.dict es ep->H b=none:=fun{b o es ep} e d=>by
   cases q:H b with
   |none=>rfl
   |some u=>
    have J:b=a:=T b (by rw[q];simp)
    subst J
    rw[I] at e;cases e
    have d':Data.seq vs.toArray _=Data.dict es ep:=d
    cases d'
  have f:∀{b:Addr} {m:Str->Option Value},s₁.heap.Ns b m->(rE s₁.heap H).Ns b m:=fun{b m} ⟨o,es,ep,e,d,r⟩=>⟨o,es,ep,c e (y e d),d,r⟩
  have i:K.In (rE s₁.heap H):=λb o e=>c (X b o e) (by
   cases q:H b with
   |none=>rfl
   |some u=>
    have J:b=a:=T b (by rw[q];simp)
    subst J
    rw[hK (by rw[q];simp)] at e;cases e)
  have Z:Mod K mg (rE s₁.heap H):=⟨i,f C,⟨N,f A,Q⟩,let ⟨mc,h1,h2⟩:=G;⟨mc,f h1,h2⟩⟩
  have e0:vp P w K mg (rE s₁.heap H) callerA [] s₁ H:=⟨rfl,Z,λb o e=>E8 e,Nat.le_of_eq (zK _ _),trivial,λb A=>absurd (show b∈([]:List Addr) from A) (by simp),D,.of_eq hg⟩
  refine codeAny_mono ((F _ i (f C)).run callerA [] s₁ H ⟨[.ref a],[]⟩ [.ref a] [.ref a] _ _ hr e0 (B s₁ (.ref a)) (.cons rfl .nil) (O H Y hS)) λr s' h=>?_
  cases r with
  |error e=>exact(Mq h).elim
  |ok fl=>
   cases fl with
   |next=>exact False.elim h
   |brk=>exact False.elim h
   |cont=>exact False.elim h
   |ret u=>
    obtain⟨v,H',os,l,un,j,r',q⟩:=h
    have q':v=.bl true:=q
    subst q'
    obtain rfl:u=Value.bool true:=r'
    refine⟨rfl,OldK.of_keep λb o e=>?_,os,l⟩
    cases q:H b with
    |none=>exact un.keep b o e q (by intro z;exact absurd (show b∈([]:List Addr) from z) (by simp)) (by simp)
    |some u=>
     rcases Y b with z|⟨ob,xs,z⟩
     ·rw[q] at z;cases z
     ·have z2:=un.frzs b ob _ z
      obtain⟨U,_⟩:=D b _ z
      obtain⟨e2,_⟩:=j b _ z2
      rw[e] at U;cases U
      exact e2
 cases hk:K.lookup a with
 |some o=>
  have e:=X a o hk
  rw[I] at e
  cases e
  refine g (λ_=>none) (λ_=> .inl rfl) (.inr ⟨_,vs.toArray,_,hk,rfl,rfl,rfl,by rw[Og,p];exact S,by simpa using W⟩) (λb u z=>by have E:(none:Option HO)=some u:=z;cases E) (λb z=>absurd rfl z) λz=>absurd rfl z
 |none=>
  refine g (λb=>if b=a then some (.frz {cls:=.type "list",data:=.seq vs.toArray} (.lst (ns.map V.int))) else none) (λb=>?_) (.inl (.inr ⟨{cls:=.type "list",data:=.seq vs.toArray},if_pos rfl⟩)) (λb u z=>?_) (λb z=>?_) λ_=>hk
  ·by_cases A:b=a
   ·exact .inr ⟨_,_,if_pos A⟩
   ·exact .inl (if_neg A)
  ·by_cases A:b=a
   ·have E:=(if_pos A).symm.trans z
    cases E
    subst A
    exact⟨I,by rw[NG];exact S,vs,_,W,I⟩
   ·have E:=(if_neg A).symm.trans z
    cases E
  ·by_cases A:b=a
   ·exact A
   ·exact absurd (if_neg A) z
theorem walk_of {l:PySem.W.OpenLaw}{E:(Str->Option Value)->Heap->Prop}{A:World->Heap->Prop}{d:DefRec}{K:Params->NJ}{sp:World->Sp}
  (M:l.most=some n) (r:n<=sizeLine) (m:d.params.defaults=[]) (O:dh k callerA)
  (J:∀(w:World) (h:Heap),A w h->(K w.params).In h)
  (F:∀(w:World) (mg:Str->Option Value) (j:Addr) (h:Heap),(K w.params).In h->h.Ns mainGlobals mg->mg d.name=some (.ref j)->
   ∃fd:FuncData,(∀(s:Shared) (u:Value),BindsTo s fd ⟨[u],[]⟩ [(x,u)])/\
    ∀base:Heap,(K w.params).In base->base.Ns mainGlobals mg->gr l.prog w (K w.params) mg base k j fd [x] (sp w))
  (y:∀(w:World) (H:Hp) (a:Addr) (ns:List Int),ns.length<=n->JF H->bf (K w.params) H a (ns.map V.int)->sp w [.ref a] H (λv _=>v=.bl true) λ_ _ _=>False):
  PySem.W.WalkO q loose E A l.row.toRowW d [] (λf vs=>PySem.call f vs):=by
 refine Att.attach_call M m λw s₀ z mg Z j o X cd D a vs ns G Y S U R p i e c P=>?_
 have B:=J w _ Y
 obtain⟨fd,I,C⟩:=F w mg j _ B G.T.g p
 exact DU B G.T.g G.T.b G.T.builtins G.T.nolimit P i e (NP c r) O C I (λH Q N=>y w H a ns c Q N)
noncomputable def fU (s:Stmt) (j:Nat):Stmt:=match s with
 | .ClassDef _ _ _ body _ _ _ _ _ _ _=>body.getD j (.Pass ⟨0,0,0,0⟩)
 |_=> .Pass ⟨0,0,0,0⟩
noncomputable def cE (s:Stmt):Arguments:=match s with
 | .FunctionDef _ a _ _ _ _ _ _ _ _=>a
 |_=>{posonlyargs:=[],args:=[],vararg:=none,kwonlyargs:=[],kw_defaults:=[],kwarg:=none,defaults:=[]}
noncomputable def bW (s:Stmt):List Stmt:=match s with
 | .FunctionDef _ _ b _ _ _ _ _ _ _=>b
 |_=>[]
noncomputable def aS (s:Stmt):Scope:=match s with
 | .FunctionDef _ _ _ _ _ _ sc _ _ _=>sc
 |_=>{kind:=.function,names:=[],isGenerator:=false,isCoroutine:=false}
structure Bz (K:NJ) (x qual:Str) (st:Stmt) (f:Addr) (fd:FuncData):Prop where
 ex:∃(oc:Value) (od:Option Addr) (kV doc pm:Value) (an:Option Addr) (cdv ct:Value) (osl:Array (Option Value)),
  fd=Oj x qual (cE st) (bW st) (aS st) .none kV doc pm an cdv ct/\K.lookup f=some ⟨oc,od,.func fd,osl⟩/\OE K cdv qual=true
 kp:Oo K (.ref f)=true
section
variable {P:Program}
theorem Bz.ok {x d:Str}{st:Stmt}{f:Addr}{i:FuncData}{N ps:List Str}{k:Nat}{sp:Sp}(F:Bz K x d st f i)(S:eP N ps (aS st))(len:∀vs H Q E,sp vs H Q E->vs.length=ps.length)
  (g:∀(e:Value) (A:Around) (outer:List Env) (s:Shared) (H:Hp) (vs:List V) (Q:VK) (E:XK),dh k (A.deeper (envOfC d (aS st) s.heap.objs.size f e))->sp vs H Q E->
   ∃t,uj (g0 P w K mg base N d (aS st) f e A outer s H E) (bW st) t/\t {nx:=λ_ H'=>Q .non H',rt:=Q} (jt N vs) H):gr P w K mg base (k+1) f i ps sp:=by
 obtain⟨o,q,kV,c,n,p,e,m,b,rfl,l,a⟩:=F.ex
 exact GQ l a S len λA outer s H vs Q E j h=>g e A outer s H vs Q E j h
theorem Bz.binds{st:Stmt}(F:Bz K x qual st f fd)
  (h:∀(kV c i:Value) (j:Option Addr) (d e:Value) (g:List Value),g.length=ps.length->bindArgs (Oj x qual (cE st) (bW st) (aS st) .none kV c i j d e) ⟨g,[]⟩=pure (ps.zip g)):fg K fd ps:=by
 obtain⟨m,n,kV,c,i,j,d,e,a,rfl,l,b⟩:=F.ex
 exact .all (h kV c i j d e)
theorem kW{st:Stmt}{a:Array (Option Value)}{kV:Value}(l:K.lookup f=some ⟨oc,od,.func (Oj x qual (cE st) (bW st) (aS st) .none kV doc pm an cdv ct),a⟩)
  (c:OE K cdv qual=true) (k:Oo K (.ref f)=true):Bz K x qual st f (Oj x qual (cE st) (bW st) (aS st) .none kV doc pm an cdv ct):=⟨⟨oc,od,kV,doc,pm,an,cdv,ct,a,rfl,l,c⟩,k⟩
end
theorem f7(h:n<=1000):n<sizeLine:=Qo h (by decide)
theorem iC {A B:Prop}(h:B):if false=true then A else B:=by
 exact h
theorem gZ {A B:Prop}(h:A):if true=true then A else B:=by
 exact h
def au (H H':Hp):Prop:=∀b o,H b=some o->H' b=some o
theorem au.refl (H:Hp):au H H:=λ_ _ h=>h
theorem au.trans(a:au H H1)(b:au H1 H2):au H H2:=λc o h=>b c o (a c o h)
theorem au.free(e:au H H'){l:Addr}(h:H' l=Option.none):H l=Option.none:=by
 cases q:H l with
 |none=>rfl
 |some o=>
  rw[e l o q] at h
  cases h
theorem au.seq {H':Hp}{a:Addr}{xs:List V}(e:au H H')(h:bf K H a xs):bf K H' a xs:=by
 rcases h with (h|⟨o,h⟩)|h
 ·exact .inl (.inl (e _ _ h))
 ·exact .inl (.inr ⟨o,e _ _ h⟩)
 ·exact .inr h
def BU (_ j:Int):Prop:=0<j/\j<2^200
theorem MC(h:BU i j):Builtin.divisionGoesByPylong i j=false:=by
 refine PyProof.noPylong_of_log2 ?_
 obtain⟨h1,h2⟩:=h
 have b:j.natAbs≠0:=by omega
 have a:j.natAbs<2^200:=by omega
 have:=(Nat.log2_lt b).mpr a
 omega
theorem cH:ji X (binaryOp .FloorDiv) (rI BU λi j=> .int (i/j)):=MS λi j _ _ _ _ _ a q=>by
 have h1:(0:Int)<j:=a.1
 exact floordiv_int (by lia) (by rw[Int.fdiv_eq_ediv_of_nonneg i (by lia)];exact q) (.inl (MC a))
inductive Ge:V->Value->Prop where
 |ty (n:String):Ge (.ty n) (.type n)
 |ref (C:Addr):Ge (.ref C) (.ref C)
theorem lN:c_ X (.builtin "isinstance") (λxs H Q=>∃x y c t b,xs=[x,y]/\Ge y c/\kU X.K H x t/\OD X.K t c=some b/\Q (.bl b) H):=by
 intro pins s σ H xs i Q I r h
 obtain⟨x,y,c,t,b,rfl,g,ty,e,q⟩:=h
 obtain⟨u,f,rfl,a,d⟩:=kl r
 cases g with
 |ty n=>
  cases(show f=Value.type n from d)
  exact pD I a ty e λtk=>⟨.bl b,H,I.tok _,rfl,q⟩
 |ref C=>
  cases(show f=Value.ref C from d)
  exact pD I a ty e λtk=>⟨.bl b,H,I.tok _,rfl,q⟩
theorem sq{it:Value}(I:Nat->Shared->Prop)(E:Value->Shared->Prop)
  (p:∀e s',E e s'->notedBy (model prog w) A env (λe s'=>R (.error e) s') e s')
  (q:∀n s,I n s->wpAny (model prog w) A (pyNext it) (λr b=>match r with
   |none=>R (.ok .next) b
   |some v=>wpAny (model prog w) A (letOwnedTupleGo target it v) (λ_ d=>wpAny (model prog w) A (assign target env v) (λ_ j=>
     wpAny (model prog w) A (forIn ifs true λc r=>if r=true then do let ok<-isTrue c env (eval c env);pure (ForInStep.yield ok) else pure (ForInStep.yield r)) (λok a=>
      if ok=true then wpAny (model prog w) A (eval elt env) (λx l=>
       wpAny (model prog w) A (call (.builtin "list.append") [acc,x]) (λ_ f=>∃m,m<n/\I m f) E l) E a
      else∃m,m<n/\I m a) E j) E d) E b) E s)
  (n:Nat) (h:I n s):codeAny (model prog w) A (.compLoop (.ListComp elt [⟨target,iter,ifs,0⟩] scope pos) 0 it acc env) R s:=by
 refine codeAny_loop rfl I (λn s B=>?_) n h
 refine wpAny_noted ?_
 refine ND (PV (ND (On (q n s B) (λr b g=>?_) p)))
 cases r with
 |none=>exact NH g
 |some v=>
  refine ND (On g (λ_ d o=>?_) p)
  refine ND (On o (λ_ j u=>ND (On u (λok a i=>?_) p)) p)
  cases ok with
  |false=>exact NH ⟨rfl,i⟩
  |true=>
   exact ND (ND (On i (λx l z=>ND (On z (λ_ f y=>NH (NH ⟨rfl,y⟩)) p)) p))
theorem iF:∀(f:List (Str×NameKind)) (b:List (Str×Addr)),(∀y∈f,y.2=.free->∃c,env.cells.lookup y.1=some c)->(∀x c,b.lookup x=some c->env.cells.lookup x=some c)->
  ∃cl,(forIn f b (λ(x:Str×NameKind) (r:List (Str×Addr))=>(if (x.2==NameKind.free)=true then (do let a<-cellOf env x.1;pure (ForInStep.yield ((x.1,a)::r))) else pure (ForInStep.yield r):Sem (ForInStep (List (Str×Addr))))))=(pure cl:Sem (List (Str×Addr)))/\
   (∀x c,cl.lookup x=some c->env.cells.lookup x=some c)/\(∀x c,b.lookup x=some c->∃p,cl.lookup x=some p)/\∀y∈f,y.2=.free->∃c,cl.lookup y.1=some c
 |[],b,_,ha=>⟨b,rfl,ha,λx c e=>⟨c,e⟩,λ_ h=>nomatch h⟩
 |(n,k)::r,b,hf,ha=>by
  have l:∀y∈r,y.2=.free->∃c,env.cells.lookup y.1=some c:=λy hy=>hf y (NV _ hy)
  by_cases hk:k=.free
  ·subst hk
   obtain⟨c,s⟩:=hf (n,.free) N7 rfl
   have j:env.cells.lookup n=some c:=s
   have m:∀x d,((n,c)::b).lookup x=some d->env.cells.lookup x=some d:=λx d e=>by
    rw[OF] at e
    cases hx:x==n with
    |true=>rw[hx] at e;cases e;rw[beq_iff_eq.mp hx];exact j
    |false=>rw[hx] at e;exact ha x d e
   obtain⟨cl,e,h1,h2,o⟩:=iF r ((n,c)::b) l m
   have g:((n,c)::b).lookup n=some c:=by rw[OF,beq_self_eq_true]
   refine⟨cl,?_,h1,λx d ex=>?_,λy hy i=>?_⟩
   ·rw[List.forIn_cons]
    have q:cellOf env n=pure c:=by unfold cellOf;rw[j]
    show((if (NameKind.free==NameKind.free)=true then (do let a<-cellOf env n;pure (ForInStep.yield ((n,a)::b))) else pure (ForInStep.yield b):Sem _)>>=_)=_
    rw[if_pos (by decide),q]
    exact e
   ·cases hx:x==n with
    |true=>rw[beq_iff_eq.mp hx];exact h2 n c g
    |false=>exact h2 x d (by rw[OF,hx];exact ex)
   ·rcases NK.mp hy with rfl|hy
    ·exact h2 n c g
    ·exact o y hy i
  ·obtain⟨cl,e,h1,h2,o⟩:=iF r b l ha
   refine⟨cl,?_,h1,h2,λy hy i=>?_⟩
   ·rw[List.forIn_cons]
    rw[if_neg (by simpa using hk)]
    exact e
   ·rcases NK.mp hy with rfl|hy
    ·exact absurd i hk
    ·exact o y hy i
theorem m4(h:∀y∈scope.names,y.2=.free->∃c,env.cells.lookup y.1=some c):
  ∃cl,closureFor scope env=pure cl/\(∀x c,cl.lookup x=some c->env.cells.lookup x=some c)/\∀y∈scope.names,y.2=.free->∃c,cl.lookup y.1=some c:=by
 obtain⟨cl,e,h1,_,b⟩:=iF (env:=env) scope.names [] h (λx c e=>nomatch e)
 refine⟨cl,?_,h1,b⟩
 have d:closureFor scope env=((forIn scope.names [] (λ(x:Str×NameKind) (r:List (Str×Addr))=>(if (x.2==NameKind.free)=true then (do let a<-cellOf env x.1;pure (ForInStep.yield ((x.1,a)::r))) else pure (ForInStep.yield r):Sem (ForInStep (List (Str×Addr))))))>>=λr=>pure r):=rfl
 rw[d,e]
 rfl
theorem kq {env:Env}(hf:env.scope.kind=.function):∀{a:List (Str×NameKind)} {x:Str},a.lookup x=some .free->env.kindOf x=some .cell->
  (a.map λ(n,k)=>if (k==NameKind.free&&env.scope.kind==.function&&env.kindOf n==some .cell) then (n,NameKind.cell) else (n,k)).lookup x=some .cell
 |[],_,h,_=>by simp at h
 |(n,k)::r,x,h,hc=>by
  have b:= @kq env hf r x
  show OM x ((if (k==NameKind.free&&env.scope.kind==.function&&env.kindOf n==some .cell)=true then (n,NameKind.cell) else (n,k))::_)=_
  cases hx:x==n with
  |true=>
   simp only[OF,hx] at h
   cases h
   have e:x=n:=beq_iff_eq.mp hx
   subst e
   rw[if_pos (by rw[hf,hc];decide)]
   simp only[OF,hx]
  |false=>
   simp only[OF,hx] at h
   by_cases hq:(k==NameKind.free&&env.scope.kind==.function&&env.kindOf n==some .cell)=true
   ·rw[if_pos hq];simp only[OF,hx];exact b h hc
   ·rw[if_neg hq];simp only[OF,hx];exact b h hc
theorem km {env:Env}:∀{a:List (Str×NameKind)} {x:Str} {k:NameKind},
  (a.map λ(n,k)=>if (k==NameKind.free&&env.scope.kind==.function&&env.kindOf n==some .cell) then (n,NameKind.cell) else (n,k)).lookup x=some k->∃k0,a.lookup x=some k0/\(k=k0\/k0=.free)
 |[],_,_,h=>by simp at h
 |(n,k1)::r,x,k,h=>by
  have h:OM x ((if (k1==NameKind.free&&env.scope.kind==.function&&env.kindOf n==some .cell)=true then (n,NameKind.cell) else (n,k1))::(r.map λ(n,k)=>if (k==NameKind.free&&env.scope.kind==.function&&env.kindOf n==some .cell) then (n,NameKind.cell) else (n,k)))=some k:=h
  cases hx:x==n with
  |true=>
   by_cases hq:(k1==NameKind.free&&env.scope.kind==.function&&env.kindOf n==some .cell)=true
   ·have:k1=.free:=by
     rw[N8,N8] at hq
     simpa using hq.1.1
    exact⟨k1,by simp only[OF,hx],.inr this⟩
   ·rw[if_neg hq] at h
    simp only[OF,hx] at h
    exact⟨k1,by simp only[OF,hx],.inl (Option.some.inj h).symm⟩
  |false=>
   have h':(r.map λ(n,k)=>if (k==NameKind.free&&env.scope.kind==.function&&env.kindOf n==some .cell) then (n,NameKind.cell) else (n,k)).lookup x=some k:=by
    by_cases hq:(k1==NameKind.free&&env.scope.kind==.function&&env.kindOf n==some .cell)=true
    ·rw[if_pos hq] at h;simp only[OF,hx] at h;exact h
    ·rw[if_neg hq] at h;simp only[OF,hx] at h;exact h
   obtain⟨k0,e,z⟩:=km h'
   exact⟨k0,by simp only[OF,hx];exact e,z⟩
noncomputable def cj (xe:Value->Shared->Prop) (X:Cx) (N:List Str) (scope:Scope) (cl:List (Str×Addr)) (C:Addr) (s:Shared) (H:Hp) (fp:List Addr):Cx:=
 {X with N:=N,s₀:=s,H₀:=H,env:=compEnvC scope cl C X.env,outer:=X.stack,ex:=fp,fn:=λ_=>false,pn:=[],xe:=xe}
structure fA (X:Cx) (scope:Scope) (ls ys:List Str) (ix:List Nat):Prop where
 kind:scope.kind=.function
 nocellB:(scope.names.all λy=>y.2 !=.cell)=true
 locB:(scope.names.all λy=>y.2 !=.local||scope.names.lookup y.1==some .local)=true
 freeB:(scope.names.all λy=>y.2 !=.free||X.env.kindOf y.1==some .cell)=true
 ylkB:(ys.all λy=>scope.names.lookup y==some .free)=true
 yix:ix.map (λj=>X.N[j]?)=ys.map some
section
variable {scope:Scope} {ls ys:List Str} {ix:List Nat}
theorem fA.nocell (ok:fA X scope ls ys ix):∀y∈scope.names,y.2≠.cell:=λy a=>by
 simpa using Oa.mp ok.nocellB y a
theorem fA.loc (ok:fA X scope ls ys ix):∀y∈scope.names,y.2=.local->scope.names.lookup y.1=some .local:=λy a e=>by
 have h:=Oa.mp ok.locB y a
 rw[e] at h
 simpa using h
theorem fA.free (ok:fA X scope ls ys ix):∀y∈scope.names,y.2=.free->X.env.kindOf y.1=some .cell:=λy a e=>by
 have h:=Oa.mp ok.freeB y a
 rw[e] at h
 simpa using h
theorem fA.ylk (ok:fA X scope ls ys ix):∀y∈ys,scope.names.lookup y=some .free:=λy a=>by
 simpa using Oa.mp ok.ylkB y a
end
noncomputable def oJ (n:Nat) (ix:List Nat) (σ:St):St:=List.replicate n none++ix.map λj=>(σ[j]?).join
section
variable {scope:Scope} {ls ys:List Str} {ix:List Nat} {cl:List (Str×Addr)} {fp:List Addr}
theorem FT{tk:Nat}(I:aM X pins σ H s)(ok:fA X scope ls ys ix)(A:∀x c,cl.lookup x=some c->X.env.cells.lookup x=some c)
  (B:∀y∈scope.names,y.2=.free->∃c,cl.lookup y.1=some c) (F:∀b∈fp,jT X pins H b) (O:∀b∈fp,b<s.heap.objs.size)
  (G:h₁.Ns s.heap.objs.size m) (D:∀b o,s.heap.get? b=some o->h₁.get? b=some o):
  aM (cj xe X (ls++ys) scope cl s.heap.objs.size s H fp) [] (oJ ls.length ix σ) H {s with heap:=h₁,toks:=tk}:=by
 have a:∀x,scope.names.lookup x=some .free->X.env.kindOf x=some .cell:=λx e=>ok.free (x,.free) (PySem.mem_of_lookup e) rfl
 refine⟨⟨I.ok.mod,ok.kind,I.ok.glob,I.ok.blt,NI _,λx y c h1 h2=>I.ok.inj x y c (A x c h1) (A y c h2),λx hx=>?_,λx c hx _=>absurd hx NY,I.ok.hd,I.ok.frames,.inl rfl,
  λb C=>⟨NS (O b C),λx c e=>(F b C).2.2.2.2.1 x c (A x c e)⟩,I.bs,NP I.ok.bsz I.sz,λb o e C=>?_,λb C z=>?_,I.stack,I.stkFree⟩,
  rfl,I.bare,Un.kept D,⟨m,G,λi x v h1 h2 Y=>?_⟩,λx c e=>?_,I.fresh,λx c e=>I.freeC x c (A x c e),λp Q=>absurd (show p∈([]:List (Addr×Obj)) from Q) (by simp),I.hok.kept D,?_⟩
 ·have e:∃k,(relabel scope X.env).names.lookup x=some k/\(k=.cell\/k=.free):=by
   rcases hx with hx|hx
   ·exact⟨_,hx,.inl rfl⟩
   ·exact⟨_,hx,.inr rfl⟩
  obtain⟨k,e,h⟩:=e
  obtain⟨k0,S,z⟩:=km e
  have P:=PySem.mem_of_lookup S
  have g:k0=.free:=by
   rcases z with z|z
   ·rcases h with q|q
    ·exact absurd (z.symm.trans q) (ok.nocell _ P)
    ·exact z.symm.trans q
   ·exact z
  exact B _ P g
 ·obtain⟨Z,U,q3,q4,_⟩:=F b C
  rcases q4 with q4|q4
  ·exact I.ok.noex b o e q4
  ·exact absurd (Oc (NO e) (NP I.ok.bsz q4)) (OP _)
 ·rcases NK.mp (I.stkSub b z) with q|q
  ·exact(F b C).2.1 q
  ·exact(F b C).2.2.1 q
 ·have h1:(ls++ys)[i]?=some x:=h1
  have h2:(List.replicate ls.length none++ix.map λj=>(σ[j]?).join)[i]?=some (some v):=h2
  by_cases hi:i<ls.length
  ·rw[Pk (by rw[Pm];exact hi),List.getElem?_replicate,if_pos hi] at h2
   cases h2
  ·rw[OU (by rw[Pm];lia),Pm,Od] at h2
   rw[OU (by lia)] at h1
   cases e:ix[i - ls.length]? with
   |none=>rw[e] at h2;cases h2
   |some j=>
    rw[e] at h2
    have h2:(σ[j]?).join=some v:=Option.some.inj h2
    have J:σ[j]?=some (some v):=by
     cases q:σ[j]? with
     |none=>rw[q] at h2;cases h2
     |some z=>rw[q] at h2;exact congrArg some h2
    have R:X.N[j]?=some x:=by
     have q:=congrArg (λl=>l[i - ls.length]?) ok.yix
     simp only[Od,e,h1,PU] at q
     exact Option.some.inj q
    have K:=ok.ylk x (Oi h1)
    have M:=a x K
    obtain⟨W,w,n⟩:=I.loc
    obtain⟨u,r,E⟩:=n j x v R J (.inr (.inl M))
    refine⟨u,r,?_⟩
    rcases E with ⟨E,_⟩|⟨_,c,T,z⟩
    ·rw[M] at E;cases E
    ·obtain⟨c',f⟩:=B _ (PySem.mem_of_lookup K) rfl
     have d:X.env.cells.lookup x=some c':=A x c' f
     rw[T] at d
     cases d
     exact .inr ⟨.inl (kq I.ok.kind K M),c,f,z.keeps D⟩
 ·obtain⟨v,z⟩:=I.cell x c (A x c e)
  exact⟨v,z.keeps D⟩
 ·show(List.replicate ls.length none++ix.map λj=>(σ[j]?).join).length=(ls++ys).length
  have q:=congrArg List.length ok.yix
  rw[NG,NG] at q
  rw[NM,NM,Pm,NG,q]
end
def PF (X:Cx) (a:List Expr) (t:TT):Prop:=
 ∀(pins:List (Addr×Obj)) (s:Shared) (σ:St) (H:Hp) (Q:Bool->Hp->Prop),aM X pins σ H s->t σ H Q->
  wpAny (model X.prog X.w) X.A (forIn a true λc r=>if r=true then do let ok<-isTrue c X.env (eval c X.env);pure (ForInStep.yield ok) else pure (ForInStep.yield r)) (TP X pins σ Q) X.xe s
def t_:TT:=λ_ H Q=>Q true H
theorem cM:PF X [] t_:=λ_ _ _ H _ I h=>wpAny_tests_nil ⟨H,I,h⟩
theorem nr(h:PT X c t):PF X [c] t:=λpins s σ H Q I a=>wpAny_tests_one (h pins s σ H Q I a)
def Aj (e:St) (g:TG) (j:TT) (n:TE) (J:It) (l:Hp) (D:Addr) (Q:Hp->Prop):Prop:=
 ∃W:Nat->Nat->St->Hp->Prop,(∃m,W 0 m e (upd l D (.lst [])))/\∀i m h H,W i m h H->
  (J.stop i H/\Q H)\/(J.go i H/\∃N:St->Hp->Prop,(∀d H',N d H'->∃f,f<m/\W (i+1) f d H')/\∀x H',J.yld i H x H'->g x h H' λa H2=>j a H2 λb H3=>
   if b=true then n a H3 λv H4=>∃c,H4 D=some (.lst c)/\c.length<sizeLine/\N a (upd H4 D (.lst (c++[v]))) else N a H3)
def Jn (b:TI) (n:Nat) (ix:List Nat) (g:TG) (a:TT) (c:TE):TE:=λσ H Q=>b σ H λJ H1=>∀D,H1 D=none->Aj (oJ n ix σ) g a c J H1 D λH'=>Q (.ref D) H'
def rC (b:TI) (n:Nat) (ix:List Nat) (g:TG) (a:TT) (c:TE) (i:Nat):TS:=λD σ H=>Jn b n ix g a c σ H λx H1=>D.nx (σ.set i (some x)) H1
section
variable {scope:Scope} {ls ys:List Str} {ix:List Nat} {tg iter elt:Expr} {ifs:List Expr} {pos:Pos} {wi:TI} {g:TG} {tt:TT} {te:TE}
theorem rW{it:Addr}{tn:Nat->Heap->Prop}{cl:List (Str×Addr)}{Q:Addr->Hp->Prop}{R:Value->Addr->Result->Shared->Prop}(a0:X.ex=[]\/∀C dd H,¬EG Ex C dd H)(hc:X.calm=true)
  (ok:fA X scope ls ys ix) (I:aM X pins σ H1 s) (T:nO X.prog X.w X.K tg J fp it tn) (st:tn 0 s.heap) (f2:∀b∈fp,jT X pins H1 b)
  (a3:∀x c,cl.lookup x=some c->X.env.cells.lookup x=some c) (bd:∀y∈scope.names,y.2=.free->∃c,cl.lookup y.1=some c)
  (hg:∀cl C s H fp xe,PG (cj xe X (ls++ys) scope cl C s H fp) tg g) (ht:∀cl C s H fp xe,PF (cj xe X (ls++ys) scope cl C s H fp) ifs tt) (he:∀cl C s H fp xe,gT X.prog X.w (cj xe X (ls++ys) scope cl C s H fp) (λ_=>Ex)->PE (cj xe X (ls++ys) scope cl C s H fp) elt te)
  (hJ:∀D,H1 D=none->Aj (oJ ls.length ix σ) g tt te J H1 D (Q D))
  (hR:∀D C H' s',Q D H'->aM X pins σ H' s'->H' C=none->jT X pins H' C->(∃m,s'.heap.Ns C m)->R (.ref D) C (.ok .next) s')
  (hX:∀D C H' s' a T Cv dd,EG Ex Cv dd H'->aM X pins σ H' s'->H' C=none->jT X pins H' C->(∃m,s'.heap.Ns C m)->Nt X pins H' a->Nt X pins H' T->um s'.heap a T Cv dd .none->
   wpAny (model X.prog X.w) X.A (noteFrame (.ref a) X.env) (λ_ a5=>R (.ref D) C (.error (.ref a)) a5) (λe a5=>R (.ref D) C (.error e) a5) s'):
  wpAny (model X.prog X.w) X.A (newList []) (λa1 a7=>wpAny (model X.prog X.w) X.A (newFunctionEnv scope X.env.globals cl [] X.env.qual none .none (some X.env)) (λa2 bb=>
   codeAny (model X.prog X.w) X.A (.compStart (.ListComp elt [⟨tg,iter,ifs,0⟩] scope pos) 0 (.ref it) a1 {a2 with scope:=relabel scope X.env}) (R a1 a2.locals) bb) E a7) E s:=by
 have A:∀b∈fp,b<s.heap.objs.size:=λb hb=>by
  obtain⟨o,e,_⟩:=T.obj _ _ st b hb
  exact NO e
 have I3:=I.lnew (ys:=[]) (its:=[]) (t':=s.toks) .nil (N9 _)
 have hD:H1 s.heap.objs.size=none:=I.fresh
 obtain⟨W,⟨m0,w0⟩,Y⟩:=hJ s.heap.objs.size hD
 refine Ph (wpAny_newFunctionEnv ok.nocell (by intro y hy;simp at hy) (λh₁ w B=>?_) ok.kind)
 generalize bl:({s with heap:=s.heap.push {cls:=.type "list",data:=.seq ([]:List Value).toArray},toks:=s.toks}:Shared)=s3 at I3
 have e3:s.heap.push {cls:=.type "list",dict:=none,data:=.seq ([]:List Value).toArray}=s3.heap:=by rw[<-bl]
 generalize bn:upd H1 s.heap.objs.size (.lst [])=H3 at I3 w0
 have G:s3.heap.objs.size=s.heap.objs.size+1:=by rw[<-e3,OH]
 have S:∀b o,s.heap.get? b=some o->s3.heap.get? b=some o:=λb o e=>by rw[<-e3];exact NN _ e
 have f3:∀b∈fp,jT X pins H3 b:=λb hb=>by
  refine⟨?_,(f2 b hb).2⟩
  rw[<-bn,ay (NS (A b hb))]
  exact(f2 b hb).1
 have w:h₁.Ns s3.heap.objs.size (λx=>([]:List (Str×Value)).reverse.lookup x):=by rw[<-e3];exact w
 have B:Heap.SameBut s3.heap.objs.size (s3.heap.push {cls:=.type (if (some X.env).isSome then "dict" else "frame"),data:=.dict #[]}) h₁:=by rw[<-e3];exact B
 have j:∀b o,s3.heap.get? b=some o->h₁.get? b=some o:=λb o e=>B.extBut b o (NS (NO e)) (NN _ e)
 generalize ba:(λ(e:Value) (s':Shared)=>notedBy (model X.prog X.w) X.A (compEnvC scope cl s3.heap.objs.size X.env) (λe s'=>R (.ref s.heap.objs.size) s3.heap.objs.size (.error e) s') e s')=xe
 have Ic:=FT (xe:=xe) (tk:=s3.toks) I3 ok a3 bd f3 (λb hb=>by rw[G];exact Qp (A b hb)) w j
 have F:∀{an:List (Addr×Obj)} {τ:St} {H':Hp} {s':Shared},aM (cj xe X (ls++ys) scope cl s3.heap.objs.size s3 H3 fp) an τ H' s'->aM X pins σ H' s':=fun{an τ H' s'} I5=>
  I3.call' (ch:=fp) I5.os I5.base I5.hok I5.bare λb hb=>⟨(f3 b hb).2.2.2.1,(f3 b hb).2.1,(f3 b hb).2.2.2.2.1,(f3 b hb).2.2.2.2.2⟩
 have ac:gT X.prog X.w (cj xe X (ls++ys) scope cl s3.heap.objs.size s3 H3 fp) (λ_=>Ex):=by
  intro an τ Hh1 s1 e s2 I1 hx
  obtain⟨a,T,dd,Cv,Hh2,rfl,os,a8,u,bi,ha,hT,na,nT,fl,q⟩:=hx
  have I2:aM (cj xe X (ls++ys) scope cl s3.heap.objs.size s3 H3 fp) an τ Hh2 s2:=I1.call' (ch:=[]) os u bi a8 λb z=>nomatch z
  have a0:=a0.resolve_right λhn=>hn _ _ _ q
  have O1:=F I1
  have O2:=F I2
  obtain⟨m2,n2,_⟩:=I2.loc
  have O:Hh2 s3.heap.objs.size=none:=I2.free
  have z:=hX s.heap.objs.size s3.heap.objs.size Hh2 s2 a T Cv dd q O2 O (I3.fpOk (NI _) O) ⟨m2,n2⟩ (O1.nt a0 na ha) (O1.nt a0 nT hT) fl
  rw[<-ba]
  exact z
 have f:∀{H':Hp} {pl:List (Addr×Obj)},(∀b∈fp,H' b=none)->pl=[]->∀b∈fp,jT (cj xe X (ls++ys) scope cl s3.heap.objs.size s3 H3 fp) pl H' b:=fun{H' pl} hn bv b hb=>by
  subst bv
  refine⟨hn b hb,NS (by rw[show(cj xe X (ls++ys) scope cl s3.heap.objs.size s3 H3 fp).env.locals=s3.heap.objs.size from rfl,G];exact Qp (A b hb)),Ic.ok.exfs b hb,.inl hb,λx c e=>(f3 b hb).2.2.2.2.1 x c (a3 x c e),λp hp=>absurd (show p∈([]:List (Addr×Obj)) from hp) (by simp)⟩
 have l:codeAny (model X.prog X.w) X.A (.compLoop (.ListComp elt [⟨tg,iter,ifs,0⟩] scope pos) 0 (.ref it) (.ref s.heap.objs.size) (compEnvC scope cl s3.heap.objs.size X.env)) (R (.ref s.heap.objs.size) s3.heap.objs.size) {s3 with heap:=h₁,toks:=s3.toks}:=by
  refine sq (λn s'=>∃i τ H',aM (cj xe X (ls++ys) scope cl s3.heap.objs.size s3 H3 fp) [] τ H' s'/\tn i s'.heap/\(∀b∈fp,H' b=none)/\W i n τ H') xe (λe s' z=>by rw[<-ba] at z;exact z) ?_ m0
   ⟨0,oJ ls.length ix σ,H3,Ic,T.keep _ _ _ st (λb _ o e=>j b o (S b o e)),λb hb=>(f3 b hb).1,w0⟩
  rintro n s4 ⟨i,τ,H4,I4,K,M,w4⟩
  rcases Y i n τ H4 w4 with ⟨bc,qn⟩|⟨go,N,hN,step⟩
  ·refine cJ (T.done (cj xe X (ls++ys) scope cl s3.heap.objs.size s3 H3 fp) rfl rfl rfl hc i [] s4 τ H4 xe I4 (f M rfl) K bc) λr s5 ⟨hr,I5⟩=>?_
   subst hr
   have Io:aM X pins σ H4 s5:=I3.call' (ch:=fp) I5.os I5.base I5.hok I5.bare λb hb=>⟨(f3 b hb).2.2.2.1,(f3 b hb).2.1,(f3 b hb).2.2.2.2.1,(f3 b hb).2.2.2.2.2⟩
   obtain⟨m5,n5,_⟩:=I5.loc
   have hC:H4 s3.heap.objs.size=none:=I5.free
   exact hR _ _ H4 s5 qn Io hC (I3.fpOk (NI _) hC) ⟨m5,n5⟩
  ·refine cJ (T.item (cj xe X (ls++ys) scope cl s3.heap.objs.size s3 H3 fp) rfl rfl rfl hc i [] s4 τ H4 xe I4 (f M rfl) K go) λr s5 z9=>?_
   obtain⟨u,hr,h5⟩:=z9
   subst hr
   refine cJ h5 λ_ s6 z9=>?_
   obtain⟨x,H6,I6,r6,y6,h,ad⟩:=z9
   have bD:=I6.pinned (f ad rfl) (T.obj _ _ h)
   have P:∀{am:St} {H7:Hp} {s7:Shared},aM (cj xe X (ls++ys) scope cl s3.heap.objs.size s3 H3 fp) ([]++nK fp s6.heap) am H7 s7->N am H7->∃m,m<n/\∃i τ H',aM (cj xe X (ls++ys) scope cl s3.heap.objs.size s3 H3 fp) [] τ H' s7/\tn i s7.heap/\(∀b∈fp,H' b=none)/\W i m τ H':=fun{am H7 s7} I7 n7=>by
    obtain⟨m',hm,w7⟩:=hN am H7 n7
    refine⟨m',hm,i+1,am,H7,I7.unpinned,T.keep _ _ _ h λb hb o e=>(I7.pin (b,o) (Of _ (Of _ (ie hb e)))).1,λb hb=>?_,w7⟩
    obtain⟨o,e,d⟩:=T.obj _ _ h b hb
    exact(I7.pin (b,o) (Of _ (Of _ (ie hb e)))).2.1
   refine cJ (hg _ _ _ _ _ _ _ s6 τ H6 x u _ bD r6 (step x H6 y6)) λ_ s7 z9=>?_
   obtain⟨am,H7,I7,q7⟩:=z9
   refine cJ (ht _ _ _ _ _ _ _ s7 am H7 _ I7 q7) λb s8 z9=>?_
   obtain⟨H8,I8,q8⟩:=z9
   cases b with
   |false=>
    exact P I8 q8
   |true=>
    refine cJ (he _ _ _ _ _ _ ac _ s8 am H8 _ I8 q8) λy s9 z9=>?_
    obtain⟨v,H9,I9,r9,a1,Z,U,n9⟩:=z9
    exact cJ (aL _ s9 am H9 (.ref s.heap.objs.size) [v] (.ref s.heap.objs.size) [y] (λ_ H'=>N am H') I9 rfl (.cons r9 .nil) ⟨_,a1,v,rfl,rfl,Z,U,n9⟩) λ_ c8 ⟨_,H10,I10,_,bu⟩=>P I10 bu
 exact codeAny_compStart_list l (T.self _ 0 _ _ _ (T.keep _ _ _ st (λb _ o e=>j b o (S b o e))) l)
theorem Kb (F:X.calm=true)(ok:fA X scope ls ys ix)(hi:PI X tg iter wi)
  (M:∀cl C s H fp i,PG (cj i X (ls++ys) scope cl C s H fp) tg g) (u:∀cl C s H fp i,PF (cj i X (ls++ys) scope cl C s H fp) ifs tt) (r:∀cl C s H fp i,PE (cj i X (ls++ys) scope cl C s H fp) elt te)
  (p:∀x,foldedSetIterable iter X.env x=pure x:=by intro _;rfl):PE X (.ListComp elt [⟨tg,iter,ifs,0⟩] scope pos) (Jn wi ls.length ix g tt te):=by
 intro pins s σ H Q I h
 obtain⟨cl,a,d,c⟩:=m4 (scope:=scope) (env:=X.env) λy E G=>I.ok.has y.1 (.inl (ok.free y E G))
 refine wpAny_comprehension_free (use:=none) rfl p a ok.kind ok.loc (cJ (hi pins s σ H _ I h) λv s1 h1=>cJ h1 λS s2 h2=>?_)
 obtain⟨it,fp,U,J,H2,rfl,I2,T,f,N,O⟩:=h2
 refine rW (Ex:=E0) (R:=λn C=>compPost (model X.prog X.w) X.A X.xe none (EP X pins σ Q) n C) (.inr L0) F ok I2 T f N d c M u (λ_ _ _ _ _ _ _=>r _ _ _ _ _ _) O (λD C H' s' q I' z j K=>?_) λ_ _ _ _ _ _ _ _ q=>(L0 _ _ _ q).elim
 obtain⟨m,P⟩:=K
 refine⟨m,P,λh' l=>⟨.ref D,H',?_,rfl,q⟩⟩
 exact I'.turned (t':=s'.toks) (λb o B e=>(l.2 b B).trans e) z j.2.1 j.2.2.2.1 j.2.2.2.2.1 j.2.2.2.2.2
end
def Ev (t:TE) (σ:St) (H:Hp) (v:V):Prop:=∀Q:VK,Q v H->t σ H Q
def iB (t:TT) (σ:St) (H:Hp) (b:Bool):Prop:=∀Q:Bool->Hp->Prop,Q b H->t σ H Q
def lH (t:TA) (σ:St) (H:Hp) (vs:List V):Prop:=∀Q:List V->Hp->Prop,Q vs H->t σ H Q
section
variable {ta tb tc te:TE} {t u:TT} {i j k:Int} {a b c:Bool} {v x y:V}
theorem aq:Ev (tC v) σ H v:=λ_ q=>q
theorem aa(h:σ[n]?=some (some v)):Ev (cV n) σ H v:=λ_ q=>⟨v,h,q⟩
theorem aP {g:Int->Int->V}(a:Ev ta σ H (.int i))(b:Ev tb σ H (.int j)):Ev (gb (Ad g) ta tb) σ H (g i j):=λ_ q=>a _ (b _ ⟨i,j,rfl,rfl,q⟩)
theorem LR (a:Ev ta σ H (.int i))(b:Ev tb σ H (.int j)):Ev (gb (Ad λi j=> .bl (decide (i<j))) ta tb) σ H (.bl (decide (i<j))):=aP (g:=λi j=> .bl (decide (i<j))) a b
theorem Ke (a:Ev ta σ H (.int i))(b:Ev tb σ H (.int j)):Ev (gb (Ad λi j=> .bl (decide (j<i))) ta tb) σ H (.bl (decide (j<i))):=aP (g:=λi j=> .bl (decide (j<i))) a b
theorem bj {C:Int->Int->Prop}{g:Int->Int->V}(b:Ev ta σ H (.int i))(c:Ev tb σ H (.int j))(a:C i j):Ev (gb (rI C g) ta tb) σ H (g i j):=λ_ q=>b _ (c _ ⟨i,j,rfl,rfl,a,q⟩)
theorem bM (b:Ev ta σ H (.int i))(a:Ev tb σ H (.int j)):Ev (gb JX ta tb) σ H (.bl (decide (i=j))):=λQ q=>b _ (a _ ⟨rfl,by
 have e:decide (V.int i=V.int j)=decide (i=j):=by rw[mz];rfl
 rw[e];exact q⟩)
theorem kL (b:Ev ta σ H (.int i))(a:Ev tb σ H (.int j)):Ev (gb KB ta tb) σ H (.bl (!decide (i=j))):=λQ q=>b _ (a _ ⟨rfl,by
 have e:decide (V.int i=V.int j)=decide (i=j):=by rw[mz];rfl
 rw[e];exact q⟩)
theorem I0 (d:Ev ta σ H (.bl a))(c:Ev tb σ H (.bl b)):Ev (gb KB ta tb) σ H (.bl (a !=b)):=λQ q=>d _ (c _ ⟨rfl,by
 have e:(!decide (V.bl a=V.bl b))=(a !=b):=by rw[uG];rfl
 rw[e];exact q⟩)
theorem cW {p q:Int->Int->Bool}(c:Ev ta σ H (.int i))(a:Ev tb σ H (.int j))(b:Ev tc σ H (.int k)):Ev (uQ (Ad λi j=> .bl (p i j)) (Ad λi j=> .bl (q i j)) ta tb tc) σ H (.bl (p i j&&q j k)):=λQ z=>by
 refine c _ (a _ ⟨i,j,rfl,rfl,p i j,rfl,?_⟩)
 cases e:p i j with
 |true=>rw[if_pos rfl];rw[e,Bool.true_and] at z;exact b _ ⟨j,k,rfl,rfl,z⟩
 |false=>rw[if_neg NY];rw[e,Pz] at z;exact z
theorem qO (c:Ev ta σ H (.bl a))(d:a=true->Ev tb σ H (.bl b)):Ev (GI ta tb) σ H (.bl (a&&b)):=λQ z=>by
 refine c _ ⟨a,rfl,?_⟩
 cases a with
 |true=>rw[if_pos rfl];exact d rfl _ z
 |false=>rw[if_neg NY];exact z
theorem Km (c:Ev ta σ H (.bl a))(d:a=false->Ev tb σ H (.bl b)):Ev (LC ta tb) σ H (.bl (a||b)):=λQ z=>by
 refine c _ ⟨a,rfl,?_⟩
 cases a with
 |true=>rw[if_pos rfl];exact z
 |false=>rw[if_neg NY];exact d rfl _ z
theorem bC(b:Ev ta σ H (.ref p))(c:Ev tb σ H (.int i))(d:bY K H p xs)(a:oN xs i=some v):Ev (gb (yD K) ta tb) σ H v:=λ_ q=>b _ (c _ ⟨p,xs,i,v,rfl,rfl,d,a,q⟩)
theorem dG(b:Ev ta σ H (.ref p))(c:Ev tb σ H (.int i))(d:bf K H p xs)(a:oN xs i=some v):Ev (gb (uh K) ta tb) σ H v:=λ_ q=>b _ (c _ ⟨p,xs,i,v,rfl,rfl,d,a,q⟩)
theorem lz (b:Ev ta σ H x)(a:Ev tb σ H .non):Ev (gb (λx y H Q=>y=.non/\Q (.bl (decide (x=.non))) H) ta tb) σ H (.bl (decide (x=.non))):=λ_ z=>b _ (a _ ⟨rfl,z⟩)
theorem jN {sp:Sp}{vs:List V}{t:TA}(a:lH t σ H vs)(b:∀Q:VK,Q v H->sp vs H Q E0):Ev (jo sp t) σ H v:=λQ q=>a _ (b Q q)
theorem dB {r:List V->Hp->VK->Prop}{vs:List V}{t:TA}(a:lH t σ H vs)(b:∀Q:VK,Q v H->r vs H Q):Ev (xS r t) σ H v:=λQ q=>a _ (b Q q)
theorem az:lH dv σ H []:=λ_ q=>q
theorem ag {t:TA}{vs:List V}(b:Ev ta σ H v)(a:lH t σ H vs):lH (b9 ta t) σ H (v::vs):=λ_ q=>b _ (a _ q)
theorem aA (h:Ev te σ H (.bl b)):iB (jr te) σ H b:=λ_ q=>h _ ⟨b,rfl,q⟩
theorem FQ (h:Ev te σ H (.bl b)):iB (tB te) σ H b:=λ_ q=>h _ ⟨b,rfl,q⟩
theorem fj (h:iB t σ H b):iB (Iy t) σ H (!b):=λ_ q=>h _ q
theorem vN (c:iB t σ H a)(d:a=true->iB u σ H b):iB (KC t u) σ H (a&&b):=λQ z=>by
 refine c _ ?_
 cases a with
 |true=>rw[if_pos rfl];exact d rfl _ z
 |false=>rw[if_neg NY];exact z
theorem iO (c:iB t σ H a)(d:a=false->iB u σ H b):iB (Ja t u) σ H (a||b):=λQ z=>by
 refine c _ ?_
 cases a with
 |true=>rw[if_pos rfl];exact z
 |false=>rw[if_neg NY];exact d rfl _ z
theorem gi {a:TT}{t u:TS}{D:ez}(h:iB a σ H b)(h1:b=true->t D σ H)(c:b=false->u D σ H):jP a t u D σ H:=by
 refine h _ ?_
 cases b with
 |true=>rw[if_pos rfl];exact h1 rfl
 |false=>rw[if_neg NY];exact c rfl
theorem kI {a:TT}{t u:TS}{D:ez}(h:iB a σ H b)(c:b=false)(d:u D σ H):jP a t u D σ H:=gi h (λe=>absurd (c.symm.trans e) NY) λ_=>d
theorem IX {a:TT}{t u:TS}{D:ez}(h:iB a σ H b)(c:b=true)(h1:t D σ H):jP a t u D σ H:=gi h (λ_=>h1) λe=>absurd (e.symm.trans c) NY
theorem Ba(h:Ev te σ H v)(q:D.nx (σ.set n (some v)) H):jI te (dr n) D σ H:=h _ q
theorem dF(h:Ev te σ H v)(q:D.rt v H):vU te D σ H:=h _ q
end
theorem o9(h1:0<j)(a:j<2^200):BU i j:=⟨h1,a⟩
theorem Ak(h1:0<=j)(b:j<=1000000)(a:i.natAbs<2^64):Ky i j:=⟨h1,b,a⟩
theorem Ir:bootBuiltins "int" =some (.type "int"):=by decide+kernel
theorem Eu:bootBuiltins "bool" =some (.type "bool"):=by decide+kernel
theorem Hx:bootBuiltins "zip" =some (.type "zip"):=by decide+kernel
theorem st {t:TS}{D:ez}{r:VK}{b c:St->Hp->Prop}(h:t D σ H):({nx:=t D,rt:=r,bk:=b,ct:=c}:ez).nx σ H:=h
section
variable {te:TE} {tc:TT} {t u:TS} {ta:TA} {D:ez} {b:Bool} {v:V} {vs:List V} {n:Nat}
theorem cK (h:Ev te σ H v)(q:u D (σ.set n (some v)) H):e_ (jI te (dr n)) u D σ H:=h _ q
theorem kM (h:iB tc σ H b)(a:b=false)(q:u D σ H):e_ (jP tc t m9) u D σ H:=kI (D:={D with nx:=u D}) h a q
theorem cI (h:iB tc σ H b)(h1:b=true->t {D with nx:=u D} σ H)(a:b=false->u D σ H):e_ (jP tc t m9) u D σ H:=gi (D:={D with nx:=u D}) h h1 a
theorem DT (h:lH ta σ H vs)(a:vs.length<=sizeLine)(q:∀p,H p=none->u D (σ.set n (some (.ref p))) (upd H p (.lst vs))):e_ (jI (mU ta) (dr n)) u D σ H:=h _ ⟨a,q⟩
theorem Cg (h:lH ta σ H vs)(a:vs.length<=sizeLine)(q:∀p,H p=none->u D (σ.set n (some (.ref p))) (upd H p (.tup vs))):e_ (jI (vK ta) (dr n)) u D σ H:=h _ ⟨a,q⟩
theorem rq(h:Ev te σ H (.ref p))(a:bY K H p [x,y,z])(q:u D (((σ.set i (some x)).set j (some y)).set k (some z)) H):
  e_ (jI te (Hr K 3 (wG (dr i) (wG (dr j) (wG (dr k) Li))))) u D σ H:=h _ ⟨p,_,rfl,a,rfl,_,_,rfl,_,_,rfl,_,_,rfl,rfl,q⟩
theorem tM(q:tc σ H λb H1=>if b=true then t D σ H1 else u D σ H1):jP tc t u D σ H:=q
theorem qy (q:tc σ H λb H1=>if b=true then t {D with nx:=u D} σ H1 else u D σ H1):e_ (jP tc t m9) u D σ H:=q
theorem gn(q:Q (σ.set n (some v)) H):dr n v σ H Q:=q
end
theorem bY.same {H':Hp}{a:Addr}{xs:List V}(e:au H H')(h:bY K H a xs):bY K H' a xs:=by
 rcases h with (h|⟨o,h⟩)|h
 ·exact .inl (.inl (e _ _ h))
 ·exact .inl (.inr ⟨o,e _ _ h⟩)
 ·exact .inr h
theorem au.upd(e:au H H'){p:Addr}{o:HO}(a:H' p=none):au H (upd H' p o):=λb u h=>by
 rw[ay (aD (e b u h) a)]
 exact e b u h
noncomputable def yY (lo st:Int) (n:Nat):It:=⟨λi _=>i<n,λi H x H'=>H'=H/\x=.int (lo+i*st),λi _=>n<=i⟩
theorem tU {P:Program}{G:Expr}(it:Addr)(lo st:Int)(n:Nat):nO P w K G (yY lo st n) [it] it (λi h=>IsRangeIter h it (lo+(i:Nat)*st) ((n:Int) - (i:Nat)) st) where
 mem:=by simp
 obj:=λi h st b c=>by
  have e:b=it:=by simpa using c
  subst e
  exact⟨_,st,λv z=>by
   have B:Data.fields _=Data.cell v:=z
   cases B⟩
 keep:=λi h h' st k=>k it (by simp) _ st
 item:=by
  intro X x y u j i pins s σ H E I f a p
  subst x y u
  obtain⟨l,m,D,r,q,g⟩:=f it (by simp)
  have W:=Walks.range (prog:=X.prog) (w:=X.w) (I.ok.hd j) it lo st n
  refine W.item i s _ _ p a λv h' tk J d A=>?_
  obtain⟨t,rfl⟩:=J
  have F:aM X pins σ H {s with heap:=h',toks:=tk}:=I.turned (λb o c e=>A b o (by simpa using c) e) l m r q g
  exact⟨_,rfl,pY (s:={s with heap:=h',toks:=tk}) (n:= "range_iterator") d rfl rfl (by decide) ⟨.int (lo+i*st),H,F,⟨t,rfl⟩,⟨rfl,rfl⟩,d,λb c=>(f b c).1⟩⟩
 done:=by
  intro X x y u j i pins s σ H E I f a p
  obtain⟨l,m,D,r,q,g⟩:=f it (by simp)
  exact wpAny_pyNext_range_end (I.ok.hd j) a (by have:n<=i:=p;lia) λh' C=>⟨rfl,I.turned (t':=s.toks) (λb o c e=>C b o c e) l m r q g⟩
 self:=λ_ _ _ _ _ st h=>wpAny_pyIter_rangeiter st h
noncomputable def qS (lo hi st:Int):Nat:=if lo<hi then ((hi - lo - 1)/st+1).toNat else 0
section
variable {tg:Expr}
theorem js(d:0<c):Builtin.Range.rangeSize a b c=(qS a b c:Int):=by
 unfold Builtin.Range.rangeSize qS
 rw[if_pos d]
 split
 ·have:0<=(b - a - 1)/c:=Int.ediv_nonneg (by omega) (by omega)
  omega
 ·rfl
theorem yH(h1: -(2^60)<=a)(f:a<2^60)(e: -(2^60)<=b)(i:b<2^60)(d:0<c)(g:c<2^60):Builtin.Range.small a b c=true:=by
 have h:(qS a b c:Int)<=2^62:=by
  unfold qS
  split
  ·have j:(b - a - 1)/c<=b - a - 1:=Int.ediv_le_self _ (by omega)
   omega
  ·decide
 unfold Builtin.Range.small
 rw[js d]
 simp only[Builtin.Range.rangeFitsLong,N8,Qq,decide_eq_true_eq,beq_iff_eq,if_pos (show c>0 from d)]
 omega
def Hj (ta:TA):TI:=λσ H R=>ta σ H λvs H1=>∃i j k:Int,vs=[.int i,.int j,.int k]/\(-(2^60)<=i/\i<2^60/\ -(2^60)<=j/\j<2^60/\0<k/\k<1000000)/\R (yY i k (qS i j k)) H1
theorem zp(B:Gl X "range")(z:X.mg "range" =none)(D:PA X [a,b,c] ta)(w:starEach [a,b,c] X.env=[(false,eval a X.env),(false,eval b X.env),(false,eval c X.env)]:=by rfl)
  (g:starEach [b,c] X.env=[(false,eval b X.env),(false,eval c X.env)]:=by rfl):PI X tg (.Call (.Name "range" p) [a,b,c] [] pos) (Hj ta):=by
 intro pins s σ H R I h
 refine Call_ (ig I B z boot_range (PyProof.Rows.callWith_type1 (cJ (D pos pins s σ H _ I h) λE s1 C=>?_) (by rw[w,g]) (by rw[g];rfl)))
 obtain⟨vs,H1,I1,x,l⟩:=C
 obtain⟨i,j,k,e,⟨l,v,q3,A,n,F⟩,q⟩:=l
 subst e
 cases x with
 |cons r rr=>
  cases rr with
  |cons r' rr=>
   cases rr with
   |cons r'' rr=>
    cases rr
    obtain⟨t,rfl⟩:=r
    obtain⟨u,rfl⟩:=r'
    obtain⟨d,rfl⟩:=r''
    refine call_range_3 (by omega) ?_ (Or.inl (PyProof.noPylong_small (by omega)))
    refine wpAny_pyIter_range (IsRange.new ..) (yH l v q3 A n (by omega)) ?_
    generalize f:({s1 with heap:=s1.heap.push {cls:=.type "range",data:=.fields #[.int i t,.int j u,.int k d]},toks:=s1.toks}:Shared)=s2
    have m:aM X pins σ H1 s2:=by rw[<-f];exact I1.kept λb o e=>NN _ e
    refine⟨s2.heap.objs.size,[s2.heap.objs.size],_,_,H1,rfl,?_,tU _ i k (qS i j k),?_,λb y=>?_,q⟩
    ·subst f
     exact m.kept (t':=s1.toks) λb o e=>NN _ e
    ·show IsRangeIter _ _ (i+((0:Nat):Int)*k) ((qS i j k:Int) - ((0:Nat):Int)) k
     rw[show i+((0:Nat):Int)*k=i by simp,show(qS i j k:Int) - ((0:Nat):Int)=Builtin.Range.rangeSize i j k by rw[js n];simp]
     exact NZ _ rfl
    ·have e:b=s2.heap.objs.size:=by simpa using y
     subst e
     exact m.fpOk (NI _) (m.hok.fresh (NI _))
theorem uO {lo st:Int}{n:Nat}{g:TG}{tb:TS}{D:ez}(b:Nat->St->Hp->Prop)(h0:b 0 σ H)
  (f:∀i σ H,i<n->b i σ H->g (.int (lo+i*st)) σ H λc H2=>tb {D with nx:=b (i+1),ct:=b (i+1),bk:=D.nx} c H2) (hd:∀σ H,b n σ H->D.nx σ H):
  ∃W:Nat->Nat->St->Hp->Prop,(∃m,W 0 m σ H)/\∀i m σ H,W i m σ H->
   ((yY lo st n).stop i H/\D.nx σ H)\/((yY lo st n).go i H/\∃N:St->Hp->Prop,(∀a H',N a H'->∃d,d<m/\W (i+1) d a H')/\∀x H',(yY lo st n).yld i H x H'->g x σ H' λc H2=>tb {D with nx:=N,ct:=N,bk:=D.nx} c H2):=by
 refine⟨λi m σ H=>m=n - i/\i<=n/\b i σ H,⟨n,by simp,N9 _,h0⟩,?_⟩
 rintro i m σ H ⟨rfl,hi,p⟩
 by_cases hlt:i<n
 ·refine .inr ⟨hlt,b (i+1),λa H' h=>⟨n - (i+1),by omega,rfl,hlt,h⟩,λx H' y=>?_⟩
  obtain⟨e,y⟩:=y
  subst e y
  exact f i σ _ hlt p
 ·have e:i=n:=by omega
  subst e
  exact .inl ⟨NI _,hd σ H p⟩
end
theorem nQ {lo:Int}{n:Nat}{h:St}{g:TG}{j:TT}{o:TE}{l:Hp}{D:Addr}{Q:Hp->Prop}(d:Nat->St->Hp->Prop)(h0:d 0 h (upd l D (.lst [])))
  (q:∀i a H,i<n->d i a H->g (.int (lo+i)) a H λc H2=>j c H2 λb H3=>
   if b=true then o c H3 λv H4=>∃f,H4 D=some (.lst f)/\f.length<sizeLine/\d (i+1) c (upd H4 D (.lst (f++[v]))) else d (i+1) c H3)
  (hd:∀a H,d n a H->Q H):Aj h g j o (AO lo n) l D Q:=by
 refine⟨λi m a H=>m=n - i/\i<=n/\d i a H,⟨n,by simp,N9 _,h0⟩,?_⟩
 rintro i m a H ⟨rfl,hi,p⟩
 by_cases hlt:i<n
 ·refine .inr ⟨hlt,d (i+1),λr H' s=>⟨n - (i+1),by lia,rfl,hlt,s⟩,λx H' y=>?_⟩
  obtain⟨e,y⟩:=y
  subst e y
  exact q i a _ hlt p
 ·have e:i=n:=by lia
  subst e
  exact .inl ⟨NI _,hd a H p⟩
theorem da {a:Addr}{xs:List V}{j:St}{g:TG}{l:TT}{o:TE}{n:Hp}{D:Addr}{Q:Hp->Prop}(f:Nat->St->Hp->Prop)(h0:f 0 j (upd n D (.lst [])))
  (r:∀i c H,i<=xs.length->f i c H->bf K H a xs)
  (s:∀i x c H,xs[i]?=some x->f i c H->g x c H λd H2=>l d H2 λb H3=>
   if b=true then o d H3 λv H4=>∃h,H4 D=some (.lst h)/\h.length<sizeLine/\f (i+1) d (upd H4 D (.lst (h++[v]))) else f (i+1) d H3)
  (hd:∀c H,f xs.length c H->Q H):Aj j g l o (zw K a) n D Q:=by
 refine⟨λi m c H=>m=xs.length - i/\i<=xs.length/\f i c H,⟨xs.length,by simp,N9 _,h0⟩,?_⟩
 rintro i m c H ⟨rfl,hi,p⟩
 have q:=r i c H hi p
 by_cases hlt:i<xs.length
 ·refine .inr ⟨⟨xs,xs[i],q,by simp[hlt]⟩,f (i+1),λu H' w=>⟨xs.length - (i+1),by omega,rfl,hlt,w⟩,λx H' y=>?_⟩
  obtain⟨e,y⟩:=y
  subst e
  exact s i x c _ (y xs q) p
 ·have e:i=xs.length:=by omega
  subst e
  exact .inl ⟨⟨xs,q,NI _⟩,hd c H p⟩
def Co (X:Cx) (Ex:St->XK):Prop:=
 ∀(pins:List (Addr×Obj)) (σ:St) (H:Hp) (s:Shared) (a:Addr) (h':Heap) (C:Value) (b:List Value),aM X pins σ H s->Heap.MadeExcOf s.heap h' a C b->Ex σ C none H->X.xe (.ref a) {s with heap:=h'}
theorem aM.came(I:aM X pins σ H s)(x:X.ex=[])(h:Jd X.prog X.w X.stack H s Ex e s'):
  ∃(a T:Addr) (dd:Option Addr) (C:Value) (H':Hp),e=.ref a/\aM X pins σ H' s'/\Nt X pins H' a/\Nt X pins H' T/\um s'.heap a T C dd .none/\EG Ex C dd H':=by
 obtain⟨a,T,dd,C,H',e,os,c,u,d,f,g,i,nT,fl,q⟩:=h
 exact⟨a,T,dd,C,H',e,I.call' (ch:=[]) os u d c (λb z=>nomatch z),I.nt x i f,I.nt x nT g,fl,q⟩
section
variable {P:Program} {N:List Str} {qual:Str} {scope:Scope} {f:Addr} {cd:Value} {outer:List Env} {s₀:Shared} {H₀:Hp} {E:XK}
theorem Jp {a T:Addr}{C:Value}{dd:Option Addr}(b:Nt (g0 P w K mg base N qual scope f cd A outer s₀ H₀ E) pins H a)(q:EG E C dd H)(I:aM (g0 P w K mg base N qual scope f cd A outer s₀ H₀ E) pins σ H s)(z:Nt (g0 P w K mg base N qual scope f cd A outer s₀ H₀ E) pins H T)(f:um s.heap a T C dd .none):Jd P w outer H₀ s₀ E (.ref a) s:=
 ⟨a,T,dd,C,H,rfl,I.os,I.bare,I.base,I.hok,b.h,z.h,b.n,z.n,f,q⟩
theorem GC:Lp (g0 P w K mg base N qual scope f cd A outer s₀ H₀ E) E:=λpins σ H s a T C fl dd I b c f q=>ND (G1 I ⟨rfl,rfl,rfl⟩ b c f λs' T I z f=>Jp b q I z f)
theorem di:gT P w (g0 P w K mg base N qual scope f cd A outer s₀ H₀ E) λ_=>E:=λpins σ H s e s' I b=>by
 obtain⟨a,T,dd,C,H',rfl,I,c,d,f,q⟩:=I.came rfl b
 exact GC _ _ _ _ _ _ _ _ _ I c d f q
theorem dz:Co (g0 P w K mg base N qual scope f cd A outer s₀ H₀ E) λ_=>E:=λpins σ H s a h' C d I b q=>by
 obtain⟨t,e,_⟩:=b.there
 have c:=I.nt rfl b.new (I.hok.none_of b.new)
 exact Lc (I.kept (t':=s.toks) b.keeps) ⟨rfl,rfl,rfl⟩ c e rfl rfl λs' T I z f=>Jp c (.inl q) I z f
end
def vz (Ex:St->XK) (C:Value) (t:TA):TS:=λ_ σ H=>t σ H λvs H1=>vs.length<=sizeLine/\Ex σ C none H1
theorem cY {Ex:St->XK}{rest:List Expr}(O:OwnCls x C bm newId X.mg X.base)(f:ExcBaseFacts B newId initId bm)(o:X.calm=true)(r:Gl X x)
  (hx:Co X Ex) (v:PA X (e₀::rest) t) (hd:(x==("__debug__" :Str))=false:=by decide) (c:starEach (e₀::rest) X.env=(false,eval e₀ X.env)::starEach rest X.env:=by rfl)
  (b:(backTo cpos (starEach rest X.env)).any (·.1)=false:=by rfl):PS X (.Raise (some (.Call (.Name x np) (e₀::rest) [] cpos)) none pos) (vz Ex (.ref C) t):=by
 intro pins s σ H D I h
 obtain⟨tl,Nm,nm,q,bs,hdct,sn,sub,ab,col,dd,k0,k1,k2,k3,k5,g,m,n,a,T⟩:=O.obj
 refine wpAny_Raise_call_subT f (mN:=g) (k5:=k5) (k3:=k3) (k2:=k2) (k1:=k1) (k0:=k0) (dd:=dd) (col:=col) (ab:=ab) (sub:=sub) (sn:=sn) (hdct:=hdct)
  (bm:=tl) (bs:=bs) (N:=Nm) (q:=q) (nm:=nm) (C:=C) (T.hasType f.hasBase) (I.ok.hd o) ?_ a (ij I r O.bound ⟨rfl,?_⟩ hd)
 ·rw[c]
  show(false||(backTo cpos (starEach rest X.env)).any (·.1))=false
  rw[b];rfl
 ·have d:=v cpos pins s σ H _ I h
  rw[c] at d|-
  refine Calls.evalArgs_plain (cJ d λw s2 u=>?_)
  obtain⟨vs,H2,I2,j,l,i⟩:=u
  exact⟨rfl,by rw[<-j.length];exact l,I2.bk _ _ m,n.keeps I2.bk,T.keeps I2.bk,λh' e p=>hx pins σ H2 s2 e h' _ _ I2 p i⟩
noncomputable def tryB (X:Cx) (xe:Value->Shared->Prop) (pn:List (Addr×Obj)):Cx:={X with xe:=xe,pn:=pn}
noncomputable def cxH (X:Cx) (a:Addr):Cx:={X with A:=X.A.mark (some (.ref a)),calm:=false,xe:=λ_ _=>False}
theorem F7{a:List (Addr×Obj)}(ok:X.Ok):(tryB X xe a).Ok:=
 ⟨ok.mod,ok.kind,ok.glob,ok.blt,ok.above,ok.inj,ok.has,ok.cab,ok.hd,ok.frames,ok.stk,ok.exf,ok.bs,ok.bsz,ok.noex,ok.exfs,ok.funs,ok.frf⟩
theorem Jg{a:List (Addr×Obj)}(ok:(tryB X xe a).Ok):X.Ok:=
 ⟨ok.mod,ok.kind,ok.glob,ok.blt,ok.above,ok.inj,ok.has,ok.cab,ok.hd,ok.frames,ok.stk,ok.exf,ok.bs,ok.bsz,ok.noex,ok.exfs,ok.funs,ok.frf⟩
theorem Jb(ok:X.Ok):(cxH X a).Ok:=
 ⟨ok.mod,ok.kind,ok.glob,ok.blt,ok.above,ok.inj,ok.has,ok.cab,λz=>absurd z NY,ok.frames,ok.stk,ok.exf,ok.bs,ok.bsz,ok.noex,ok.exfs,ok.funs,ok.frf⟩
theorem HL(ok:(cxH X a).Ok)(hd:X.calm=true->X.A.handled=none):X.Ok:=
 ⟨ok.mod,ok.kind,ok.glob,ok.blt,ok.above,ok.inj,ok.has,ok.cab,hd,ok.frames,ok.stk,ok.exf,ok.bs,ok.bsz,ok.noex,ok.exfs,ok.funs,ok.frf⟩
theorem Di(I:aM X pins σ H s):aM (tryB X xe (X.pn++pins)) [] σ H s:=
 ⟨F7 I.ok,I.os,I.bare,I.base,I.loc,I.cell,I.free,I.freeC,λp a=>I.pin p (by simpa[L2.tryB] using a),I.hok,I.len⟩
theorem jU{a:List (Addr×Obj)}(I:aM (L2.tryB X xe (X.pn++pins)) a σ H s):aM X pins σ H s:=
 ⟨Jg I.ok,I.os,I.bare,I.base,I.loc,I.cell,I.free,I.freeC,λp b=>I.pin p (Ou _ b),I.hok,I.len⟩
theorem mh(I:aM X pins σ H s):aM (cxH X a) pins σ H s:=
 ⟨Jb I.ok,I.os,I.bare,I.base,I.loc,I.cell,I.free,I.freeC,I.pin,I.hok,I.len⟩
theorem gD(I:aM (L2.cxH X a) pins σ H s)(hd:X.calm=true->X.A.handled=none):aM X pins σ H s:=
 ⟨HL I.ok hd,I.os,I.bare,I.base,I.loc,I.cell,I.free,I.freeC,I.pin,I.hok,I.len⟩
theorem mw{Q:Unit->Shared->Prop}(I:aM X pins σ H s)(P:X.N.Nodup)(hi:X.N[i]?=some n)(K:X.env.kindOf n=some .local)
  (h:∀s',aM X pins (σ.set i none) H s'->Q () s'):wpAny (model X.prog X.w) A (do bindName X.env n .none;unbindBehindTheSuite X.env n pos) Q E s:=by
 obtain⟨m,T,g⟩:=id I.loc
 have a:(X.env.scope.kind==.class||(X.env.scope.kind==.module&&X.env.locals !=X.env.globals))=false:=by rw[I.ok.kind];rfl
 refine wpAny_nameGoes_keeps K T a λh' v F r=>h _ ?_
 have ab:∀b o,X.s₀.heap.get? b=some o->b≠X.env.locals:=λb o e=>NS (Oc (NO e) I.ok.above)
 refine⟨I.ok,I.os,I.bare,⟨λb o e n x C=>?_,λb o e n x C=>?_,I.base.free,λb o e C=>?_,I.base.tups,I.base.frzs,I.base.tbls⟩,⟨_,F,λj y Y B D S=>?_⟩,λy c e=>?_,I.free,I.freeC,λp M=>?_,?_,by simpa using I.len⟩
 ·exact(r.2 b (ab b o e)).trans (I.base.keep b o e n x C)
 ·obtain⟨Z,B⟩:=I.base.slot b o e n x C
  exact⟨Z,(r.2 b (ab b o e)).trans B⟩
 ·obtain⟨o',B⟩:=I.base.there b o e C
  exact⟨o',(r.2 b (ab b o e)).trans B⟩
 ·by_cases hj:j=i
  ·subst hj
   have f:j<σ.length:=by rw[I.len];exact(Ov.mp hi).1
   rw[List.getElem?_set_self f] at D
   cases D
  ·rw[List.getElem?_set_ne (N6 hj)] at D
   obtain⟨W,R,q⟩:=g j y Y B D S
   refine⟨W,R,?_⟩
   rcases q with ⟨k,e⟩|⟨k,c,e,z⟩
   ·refine .inl ⟨k,?_⟩
    have l:y≠n:=λe=>hj (m7 P B (e▸hi))
    simp[l,e]
   ·exact .inr ⟨k,c,e,z.sameBut r (I.cne y c e)⟩
 ·obtain⟨U,z⟩:=I.cell y c e
  exact⟨U,z.sameBut r (I.cne y c e)⟩
 ·obtain⟨e,O,G,J,d⟩:=I.pin p M
  exact⟨(r.2 p.1 G).trans e,O,G,J,d⟩
 ·refine I.hok.keepT λb u x e=>(r.2 b λz=>?_).trans e
  rw[z,I.free] at x;cases x
section
open PySem.W (Looks)
open Builtin Builtin.ObjectAttr Builtin.Getset_descriptor
structure gI (K:NJ) (C:Addr):Prop where
 ga:Oh K (.ref C) "__getattribute__" =some (some (.builtin "BaseException.__getattribute__"))
 gt:Oh K (.ref C) "__getattr__" =some none
 cl:Oh K (.ref C) "__class__" =some (some (.builtin "object.__class__"))
 gg:Qj K (.builtin "object.__class__") "__get__" =some (some (.builtin "getset_descriptor.__get__"))
 tk:PySem.W.takesIn K (.builtin "object.__class__")=some true
 ob:Qk K C (.type "object")=some true
 be:Qk K C (.type "BaseException")=some true
section
variable {C a:Addr} {h:Heap} {g:Array GenState} {d:Drawn} {t:Nat} {os:OsState} {o:Obj}
theorem nL(hx:h.get? a=some o)(b:o.cls=.ref C):Looks M h (typeOf (.ref a)) (.ref C):=b▸(Looks.ld hx).andThen .now
theorem Dg(X:K.In h)(Z:gI K C):Looks M h (find (.ref a) (.ref C) "__class__") (Found.bind (.builtin "getset_descriptor.__get__") (.builtin "object.__class__")):=by
 have e:=PX (M:=M) X Z.cl
 have c:=PySem.W.looks_specialIn (M:=M) X Z.gg
 have d:=PySem.W.looks_takesIn (M:=M) X Z.tk
 have b:Looks M h (dataDescriptor? (some (.builtin "object.__class__")) (some (.builtin "getset_descriptor.__get__"))) (some (.builtin "getset_descriptor.__get__",.builtin "object.__class__")):=d.andThen (Looks.of_pure rfl)
 exact e.andThen (c.andThen (b.andThen (Looks.tag .now)))
theorem Ey(X:K.In h)(Z:gI K C)(hx:h.get? a=some o)(b:o.cls=.ref C)(c:R (.ok (.ret (.ref C))) ⟨h,g,d,t,os⟩):
  codeAny (model prog w) A (.call (.builtin "getset_descriptor.__get__") ⟨[.builtin "object.__class__",.ref a,.ref C],[]⟩) R ⟨h,g,d,t,os⟩:=by
 have e:=nL (M:=model prog w) hx b
 have f:=Qx (M:=model prog w) X Z.ob
 refine codeAny_call_builtin PySem.W.KF.slot_gs.plain PySem.W.KF.entry_gs ?_
 refine PySem.W.KF.slot_gs.check _ _ _ _ _ _ _ _ PySem.W.KF.type_class (PySem.W.KF.args_gs _ _ _) ?_
 unfold Builtin.«getset_descriptor.__get__» descrGet
 refine ND (NH ?_)
 unfold descrGetter descrCheckInstance descrNameAndClass isInstance
 simp only[PySem.W.KF.owner_class]
 repeat lk
 refine⟨Code.quiet_builtin _ (by decide+kernel),?_⟩
 refine codeAny_builtin PySem.W.KF.entry_class ?_
 repeat lk
 exact c
theorem Aa{Q:Unit->Shared->Prop}(X:K.In h)(Z:gI K C)(hx:h.get? a=some o)(e:o.cls=.ref C)(f:Q () ⟨h,g,d,t,os⟩):
  wpAny M A (checkBuiltinCall "BaseException.__getattribute__" ⟨[.ref a,nameV],[]⟩) Q E ⟨h,g,d,t,os⟩:=by
 have b:builtinKind "BaseException.__getattribute__" =some .slot:=by decide+kernel
 have c:splitId "BaseException.__getattribute__" =some ("BaseException", "__getattribute__"):=by decide+kernel
 have j:=nL (M:=M) hx e
 have i:=Qx (M:=M) X Z.be
 simp only[checkBuiltinCall,b,c]
 repeat lk
 repeat (any_goals (first|assumption|wp_step))
theorem Ae{tk:Tok}{Q:Fin->Shared->Prop}(X:K.In h)(Z:gI K C)(hx:h.get? a=some o)(b:o.cls=.ref C)(c:Q (.done (.ret (.ref C))) ⟨h,g,d,t,os⟩):
  wpAny (model prog w) A (Builtin.«object.__getattribute__» ⟨[.ref a,.str "__class__" tk],[]⟩) Q E ⟨h,g,d,t,os⟩:=by
 have f:=nL (M:=model prog w) hx b
 have e:=Dg (a:=a) (M:=model prog w) X Z
 refine ND (m:=slotArgs "__getattribute__" 1 ⟨[.ref a,.str "__class__" tk],[]⟩) (NH ?_)
 refine ND (m:=attrName (.str "__class__" tk)) (NH ?_)
 refine ND (f.at (ND (e.at ?_)))
 refine ND (Oe (OS (Ey X Z hx b ?_)))
 exact NH c
theorem Ds(X:K.In s.heap)(Z:gI K C)(hx:s.heap.get? a=some o)(b:o.cls=.ref C)(d:Q (some (.ref C)) {s with toks:=s.toks+1}):
  wpAny (model prog w) A (getAttr? (.ref a) "__class__") Q E s:=by
 have e:=nL (M:=model prog w) hx b
 have f:=PX (M:=model prog w) X Z.ga
 have c:=PX (M:=model prog w) X Z.gt
 refine ND (wpAny_mkText (ND (ON (Oe (ND (e.at (ND (f.at ?_))))))))
 refine ND (c.at ?_)
 refine ND (ON (Oe ?_))
 show wpAny _ _ (boundAndCalled _ _ _) _ _ _
 refine OS (codeAny_call_builtin F.attr_ValueError.ga.plain F.entry_bexc_ga (Aa X Z hx b (Ae X Z hx b ?_)))
 exact PySem.W.handed_on rfl (NH d)
set_option tactic.hygienic true in
theorem xU (Z:gI K C):PySem.W.KitX K (.ref a) (.ref C) (λh=>∃o vs,h.get? a=some o/\o.cls=.ref C/\o.data=.fields vs):=by
 have f:∃g j c b,K.lookup C=some ⟨g,j,.cls c,b⟩:=by
  obtain⟨cd,d,_⟩:=Option.bind_eq_some_iff.mp Z.ob
  unfold PySem.W.clsIn at d
  split at d
  ·rename_i g j c b i
   exact⟨g,j,c,b,i⟩
  ·cases d
 obtain⟨g,j,c,b,i⟩:=f
 refine⟨λM h _ ⟨o,_,l,p,_⟩=>nL l p,λM h X _=>?_,λh tp dd r n s X m=>?_,λX ⟨o,_,l,p,_⟩ k=>Ds X Z l p k⟩
 ·intro A' Q' E' s' k q
  exact ND (wpAny_loadPart (k _ _ (X _ _ i)) (NH q))
 ·refine Bool.eq_false_iff.mpr λq=>?_
  have e:C=tp:=Value.ref.inj (beq_iff_eq.mp q)
  subst e
  have z:=(X _ _ i).symm.trans m
  cases z
end
end
noncomputable def qg (K:NJ) (C:Addr) (a:List Value) (newId:String) (o:Option Value):Bool:=match K.lookup C with
 |some ⟨.type "type",_,.cls cd,sl⟩=>(match cd.mro,sl.toList with
  | .ref C'::bm,[_,_,_,_,some (.builtin n),_]=>C'==C&&n==newId&&!cd.hasDel&&PySem.W.tailIn K a bm&&PySem.W.nsOkIn K cd.ns&&Po K cd.ns "__init__" ==some o
  |_,_=>false)
 |_=>false
set_option tactic.hygienic true in
theorem CI {h:Heap}{N:Addr}{n:Str}{v:Value}(X:K.In h)(e:PySem.W.nsOkIn K N=true)(q:Po K N n=some (some v)):h.nsMap N n=some v:=by
 have G:h.Ns N (h.nsMap N):=.of_isNs (PySem.W.isNs_of_in X e)
 obtain⟨o,es,ep,f,b,_,a⟩:=G
 unfold Po at q
 split at q
 ·rename_i c d es' n' sl z
  have:=X _ _ z
  rw[f] at this
  cases this
  cases b
  split at q
  ·rename_i he
   cases q
   rw[<-a]
   unfold nsFind findBy
   rw[<-Array.find?_toList,he]
   rfl
  ·split at q<;>cases q
 ·cases q
set_option tactic.hygienic true in
theorem lV {h:Heap}{C:Addr}{v:Option Value}{d:List Value}{newId:String}(Y:K.In h)(z:qg K C d newId v=true):∃bm N nm q bs hdct sn sub ab col dd k0 k1 k2 k3 k5 g,
  h.get? C=some (excClassObj nm q C N bs bm hdct sn sub ab col dd k0 k1 k2 k3 k5 newId)/\h.Ns N g/\g "__init__" =v/\OwnTail h d bm:=by
 unfold qg at z
 split at z
 case h_2=>cases z
 case h_1 dct cls slt hob=>
  split at z
  case h_2=>cases z
  case h_1 C2 tl s0 s1 s2 s3 nn s5 hmro hsl=>
   simp only[N8,beq_iff_eq,Pp] at z
   obtain⟨⟨⟨⟨⟨rfl,rfl⟩,r⟩,m⟩,e⟩,f⟩:=z
   obtain⟨s,o,w,l,n,u,i,j,p,b,c⟩:=cls
   cases hmro;cases r
   have a:slt= #[s0,s1,s2,s3,some (.builtin nn),s5]:=by
    cases slt with|mk ll=>simp only at hsl;rw[hsl]
   cases a
   exact⟨tl,l,s,n,o,u,i,j,p,b,dct,s0,s1,s2,s3,s5,_,Y _ _ hob,.of_isNs (PySem.W.isNs_of_in Y e),(by cases v with
    |none=>exact PySem.W.nsMap_none_of_in Y e f
    |some v=>exact CI Y e f),PySem.W.tail_of_in Y m⟩
theorem eQ {h:Heap}{x:Str}{C:Addr}{a:List Value}{newId:String}(Y:K.In h)(b:mg x=some (.ref C))(z:PySem.W.excIn K C a newId=true):OwnCls x C a newId mg h:=⟨b,lV Y (v:=none) z⟩
theorem lh {cs:List Addr}:∀{a:List Value},bH (cs.map V.ref) a->a=cs.map Value.ref:=by
 induction cs with
 |nil=>intro a h;cases h;rfl
 |cons b r ih=>
  intro a h
  cases h with
  |cons q t=>rw[ih t];cases(show _=Value.ref b from q);rfl
def FP (X:Cx) (e:Expr) (c:St->Hp->Prop):Prop:=∀(pins:List (Addr×Obj)) (σ:St) (H:Hp) (s:Shared) (Q:Value->Shared->Prop),aM X pins σ H s->c σ H->
 (∀y t s',aM X pins σ H s'->y.length<=6000->Q (.str y t) s')->wpAny (model X.prog X.w) X.A (eval e X.env) Q X.xe s
inductive fq (X:Cx):List Expr->(St->Hp->Prop)->Prop where
 |nil:fq X [] λ_ _=>True
 |cons {e es c cs}:FP X e c->fq X es cs->fq X (e::es) λσ H=>c σ H/\cs σ H
theorem Kk(f:fq X es cs)(I:aM X pins σ H s)(c:cs σ H)(a:out.length+6000*es.length<=sizeLine)
  (q:∀y t s',aM X pins σ H s'->Q (.str y t) s'):wpAny (model X.prog X.w) X.A (joinParts out (evalEach es X.env)) Q X.xe s:=by
 induction f generalizing s out with
 |nil=>exact joinParts_nilE (joinParts_nil (q _ _ _ (I.tok _)) (by simpa using a))
 |cons he _ ih=>
  simp only[NU] at a
  refine joinParts_consE (joinParts_cons (he pins σ H s _ I c.1 λy t s' I' b=>?_))
  have e:(out++y).length=out.length+y.length:=strLen_append _ _
  exact⟨by rw[e];lia,ih I' c.2 (by rw[e];lia)⟩
def Hg (cs:St->Hp->Prop):TE:=λσ H Q=>cs σ H/\∀x,Q (.str x) H
theorem eO(h:fq X (e₁::e₂::es) cs)(b:6000*(es.length+2)<=sizeLine:=by decide):PE X (.JoinedStr (e₁::e₂::es) pos) (Hg cs):=by
 intro pins s σ H Q I a
 exact Kk h I a.1 (by show 0+6000*(es.length+2)<=_;lia) λy t s' I'=>⟨.str y,H,I',⟨t,rfl⟩,a.2 y⟩
theorem dk(h:PE X e λ_ H Q=>Q (.str x) H)(hx:x.length<=6000:=by decide):FP X e λ_ _=>True:=by
 intro pins σ H s Q I _ q
 refine On (h pins s σ H (λv H'=>v=.str x/\H'=H) I ⟨rfl,rfl⟩) (λv s' a=>?_) λ_ _ z=>z
 obtain⟨b,H',I',r,rfl,rfl⟩:=a
 obtain⟨t,rfl⟩:=r
 exact q x t s' I' hx
inductive Fm (K:NJ) (H:Hp):V->Prop where
 |int (i:Int):i.natAbs.log2<1920->Fm K H (.int i)
 |tup (a:Addr) (is:List Int):bY K H a (is.map V.int)->is.length<=3->(∀i∈is,i.natAbs.log2<1920)->Fm K H (.ref a)
theorem vj {h:Heap}{is:List Int}:∀{a:List Value},bH (is.map V.int) a->ReadsAll h a (is.map PyData.int) []:=by
 induction is with
 |nil=>intro a r;cases r;exact .nil
 |cons i is ih=>
  intro a r
  cases r with
  |cons q t=>
   obtain⟨k,rfl⟩:=q
   exact .cons (.int _ _) (ih t)
theorem pH:∀{is:List Int},(∀i∈is,i.natAbs.log2<1920)->PyData.showableAll (is.map PyData.int)=true
 |[],_=>rfl
 |i::r,h=>by
  simp only[NQ,PyData.showableAll,PyData.showable,N8,decide_eq_true_eq]
  exact⟨h i N7,pH λj a=>h j (NV _ a)⟩
theorem lM:∀{is:List Int},PyData.hasDictAll (is.map PyData.int)=false
 |[]=>rfl
 |_::r=>by simp only[NQ,PyData.hasDictAll,PyData.hasDict,Bool.false_or];exact lM
theorem mR:∀{is:List Int},PyData.depthAll (is.map PyData.int)<=1
 |[]=>by simp[PyData.depthAll]
 |_::r=>by
  have:=mR (is:=r)
  simp only[NQ,PyData.depthAll,PyData.depth]
  lia
theorem p7 {i:Int}(h:i.natAbs.log2<1920):(Str.ofString (toString i)).length<=1921:=by
 rw[PySem.ofString_length];exact int_text_length_le (k:=1920) (by decide) h
theorem ow:∀{is:List Int},(∀i∈is,i.natAbs.log2<1920)->piled (PyData.shownAll (is.map PyData.int))<=1923*is.length
 |[],_=>by simp only[OA,PyData.shownAll];decide
 |i::r,h=>by
  have h1:=ow (is:=r) λj a=>h j (NV _ a)
  have h2:=p7 (h i N7)
  simp only[NQ,PyData.shownAll,PyData.shown,NU]
  rw[piled_cons]
  lia
theorem uP {is:List Int}(d:is.length<=3)(a:∀i∈is,i.natAbs.log2<1920):(PyData.tuple (is.map PyData.int)).shown.length<=6000:=by
 have e:(PyData.tuple (is.map PyData.int)).shown=tupleText (PyData.shownAll (is.map PyData.int)):=by simp only[PyData.shown]
 have b:=ow a
 rw[e]
 generalize PyData.shownAll (is.map PyData.int)=ts at b
 unfold tupleText
 rw[strLen_append,strLen_append]
 have h1:((if ts.length==1 then ",)" else ")" :String):Str).length<=2:=by split<;>decide
 have h2:(Str.join ", " ts).length<=5800:=by
  by_cases h:ts=[]
  ·rw[h];decide
  ·have:=join_length_add ts h
   lia
 have c:(("(" :String):Str).length=1:=rfl
 lia
theorem lg(h1: -(2^200)<i)(b:i<2^200):i.natAbs.log2<1920:=by
 by_cases h:i.natAbs=0
 ·rw[h];decide
 ·rw[Nat.log2_lt h]
  have a:i.natAbs<2^200:=by omega
  exact Oc a (Nat.pow_le_pow_right (n:=2) (by decide) (by decide))
theorem dO {k:Nat}{e:Expr}{t:TE}{m:Pos}(o:dh k X.A)(h:PE X e t):FP X (.FormattedValue e (-1) none m) λσ H=>t σ H λv H'=>H'=H/\Fm X.K H v:=by
 intro pins σ H s Q I c q
 refine FormattedValue_plain (On (h pins s σ H _ I c) (λv s' B=>?_) λ_ _ z=>z)
 obtain⟨E,H',I',r,rfl,f⟩:=B
 cases f with
 |int i hi=>
  obtain⟨t,rfl⟩:=r
  exact formatField_int_small hi (q _ _ _ (I'.tok _) (by have:=p7 hi;lia))
 |tup a is ha hl hs=>
  cases(show v=Value.ref a from r)
  obtain⟨l,y,⟨⟨cl,C,j,F⟩,w,g,n,b⟩,_⟩:=I'.tuple ha
  have p:=uP hl hs
  refine formatField_of_reads (h₀:=s'.heap) (as:=[]) (d:=.tuple (is.map PyData.int)) (.tuple w g b (by simpa using vj y)) ?_ ?_ o.gd ?_ (λ_ _ z=>z) (λh' u tk x=>q _ _ _ ?_ p) ?_
  ·simp only[PyData.showable];exact pH hs
  ·intro z
   simp only[PyData.hasDict] at z
   rw[lM] at z;cases z
  ·have:=o.units
   have D:=mR (is:=is)
   simp only[PyData.depth]
   lia
  ·exact I'.kept x
  ·have:sizeLine=2^24:=rfl
   lia
theorem mX(b:Gl X x)(a:X.mg x=some (.ref C))(hd:(x==("__debug__" :Str))=false:=by decide):PE X (.Name x pos) (tC (.ref C)):=wC b a rfl hd
theorem Mj{g:Int->V}(a:Ev ta σ H (.int i)):Ev (Nb (rU g) ta) σ H (g i):=λ_ q=>a _ ⟨i,rfl,q⟩
theorem cG(q:te σ H λv H1=>u D (σ.set n (some v)) H1):e_ (jI te (dr n)) u D σ H:=q
theorem oQ:bootBuiltins "ValueError" =some (.type "ValueError"):=by decide+kernel
structure uM (K:NJ) (mg:Str->Option Value) (x:Str) (C:Addr):Prop where
 bd:mg x=some (.ref C)
 ex:PySem.W.excIn K C [.type "ValueError",.type "Exception",.type "BaseException",.type "object"] "ValueError.__new__" =true
 ok:gI K C
theorem dR {Ex:St->XK}{t:TA}(h:cs σ H)(q:Ex σ C none H):vz Ex C (b9 (Hg cs) dv) D σ H:=⟨h,λ_=>⟨(by show 1<=sizeLine;decide),q⟩⟩
theorem iV {Ex:St->XK}(q:Ex σ C none H):vz Ex C (b9 (tC (.str x)) dv) D σ H:=⟨(by show 1<=sizeLine;decide),q⟩
section
variable {C:Addr} {k:Nat} {ps:List Str} {sp:Sp} {x m:Str} {p pos apos:Pos} {e o:Expr} {es:List Expr} {ta:TE} {t:TA}
theorem tT:c_ X (.type "range") (λxs H Q=>∃m n,xs=[.int m,.int n]/\∀p,H p=none->Q (.ref p) (upd H p (.rng m n))):=by
 intro pins s σ H xs a Q I r h
 obtain⟨m,n,rfl,q⟩:=h
 obtain⟨u,d,rfl,⟨t,rfl⟩,⟨c,rfl⟩⟩:=kl r
 refine PySem.call_range_2 ⟨.ref s.heap.objs.size,_,?_,rfl,q _ (I.hok.fresh (NI _))⟩
 refine I.laid (λb o e=>NN _ e) (NI _) ?_
 exact⟨_,_,_,NZ _ rfl⟩
theorem nH {f:Nat->Int}:∀(a:List Value) (i:Nat),(∀j v,a[j]?=some v->∃t,v=Value.int (f (i+j)) t)->bH ((List.range' i a.length).map λj=>V.int (f j)) a
 |[],_,_=> .nil
 |v::r,i,h=>by
  obtain⟨t,e⟩:=h 0 v rfl
  refine .cons ⟨t,e⟩ (nH r (i+1) λj u b=>?_)
  obtain⟨d,c⟩:=h (j+1) u b
  exact⟨d,by rw[c];congr 2;lia⟩
theorem oH (y:X.calm=true):c_ X (.type "list") (λxs H Q=>∃p lo hi,xs=[.ref p]/\H p=some (.rng lo hi)/\(-(2^62)<=lo/\lo<2^62/\ -(2^62)<=hi/\hi<2^62)/\hi - lo<=16000000/\
  ∀l,H l=none->Q (.ref l) (upd H l (.lst ((List.range (hi - lo).toNat).map λ(i:Nat)=>V.int (lo+(i:Int)))))):=by
 intro pins s σ H xs J Q I r h
 obtain⟨p,lo,hi,rfl,m,⟨h1,h2,F,D⟩,K,q⟩:=h
 obtain⟨u,rfl,d⟩:=dY r
 cases d
 obtain⟨t,E,a,e⟩:=(show cg X.prog X.w H s.heap p (.rng lo hi) from I.hok p _ m)
 have B:Builtin.Range.rangeSize lo hi 1=((hi - lo).toNat:Nat):=by
  rw[rangeSize_one]
  split<;>lia
 refine call_list_range (I.ok.hd y) e (small_one h1 h2 F D) B (by lia) λh' tk b A x C c=>?_
 obtain⟨n,G⟩:=c
 have o:bH ((List.range (hi - lo).toNat).map λ(i:Nat)=>V.int (lo+(i:Int))) b.toList:=by
  have z:=nH (f:=λi=>lo+(i:Int)) b.toList 0 λj v g=>by
   obtain⟨t,e⟩:=G j v (by rw[<-g];simp)
   exact⟨t,by rw[e];simp⟩
  rw[show b.toList.length=(hi - lo).toNat by rw[OW,n]] at z
  rw[List.range_eq_range']
  exact z
 refine⟨.ref s.heap.objs.size,_,I.laid (t':=tk) x (NI _) (show cg X.prog X.w _ h' _ (.lst _) from⟨?_,b.toList,A,o,by rw[C]⟩),rfl,q _ (I.hok.fresh (NI _))⟩
 rw[NG,List.length_range]
 have:sizeLine=2^24:=rfl
 lia
end
theorem gA {c:TE}{a:St}{R:VK}{N:Hp->Prop}(h:c a H R):t_ a H λb H3=>if b=true then c a H3 R else N H3:=by
 show if true=true then c a H R else N H
 exact h
theorem wZ(h:j<n):EK n (j:Int)=some j:=by
 unfold EK
 rw[if_pos (by lia),if_pos (by lia)]
 simp
section
variable {tc:TT} {te:TE} {t u v:TS} {D:ez} {a b:Bool}
theorem F9 (e:a=b)(h:Ev te σ H (.bl a)):Ev te σ H (.bl b):=e▸h
theorem IT (h:iB tc σ H b)(h1:b=true->t {D with nx:=v D} σ H)(a:b=false->u {D with nx:=v D} σ H):e_ (jP tc t u) v D σ H:=by
 refine h _ ?_
 cases b with
 |true=>rw[if_pos rfl];exact h1 rfl
 |false=>rw[if_neg NY];exact a rfl
theorem Jh (J:St->Hp->Prop)(h:iB tc σ H b)(h1:b=true->∀R:St->Hp->Prop,(∀σ H,J σ H->R σ H)->t {D with nx:=R} σ H)(c:b=false->∀R:St->Hp->Prop,(∀σ H,J σ H->R σ H)->u {D with nx:=R} σ H)
  (a:∀σ H,J σ H->v D σ H):e_ (jP tc t u) v D σ H:=IT h (λe=>h1 e _ a) λe=>c e _ a
theorem MA (J:St->Hp->Prop)(h1:∀R:St->Hp->Prop,(∀σ H,J σ H->R σ H)->t {D with nx:=R} σ H)(a:∀σ H,J σ H->v D σ H):e_ t v D σ H:=h1 _ a
end
theorem jZ:bootBuiltins "enumerate" =some (.type "enumerate"):=by decide+kernel
section
open PySem PySem.W PyProof.Rows
section
variable {O:KeyOrd} (key:Nat->O.α)
def kA (p:Array Nat) (k:Nat):O.α:=key (p.getD k 0)
def Dn (p:Array Nat) (n:Nat):Prop:=∀i j,i<=j->j<n->O.kle (kA key p j) (kA key p i)
variable {key}
end
end
inductive Fd:V->PyData->Prop
 |int (i:Int):Fd (.int i) (.int i)
 |str (x:Str) (h:PyData.strOk x=true):Fd (.str x) (.str x)
inductive Dp (K:NJ) (H:Hp):V->PyData->Prop
 |tup {a:Addr} {xs:List V} {ds:List PyData} (h:bY K H a xs) (r:Paired Fd xs ds):Dp K H (.ref a) (.tuple ds)
theorem Lr(r:Paired Fd xs ds):PyData.canLayAll0 ds=true/\PyData.eqvAll ds ds=true:=by
 induction r with
 |nil=>simp[PyData.canLayAll0,PyData.eqvAll]
 |cons q _ ih=>cases q<;>simp_all [PyData.canLayAll0,PyData.canLay0,PyData.eqvAll,PyData.eqv]
theorem D8(q:Paired Fd xs ds)(a:bH xs us):∃as,ReadsAll h us ds as:=by
 induction q generalizing us with
 |nil=>cases a;exact⟨_,.nil⟩
 |cons p _ ih=>
  cases a with
  |cons r rr=>
   obtain⟨bs,rb⟩:=ih rr
   cases p with
   |int i=>obtain⟨t,rfl⟩:=r;exact⟨_,.cons (.int i t) rb⟩
   |str x _=>obtain⟨t,rfl⟩:=r;exact⟨_,.cons (.str x t) rb⟩
theorem Dp.lay {v:V}{d:PyData}(h:Dp K H v d):d.canLay0=true/\PyData.eqv d d=true:=by
 cases h with
 |tup _ r=>simpa[PyData.canLay0,PyData.eqv] using Lr r
theorem Dp.reads(h:Dp X.K H v d)(I:aM X pins σ H s)(r:bo v u):∃as,Reads s.heap u d as:=by
 cases h with
 | @tup a _ _ h q=>
  cases(show _=Value.ref a from r)
  obtain⟨b,i,⟨o,g,f,n,c⟩,_⟩:=I.tuple h
  obtain⟨as,e⟩:=D8 q i
  exact⟨_,.tuple g f c (by simpa using e)⟩
def LS (K:NJ):R2:=λx y H Q=>∃d e,Dp K H x d/\Dp K H y e/\d.depth<=60/\Q (.bl (!PyData.eqv d e)) H
theorem DA(f:dh k X.A):ji X (compareOp .NotEq) (LS X.K):=by
 intro pins s σ H x y v u Q I a g h
 obtain⟨d,e,h1,h2,i,q⟩:=h
 obtain⟨as,c⟩:=h1.reads I a
 obtain⟨bs,b⟩:=h2.reads I g
 have:=f.units
 exact SeqAt.compareNe_reads c b h1.lay.1 h2.lay.1 (by lia) ⟨.bl _,H,I,rfl,q⟩
theorem bY.kept {H':Hp}{a:Addr}{xs:List V}(e:∀b o,H b=some o->H' b=some o)(h:bY K H a xs):bY K H' a xs:=bY.same e h
theorem Dp.same {H':Hp}{v:V}{d:PyData}(e:au H H')(h:Dp K H v d):Dp K H' v d:=by
 cases h with
 |tup h r=>exact .tup (h.same e) r
section
variable {ta tb:TE} {x y:V} {d e:PyData}
theorem Jt (b:Ev ta σ H x)(c:Ev tb σ H y)(h1:Dp K H x d)(a:Dp K H y e)(hd:d.depth<=60):Ev (gb (LS K) ta tb) σ H (.bl (!PyData.eqv d e)):=λ_ z=>b _ (c _ ⟨d,e,h1,a,hd,z⟩)
end
theorem aM.laidN(I:aM X pins σ H s)(k:∀b u,b≠X.env.locals->s.heap.get? b=some u->h'.get? b=some u)
  (ns:∀m,s.heap.Ns X.env.locals m->h'.Ns X.env.locals m) (i:s.heap.get? a=none) (g:cg X.prog X.w (upd H a o) h' a o):aM X pins σ (upd H a o) {s with heap:=h',toks:=t'}:=by
 have d:H a=none:=I.hok.none_of i
 have uy:∀b u,H b=some u->b≠X.env.locals:=λb u e z=>by rw[z,I.free] at e;cases e
 have f:∀b u,s.heap.get? b=some u->b≠a:=λb u e z=>by rw[z,i] at e;cases e
 refine I.step (g':=s.gens) (d':=s.drawn) (ch:=[]) (λ_ z=>nomatch z) (λb u h _ _ e _=>k b u h e) (λb u h _ _ e _=>⟨u.slots,k b u h e⟩) (λb u _ e n=>by rw[ay (f b u e)];exact n)
  (λb u _ e=>?_) (λb xs e=>by rw[ay (aD e d)];exact e) (λb u xs e=>by rw[ay (aD e d)];exact e) (λb ps e=>⟨#[],by rw[ay (aD e d),e];simp⟩) ns (λb u e=>?_) I.bare
 ·by_cases hb:b=X.env.locals
  ·obtain⟨m,j,_⟩:=I.loc
   obtain⟨o',_,_,l,_⟩:=ns m j
   exact⟨o',by rw[hb];exact l⟩
  ·exact⟨u,k b u hb e⟩
 ·by_cases hb:b=a
  ·subst hb;rw[ah] at e;cases e;exact g
  ·rw[ay hb] at e
   refine(I.hok b u e).stay (λc v hc q=>k c v ?_ q) (λc q=>by rw[ay (aD q d)];exact q) λc xs q=>by rw[ay (aD q d)];exact q
   rcases hc with rfl|hc
   ·exact uy _ _ e
   ·exact uy _ _ hc
theorem DH {h:Heap}{a:Addr}{m m':Str->Option Value}(x:h.Ns a m)(y:h.Ns a m'):m=m':=by
 obtain⟨o,es,ep,i,j,_,f⟩:=x
 obtain⟨o',e,d,c,b,_,g⟩:=y
 rw[i] at c;cases c
 rw[j] at b;cases b
 funext n
 rw[<-f,<-g]
abbrev dw (H:Hp) (as:List Addr) (cs:List (List Int)):Prop:=Paired (λa (c:List Int)=>H a=some (.tup (c.map V.int))) as cs
theorem dw.at {as:List Addr}{cs:List (List Int)}{i:Nat}{a:Addr}(h:dw H as cs)(e:as[i]?=some a):∃c,cs[i]?=some c/\H a=some (.tup (c.map V.int)):=A6 h e
theorem dw.same{cs:List (List Int)}(h:dw H as cs)(e:au H H'):dw H' as cs:=Paired.mapP h λ_ _ z=>e _ _ z
open PySem.W in
theorem rO{Q:Bool->Shared->Prop}:∀(c d:List Value) (ns a:List Int) (i:Nat),bH (ns.map V.int) c->bH (a.map V.int) d->fin=decide (ns.length<a.length)->
  Q (HT.lexLt ns a) s->KatLex prog w A b fin Q (c.zip d) i s
 |[],d,ns,a,i,r1,r2,hf,h=>by
  cases ns with
  |cons n r=>cases r1
  |nil=>
   rw[hf]
   cases a with
   |nil=>exact h
   |cons m t=>exact h
 |u::c,[],ns,a,i,r1,r2,hf,h=>by
  cases a with
  |cons m t=>cases r2
  |nil=>
   refine kat_nil ?_
   rw[hf]
   cases ns with
   |nil=>exact h
   |cons m t=>exact h
 |u::c,v::d,ns,a,i,r1,r2,hf,h=>by
  cases ns with
  |nil=>cases r1
  |cons n r=>
   cases a with
   |nil=>cases r2
   |cons m t=>
    cases r1 with
    |cons q1 r1=>
     cases r2 with
     |cons q2 r2=>
      obtain⟨j,rfl⟩:=q1
      obtain⟨g,rfl⟩:=q2
      refine kat_cons (wpAny_eqBool_int ?_)
      rw[HT.lexLt_cons] at h
      refine kat_go (λe=>?_) (λe=>?_)
      ·have f:n=m:=by simpa using e
       rw[if_pos f] at h
       exact kat_yes (rO c d r t (i+1) r1 r2 (by rw[hf];simp) h)
      ·have f:¬n=m:=by simpa using e
       rw[if_neg f] at h
       refine kat_no ?_
       cases(b&&i==0) with
       |true=>exact oneLt_int h
       |false=>exact kat_one _ _ (lt_int h)
abbrev cp (z:Str):List Nat:=z.cps.toList
theorem yz(h:cp x=cp y):x=y:=by
 cases x with|mk a=>cases y with|mk b=>exact congrArg Str.mk (Array.toList_inj.mp h)
theorem dS (z:Str):(cp z).length=z.length:=by simp[Str.length]
theorem uI (x y:Str):cp (x++y)=cp x++cp y:=by
 show(x.cps++y.cps).toList=_
 simp
noncomputable def ME (z:Str):It:=⟨λi _=>i<z.cps.size,λi H x H'=>H'=H/\∃c,(cp z)[i]?=some c/\x=.str ⟨#[c]⟩,λi _=>z.cps.size<=i⟩
theorem HS{it:Addr}{Q:Unit->Shared->Prop}(a:Q () s):wpAny M A (letOwnedTupleGo tg (.ref it) (.str x t)) Q E s:=by
 cases tg<;>exact NH a
theorem By {P:Program}{N:Expr}(z:Str)(t:Tok)(it:Addr):nO P w K N (ME z) [it] it (λi h=>h.IsStrIter it "str_ascii_iterator" z t i) where
 mem:=by simp
 obj:=λi h st b f=>by
  have e:b=it:=by simpa using f
  subst e
  obtain⟨o,e,c,d⟩:=st
  exact⟨o,e,λv z=>by rw[d] at z;cases z⟩
 keep:=λi h h' st k=>by
  obtain⟨o,e,r⟩:=st
  exact⟨o,k it (by simp) o e,r⟩
 item:=by
  intro X B C A l i pins s σ H E I g a p
  subst B C A
  obtain⟨m,n,G,y,x,j⟩:=g it (by simp)
  have W:=Walks.strAscii (prog:=X.prog) (w:=X.w) (I.ok.hd l) it z t
  refine W.item i s _ _ p a λv h' tk O q D=>?_
  obtain⟨c,u,J,rfl⟩:=O
  have M:aM X pins σ H {s with heap:=h',toks:=tk}:=I.turned (λb o f e=>D b o (by simpa using f) e) m n y x j
  exact⟨_,rfl,HS ⟨.str ⟨#[c]⟩,H,M,⟨u,rfl⟩,⟨rfl,c,by rw[<-J];simp,rfl⟩,q,λb f=>(g b f).1⟩⟩
 done:=by
  intro X B C A l i pins s σ H E I g a p
  obtain⟨m,n,G,y,x,j⟩:=g it (by simp)
  exact wpAny_pyNext_ascii_end (I.ok.hd l) a (by have:z.cps.size<=i:=p;simp[this]) λh' F=>⟨rfl,I.turned (t':=s.toks) (λb o f e=>F b o f e) m n y x j⟩
 self:=λ_ _ _ _ _ st h=>wpAny_pyIter_striter_ascii st h
def Mo (a:TE):TI:=λσ H R=>a σ H λx H1=>∃z,x=.str z/\z.cps.all (· <128)=true/\R (ME z) H1
section
variable {tg:Expr}
theorem AE(a:PE X l tl):PI X tg l (Mo tl):=by
 intro pins s σ H R I h
 refine cJ (a pins s σ H _ I h) λv s1 d=>?_
 obtain⟨x,H1,I1,c,g⟩:=d
 obtain⟨z,e,i,q⟩:=g
 subst e
 obtain⟨t,rfl⟩:=c
 refine wpAny_pyIter_ascii i ?_
 refine⟨s1.heap.objs.size,[s1.heap.objs.size],_,_,H1,rfl,I1.kept (t':=s1.toks) λb o e=>NN _ e,By z t _,⟨_,NZ _ rfl,rfl,rfl⟩,λb f=>?_,q⟩
 have e:b=s1.heap.objs.size:=by simpa using f
 subst e
 exact I1.fpOk (NI _) (I1.hok.fresh (NI _))
theorem Df(f:Nat->St->Hp->Prop)(h0:f 0 σ0 (upd H1 D (.lst [])))
  (j:∀i c a H,(cp z)[i]?=some c->f i a H->g (.str ⟨#[c]⟩) a H λd H2=>tt d H2 λb H3=>
   if b=true then te d H3 λv H4=>∃h,H4 D=some (.lst h)/\h.length<sizeLine/\f (i+1) d (upd H4 D (.lst (h++[v]))) else f (i+1) d H3)
  (hd:∀a H,f z.length a H->Q H):Aj σ0 g tt te (ME z) H1 D Q:=by
 refine⟨λi m a H=>m=z.length - i/\i<=z.length/\f i a H,⟨z.length,by simp,N9 _,h0⟩,?_⟩
 rintro i m a H ⟨rfl,hi,p⟩
 by_cases hlt:i<z.length
 ·refine .inr ⟨hlt,f (i+1),λl H' n=>⟨z.length - (i+1),by omega,rfl,hlt,n⟩,λx H' y=>?_⟩
  obtain⟨e,c,o,rfl⟩:=y
  subst e
  exact j i c a _ o p
 ·have e:i=z.length:=by omega
  subst e
  exact .inl ⟨NI _,hd a H p⟩
theorem yB {bs:List Bool}:∀{a:List Value},bH (bs.map V.bl) a->a=bs.map Value.bool:=by
 induction bs with
 |nil=>intro a h;cases h;rfl
 |cons b r ih=>
  intro a h
  cases h with
  |cons q t=>rw[ih t];cases(show _=Value.bool b from q);rfl
theorem zO (bs:List Bool):(List.range bs.length).any (λi=>bs.getD i false)=bs.any id:=by
 have e:(List.range bs.length).map (λi=>bs.getD i false)=bs:=by
  apply List.ext_getElem?
  intro i
  by_cases hi:i<bs.length
  ·simp[hi]
  ·simp[hi]
 conv=>rhs;rw[<-e]
 rw[List.any_map]
 rfl
theorem zE (bs:List Bool):(List.range bs.length).all (λi=>bs.getD i false)=bs.all id:=by
 have e:(List.range bs.length).map (λi=>bs.getD i false)=bs:=by
  apply List.ext_getElem?
  intro i
  by_cases hi:i<bs.length
  ·simp[hi]
  ·simp[hi]
 conv=>rhs;rw[<-e]
 rw[List.all_map]
 rfl
theorem xM (y:X.calm=true):c_ X (.builtin "any") (λxs H Q=>∃(p:Addr) (bs:List Bool),xs=[.ref p]/\bf X.K H p (bs.map V.bl)/\Q (.bl (bs.any id)) H)/\c_ X (.builtin "all") (λxs H Q=>∃(p:Addr) (bs:List Bool),xs=[.ref p]/\bf X.K H p (bs.map V.bl)/\Q (.bl (bs.all id)) H):=by
 constructor
 all_goals
  intro pins s σ H xs C Q I r h
  obtain⟨p,bs,rfl,g,q⟩:=h
  obtain⟨u,rfl,m⟩:=dY r
  cases m
  obtain⟨c,z,d,D⟩:=I.list g
  cases yB z
  have f:(bs.map Value.bool).toArray.size=bs.length:=by simp
  first|refine call_any_walk (Pe d.isList ?_)|refine call_all_walk (Pe d.isList ?_)
  have a:p≠s.heap.objs.size:=by
   obtain⟨o,j,_⟩:=d.isList
   exact NS (NO j)
  refine⟨s.heap.objs.size,_,_,_,_,_,λi=>bs.getD i false,rfl,Walks.list (A:=X.A.in1) (prog:=X.prog) (w:=X.w) (show X.A.in1.handled=none from I.ok.hd y) s.heap.objs.size p a (bs.map Value.bool).toArray,⟨⟨_,NZ _ rfl,rfl,rfl⟩,?_⟩,λi v s' Q' E' B l=>?_,λh' tk n=>?_⟩
  ·exact d.isList.at λo e=>NN _ e
  ·have hi:(bs.map Value.bool).toArray[i]?=some v:=B
   rw[List.getElem?_toArray,Od] at hi
   cases e:bs[i]? with
   |none=>rw[e] at hi;cases hi
   |some b=>
    rw[e] at hi
    cases hi
    refine OV ?_
    have:bs.getD i false=b:=by simp[OJ,e]
    rw[<-this];exact l
  ·first|rw[f,zO]|rw[f,zE]
   refine⟨.bl _,H,I.kept (t':=tk) λb o e=>n b o ?_ (NN _ e),rfl,q⟩
   intro x
   have:b=s.heap.objs.size:=by simpa using x
   exact absurd (NO e) (by rw[this];exact OP _)
theorem nv (a:X.calm=true):c_ X (.builtin "any") (λxs H Q=>∃(p:Addr) (bs:List Bool),xs=[.ref p]/\bf X.K H p (bs.map V.bl)/\Q (.bl (bs.any id)) H):=(xM a).1
theorem AN (a:X.calm=true):c_ X (.builtin "all") (λxs H Q=>∃(p:Addr) (bs:List Bool),xs=[.ref p]/\bf X.K H p (bs.map V.bl)/\Q (.bl (bs.all id)) H):=(xM a).2
theorem b_(b:Gl X x)(h:∃u,X.mg x=some u/\bo v u)(hd:(x==("__debug__" :Str))=false:=by decide):PE X (.Name x pos) (tC v):=by
 obtain⟨u,a,r⟩:=h
 exact wC b a r hd
theorem zR:c_ X (.type "int") (λxs H Q=>∃x n,xs=[.str x]/\PySem.intText? x=some n/\x.length<=640/\Q (.int n) H):=by
 intro pins s σ H xs c Q I r h
 obtain⟨x,n,rfl,a,b,q⟩:=h
 obtain⟨u,rfl,t,rfl⟩:=dY r
 exact PySem.W.KIN.call_text a b ⟨.int n,H,I.tok _,⟨_,rfl⟩,q⟩
end
section
variable {ta tb:TE} {x y:Str} {a b:Bool}
theorem xI (c:Ev ta σ H (.str x))(a:Ev tb σ H (.str y))(b:x.length+y.length<=sizeLine):Ev (gb (λx y H Q=>∃i j,x=.str i/\y=.str j/\i.length+j.length<=sizeLine/\Q (.str (i++j)) H) ta tb) σ H (.str (x++y)):=λ_ q=>c _ (a _ ⟨x,y,rfl,rfl,b,q⟩)
theorem pP(b:Ev ta σ H (.str ⟨#[c]⟩))(a:Ev tb σ H (.str y)):Ev (gb (λx y H Q=>∃i j,x=.str i/\y=.str j/\Q (.bl (!(!(Builtin.Str.occurrences j i 0 j.length 1).isEmpty))) H) ta tb) σ H (.bl (!decide (c∈cp y))):=λQ q=>b _ (a _ ⟨_,y,rfl,rfl,by rw[PySem.StrLaws.found_one];exact q⟩)
theorem CP(b:Ev ta σ H (.str ⟨#[c]⟩))(a:Ev tb σ H (.str y)):Ev (gb (λx y H Q=>∃i j,x=.str i/\y=.str j/\Q (.bl (!(Builtin.Str.occurrences j i 0 j.length 1).isEmpty)) H) ta tb) σ H (.bl (decide (c∈cp y))):=λQ q=>b _ (a _ ⟨_,y,rfl,rfl,by rw[PySem.StrLaws.found_one];exact q⟩)
theorem lD (a:Ev ta σ H (.str x))(b:Ev tb σ H (.str y)):Ev (gb JX ta tb) σ H (.bl (decide (x=y))):=λQ q=>a _ (b _ ⟨rfl,by
 have e:decide (V.str x=V.str y)=decide (x=y):=by
  rcases Decidable.em (x=y) with h|h
  ·rw[h,decide_eq_true rfl,decide_eq_true rfl]
  ·rw[decide_eq_false h,decide_eq_false λz=>h (V.str.inj z)]
 rw[e];exact q⟩)
theorem ev_neS (a:Ev ta σ H (.str x))(b:Ev tb σ H (.str y)):Ev (gb KB ta tb) σ H (.bl (!decide (x=y))):=λQ q=>a _ (b _ ⟨rfl,by
 have e:decide (V.str x=V.str y)=decide (x=y):=by
  rcases Decidable.em (x=y) with h|h
  ·rw[h,decide_eq_true rfl,decide_eq_true rfl]
  ·rw[decide_eq_false h,decide_eq_false λz=>h (V.str.inj z)]
 rw[e];exact q⟩)
theorem vL(d:Ev ta σ H (.str x))(e:Ev tb σ H (.int i))(a:x.length<=sizeLine)(b:oN (cp x) i=some c):Ev (gb K3 ta tb) σ H (.str ⟨#[c]⟩):=λ_ q=>d _ (e _ ⟨x,i,c,rfl,rfl,a,b,q⟩)
theorem mf (b:Ev ta σ H (.str x))(a:x.length<=sizeLine):Ev (xS (λxs H Q=>∃x n,xs=[x]/\EN K x H n/\Q (.int n) H) (b9 ta dv)) σ H (.int (x.length:Nat)):=λ_ q=>b _ ⟨_,_,rfl,⟨a,rfl⟩,q⟩
end
theorem BN {ts:List Str}:∀{a:List Value},bH (ts.map V.str) a->∃l:List (Str×Tok),a=strValues l/\l.map (·.1)=ts:=by
 induction ts with
 |nil=>intro a h;cases h;exact⟨[],rfl,rfl⟩
 |cons t r ih=>
  intro a h
  cases h with
  |cons q s=>
   obtain⟨tk,rfl⟩:=q
   obtain⟨l,rfl,e⟩:=ih s
   exact⟨(t,tk)::l,rfl,by rw[NQ,e]⟩
theorem o_:∀l:List (Str×Tok),bH ((l.map (·.1)).map V.str) (strValues l)
 |[]=> .nil
 |(x,t)::r=> .cons ⟨t,rfl⟩ (o_ r)
theorem nR:JN X "str.split" (λx vs H Q=>∃z y,x=.str z/\vs=[.str y]/\0<y.length/\z.length+2<=sizeLine/\∀l,H l=none->Q (.ref l) (upd H l (.lst ((Txt.split z y).map V.str)))):=by
 intro pins s σ H x xs v B Q I i r h
 obtain⟨z,y,rfl,rfl,C,d,q⟩:=h
 obtain⟨t,rfl⟩:=i
 obtain⟨u,rfl,w,rfl⟩:=dY r
 obtain⟨m,g,_⟩:=id I.loc
 have f:s.heap.get? s.heap.objs.size=none:=O6 (NI _)
 refine splitN1 (h₀:=Att.noObjs s.heap) (L:=X.env.locals) (m:=m) (news:=iS (Att.noObjs s.heap) s.heap X.env.locals) (Att.fr_all g) rZ (beq_eq_false_iff_ne.mpr (by lia)) (λl h' k e F' N'=>?_) d
 refine⟨.ref s.heap.objs.size,_,I.laidN (t':=k) (a:=s.heap.objs.size) (o:=.lst ((Txt.split z y).map V.str)) (λb A n p=>(N' (b,A) (NV _ (lI n (Att.noObjs_get _ _) p))).1) (λj c=>?_) f ?_,rfl,q _ (I.hok.none_of f)⟩
 ·have:j=m:=DH c g
  rw[this];exact F'.ns
 ·refine⟨?_,_,0,?_,(N' (s.heap.objs.size,_) N7).1⟩
  ·rw[NG];exact NP (split_le z y) d
  ·rw[<-e];exact o_ l
theorem Fz:JN X "str.join" (λx vs H Q=>∃z p ts,x=.str z/\vs=[.ref p]/\bf X.K H p (ts.map V.str)/\JoinOk z ts=true/\Q (.str (Txt.join z ts)) H):=by
 intro pins s σ H x xs v n Q I c d h
 obtain⟨z,p,ts,rfl,rfl,f,a,q⟩:=h
 obtain⟨t,rfl⟩:=c
 obtain⟨u,rfl,j⟩:=dY d
 cases j
 obtain⟨b,m,g,o⟩:=I.list f
 obtain⟨l,rfl,e⟩:=BN m
 exact SC.join g.isList e a λi k=>⟨.str _,H,I.tok _,⟨i,rfl⟩,q⟩
theorem rB:JN X "str.partition" (λx vs H Q=>∃z y,x=.str z/\vs=[.str y]/\0<y.length/\z.length<=sizeLine/\∀l,H l=none->Q (.ref l) (upd H l (.tup [.str (Txt.partition z y).1,.str (Txt.partition z y).2.1,.str (Txt.partition z y).2.2]))):=by
 intro pins s σ H x xs v A Q I f p h
 obtain⟨z,y,rfl,rfl,B,g,q⟩:=h
 obtain⟨t,rfl⟩:=f
 obtain⟨u,rfl,r,rfl⟩:=dY p
 obtain⟨m,e,_⟩:=id I.loc
 have d:s.heap.get? s.heap.objs.size=none:=O6 (NI _)
 refine partitionN (h₀:=Att.noObjs s.heap) (L:=X.env.locals) (m:=m) (news:=iS (Att.noObjs s.heap) s.heap X.env.locals) (Att.fr_all e) rZ (beq_eq_false_iff_ne.mpr (by lia)) (λta tb tc h' k F' N'=>?_) g
 refine⟨.ref s.heap.objs.size,_,I.laidN (t':=k) (a:=s.heap.objs.size) (o:=.tup _) (λb w j n=>(N' (b,w) (NV _ (lI j (Att.noObjs_get _ _) n))).1) (λi c=>?_) d ?_,rfl,q _ (I.hok.none_of d)⟩
 ·have:i=m:=DH c e
  rw[this];exact F'.ns
 ·exact⟨by show 3<=sizeLine;decide,_,.cons ⟨ta,rfl⟩ (.cons ⟨tb,rfl⟩ (.cons ⟨tc,rfl⟩ .nil)),_,(N' (s.heap.objs.size,_) N7).1,rfl,_,rfl⟩
noncomputable def jl (c:Nat):List (List Nat)->List Nat
 |[]=>[]
 |[p]=>p
 |p::q::r=>p++c::jl c (q::r)
theorem d_{r:List (List Nat)}(h:r≠[]):jl c (p::r)=p++c::jl c r:=by
 cases r with
 |nil=>exact absurd rfl h
 |cons q t=>rfl
theorem HP:∀{P R:List (List Nat)},P≠[]->R≠[]->(∀p∈P,c∉p)->(∀p∈R,c∉p)->jl c P=jl c R->P=R:=by
 have g:∀{a b x y:List Nat},c∉a->c∉b->a++c::x=b++c::y->a=b/\x=y:=by
  intro a
  induction a with
  |nil=>
   intro b x y _ s e
   cases b with
   |nil=>exact⟨rfl,(List.cons.inj e).2⟩
   |cons d t=>
    have:=(List.cons.inj e).1
    exact absurd (by rw[this];exact N7) s
  |cons d t ih=>
   intro b x y j s e
   cases b with
   |nil=>
    have:=(List.cons.inj e).1
    exact absurd (by rw[<-this];exact N7) j
   |cons d' t'=>
    obtain⟨n,o⟩:=List.cons.inj e
    obtain⟨h1,h2⟩:=ih (λz=>j (NV _ z)) (λz=>s (NV _ z)) o
    exact⟨by rw[n,h1],h2⟩
 have f:∀{a b x:List Nat},c∉a->a≠b++c::x:=λj e=>j (by rw[e];simp)
 intro P
 induction P with
 |nil=>intro R h;exact absurd rfl h
 |cons p r ih=>
  intro R _ u m i e
  cases R with
  |nil=>exact absurd rfl u
  |cons q t=>
   by_cases h1:r=[]<;>by_cases h2:t=[]
   ·subst h1;subst h2
    rw[show p=q from e]
   ·subst h1
    rw[d_ h2] at e
    exact absurd e (f (m p N7))
   ·subst h2
    rw[d_ h1] at e
    exact absurd e.symm (f (i q N7))
   ·rw[d_ h1,d_ h2] at e
    obtain⟨n,o⟩:=g (m p N7) (i q N7) e
    rw[n,ih h1 h2 (λx l=>m x (NV _ l)) (λx l=>i x (NV _ l)) o]
theorem ub (c:Nat):∀ts:List Str,cp (Str.join ⟨#[c]⟩ ts)=jl c (ts.map cp)
 |[]=>by unfold Str.join;rfl
 |[x]=>by unfold Str.join;rfl
 |x::y::r=>by
  have a:=ub c (y::r)
  rw[NQ,d_ (by simp),<-a]
  show cp (x++(⟨#[c]⟩:Str)++Str.join ⟨#[c]⟩ (y::r))=_
  rw[uI,uI,Pq]
  rfl
theorem sO (x:Str)(c:Nat){P:List (List Nat)}(h:P≠[])(hf:∀p∈P,c∉p)(e:cp x=jl c P):(Txt.split x ⟨#[c]⟩).map cp=P:=by
 have a:(Txt.split x ⟨#[c]⟩)≠[]:=λz=>by have:=split_pos x ⟨#[c]⟩;rw[z] at this;simp at this
 refine HP (c:=c) (by simpa using a) h (λp b=>?_) hf ?_
 ·obtain⟨y,d,rfl⟩:=N0.mp b
  exact PySem.StrLaws.split_free x c y d
 ·rw[<-ub,PySem.StrLaws.join_split,e]
theorem rP (c:Nat)(e:List Str):cp (Txt.join ⟨#[c]⟩ e)=jl c (e.map cp):=by
 have b:∀(r:List Str) (d:Array Nat),(r.foldl (λd p=>d++(⟨#[c]⟩:Str).cps++p.cps) d).toList=d.toList++(r.flatMap λp=>c::cp p):=by
  intro r
  induction r with
  |nil=>intro d;simp
  |cons y t ih=>
   intro d
   rw[List.foldl_cons,ih]
   simp
 have a:∀(r:List Str) (x:List Nat),x++(r.flatMap λp=>c::cp p)=jl c (x::r.map cp):=by
  intro r
  induction r with
  |nil=>intro x;simp[jl]
  |cons y t ih=>
   intro x
   rw[NQ,d_ (by simp),<-ih,List.flatMap_cons]
   simp
 cases e with
 |nil=>rfl
 |cons x r=>
  show((r.foldl (λd p=>d++(⟨#[c]⟩:Str).cps++p.cps) x.cps)).toList=_
  rw[b]
  exact a r (cp x)
section
open AutoSeq1 (wpAny_loadPart')
theorem Bj{rest:List Value}{b:List (Str×Value)}(f:typeLookup (.type T) "__init__" =pure (some (.builtin "object.__init__")))
  (g:Bind.madeBy (.type T)=pure (some newId)) (d:(some newId !=some "object.__new__")=true):
  Meets (Builtin.«object.__init__» ⟨self::a::rest,b⟩) (λ_ R s=>s.TypeIs self T/\R (.ok (.ret .none)) s):=by
 refine Meets.of_wp λprog w A R s e=>?_
 obtain⟨h,c⟩:=e
 repeat (any_goals (first|assumption|wp_step))
 exact⟨_,rfl,c⟩
theorem zl{Bn:Builtin}{u:List (Str×Value)}{S:PySem.Spec}(o:TypeCalled T newId "object.__init__")
  (y:(some newId !=some "object.__new__")=true) (G:checkTypeCall T ⟨a::args,u⟩=pure ()) (z:checkBuiltinCall newId ⟨.type T::a::args,u⟩=pure ())
  (B:∀n,argsOk "object.__init__" ⟨n::a::args,u⟩) (p:entryFor table newId=some Bn) (g:Meets (Bn ⟨.type T::a::args,u⟩) S)
  (h:S A.in1 (wants (λn m=>m.TypeIs n T/\Q n m) E) s):wpAny (model prog w) A (call (.type T) (a::args) u) Q E s:=by
 obtain⟨c,tl,d⟩:=o.mro
 have b:=o.made
 have f:=o.sub
 refine OS (codeAny_of_tree ?_)
 refine NH ⟨Code.quiet_builtin _ (by decide+kernel),codeAny_builtin F.entry_type_call ?_⟩
 have h1:=o.notType
 have h2:=o.canCreate
 repeat (any_goals (first|assumption|wp_step))
 refine codeAny_mono (codeAny_call_builtin o.plain p (wpAny_of_eq z (g prog w A.in1 _ s h))) λr m x=>?_
 match r,x with
 | .error e,x=>exact x
 | .ok (.ret n),x=>
  obtain⟨D,C⟩:=x
  have i:=o.init.lookup
  have j:=o.init.bind n
  repeat (any_goals (first|assumption|wp_step))
  refine codeAny_mono (codeAny_call_builtin o.init.plain F.entry_object_init (o.init.check _ _ _ _ _ _ _ _ D (B n) (Bj o.init.lookup o.made y prog w A.in1 _ m ⟨D,(show wants (λr q=>r=.none/\Q n q) E (.ok (.ret .none)) m from⟨rfl,C⟩)⟩))) λv q l=>?_
  match v,l with
  | .error e,l=>exact l
  | .ok (.ret r),l=>
   obtain⟨rfl,C⟩:=l
   repeat (any_goals (first|assumption|wp_step))
set_option tactic.hygienic true in
theorem zH (l:Addr)(items:Array Value)(n:Nat)(b:Option Addr)(j:Array (Option Value))(t:Tok):
  Meets (Builtin.«enumerate.__new__» ⟨[.type "enumerate",.ref l],[("start",.int 1 t)]⟩) (λ_ R s=>s.heap.get? l=some {cls:=.type "list",dict:=b,data:=.seq items n,slots:=j}/\
   R (.ok (.ret (.ref (s.heap.push {cls:=.type "list_iterator",data:=.fields #[.ref l,.int 0 0]}).objs.size)))
    {s with heap:=(s.heap.push {cls:=.type "list_iterator",data:=.fields #[.ref l,.int 0 0]}).push {cls:=.type "enumerate",data:=.fields #[.none,.bool false,.ref s.heap.objs.size,rawInt 1,.none,.none]}}):=
 .of_wp λprog w A R s h=>by
  obtain⟨i,g,d,tk,os⟩:=s;obtain⟨a,h⟩:=h
  have f:=sub_enumerate
  have e:Heap.IsList (Shared.heap ⟨i,g,d,tk,os⟩) l items:=⟨_,a,rfl,n,rfl⟩
  wp_walk using wpAny_loadPart' a
  refine wpAny_stack_any λst=>NH ?_
  split
  ·rename_i c _ _ _ _ _
   cases(c==Value.type "enumerate")
   ·wp_walk using wpAny_loadPart' a,Pe e
    exact⟨_,rfl,h⟩
   ·wp_walk using wpAny_loadPart' a,Pe e
    exact⟨_,rfl,h⟩
  ·wp_walk using wpAny_loadPart' a,Pe e
   exact⟨_,rfl,h⟩
theorem vT(i:s.heap.IsList l items)
  (h:∀h',IsEnum h' (s.heap.objs.size+1) s.heap.objs.size 1 .none->h'.IsListIter s.heap.objs.size l 0->
   (∀b o,s.heap.get? b=some o->h'.get? b=some o)->Q (.ref (s.heap.objs.size+1)) {s with heap:=h'}):
  wpAny (model prog w) A (call (.type "enumerate") [.ref l] [("start",.int 1 t)]) Q E s:=by
 obtain⟨⟨c,a,q,p⟩,f,j,n,m⟩:=i
 subst j m
 refine zl F.called_enumerate (by decide) (by kernel_rfl) (by kernel_rfl) (λg=>by kernel_rfl) F.entry_enumerate_new (zH l items n a p t) ⟨f,?_⟩
 have e:(s.heap.push {cls:=.type "list_iterator",data:=.fields #[.ref l,.int 0 0]}).objs.size=s.heap.objs.size+1:=OH ..
 rw[e]
 have d:IsEnum ((s.heap.push {cls:=.type "list_iterator",data:=.fields #[.ref l,.int 0 0]}).push
   {cls:=.type "enumerate",data:=.fields #[.none,.bool false,.ref s.heap.objs.size,rawInt 1,.none,.none]}) (s.heap.objs.size+1) s.heap.objs.size 1 .none:=by
  rw[<-e];exact NZ _ rfl
 exact⟨⟨_,d,rfl⟩,h _ d ⟨_,NN _ (NZ _ rfl),rfl,rfl⟩ λb o x=>NN _ (NN _ x)⟩
theorem A2 (c:Nat){it:Addr}{fp:List Addr}{n:Nat}{P:Nat->Value->Prop}{St:Nat->Heap->Prop}(D:Draws prog w A it fp n P St):
  Draws prog w A it fp (n+c) (λj v=>∃i,j=i+c/\P i v) (λj h=>∃i,j=i+c/\St i h) where
 live:=λj h ⟨i,_,st⟩=>D.live i h st
 frame:=λj h h' ⟨i,e,st⟩ k=>⟨i,e,D.frame i h h' st k⟩
 item:=λj s Q E g ⟨i,e,st⟩ f=>by
  subst e
  exact D.item i s Q E (by lia) st λx h' tk p a sb=>f x h' tk ⟨i,rfl,p⟩ ⟨i+1,by lia,a⟩ sb
 done:=λs Q E ⟨i,e,st⟩ d=>by
  have b:n=i:=by lia
  subst b
  exact D.done s Q E st d
theorem aM.turnedLaid {h':Heap}{t':Nat}{a:Addr}{o:HO}{fp:List Addr}(I:aM X pins σ H s)(hf:∀b∈fp,jT X pins H b)
  (k:∀b u,b∉fp->s.heap.get? b=some u->h'.get? b=some u) (i:s.heap.get? a=none) (h:cg X.prog X.w (upd H a o) h' a o):aM X pins σ (upd H a o) {s with heap:=h',toks:=t'}:=by
 have d:H a=none:=I.hok.none_of i
 have uy:∀b u,H b=some u->b∉fp:=λb u e z=>by rw[(hf b z).1] at e;cases e
 have f:∀b u,s.heap.get? b=some u->b≠a:=λb u e z=>by rw[z,i] at e;cases e
 refine I.step (g':=s.gens) (d':=s.drawn) (ch:=fp) (λb g=>⟨(hf b g).2.2.2.1,(hf b g).2.1,(hf b g).2.2.2.2.1,(hf b g).2.2.2.2.2⟩) (λb u _ _ hc e _=>k b u hc e) (λb u _ _ hc e _=>⟨u.slots,k b u hc e⟩) (λb u _ e n=>by rw[ay (f b u e)];exact n)
  (λb u hc e=>⟨u,k b u hc e⟩) (λb xs e=>by rw[ay (aD e d)];exact e) (λb u xs e=>by rw[ay (aD e d)];exact e) (λb ps e=>⟨#[],by rw[ay (aD e d),e];simp⟩) (λm j=>?_) (λb u e=>?_) I.bare
 ·obtain⟨o',es,ep,l,r⟩:=j
  exact⟨o',es,ep,k _ o' (λz=>(hf _ z).2.1 rfl) l,r⟩
 ·by_cases g:b=a
  ·subst g;rw[ah] at e;cases e;exact h
  ·rw[ay g] at e
   refine(I.hok b u e).stay (λc v hc q=>k c v ?_ q) (λc q=>by rw[ay (aD q d)];exact q) λc xs q=>by rw[ay (aD q d)];exact q
   rcases hc with rfl|hc
   ·exact uy _ _ e
   ·exact uy _ _ hc
noncomputable def Jj (c:Nat) (K:NJ) (a:Addr):It:=
 ⟨λi H=>∃xs x,bf K H a xs/\xs[i]?=some x,λi H x H'=>∃p y,H p=none/\x=.ref p/\H'=upd H p (.tup [.int ((i+c:Nat):Int),y])/\∀xs,bf K H a xs->xs[i]?=some y,λi H=>∃xs,bf K H a xs/\xs.length<=i⟩
theorem oW (c:Nat){P:Program}{ai:List Expr}{x1:Nat}{a6:Pos}(a e it:Addr)(ad:e≠it):nO P w K (.Tuple ai x1 a6) (Jj c K a) [e,it] e (λi h=>(∃Y,IsEnum h e it ((i+c:Nat):Int) Y)/\h.IsListIter it a i) where
 mem:=by simp
 obj:=λi h st b hb=>by
  obtain⟨⟨Y,Z⟩,o,ho,hc,hd⟩:=st
  rcases NK.mp hb with rfl|hb
  ·exact⟨_,Z,λv z=>by
    have z':Data.fields _=Data.cell v:=z
    cases z'⟩
  ·rw[NR.mp hb]
   exact⟨o,ho,λv z=>by rw[hd] at z;cases z⟩
 keep:=λi h h' ⟨⟨Y,Z⟩,st⟩ k=>⟨⟨Y,k e (by simp) _ Z⟩,st.at λo q=>k it (by simp) o q⟩
 item:=by
  intro X hP hw hK hc i pins s σ H E I hf st hg
  subst hP hw hK
  obtain⟨xs,x,hq,hx⟩:=hg
  obtain⟨⟨Y,Z⟩,hit⟩:=st
  obtain⟨d,rv,p,hz⟩:=I.list hq
  obtain⟨u,hu,ru⟩:=rv.get hx
  have hl:s.heap.IsList a d.toArray:=p.isList
  obtain⟨ol,f,g,_⟩:=id hl
  obtain⟨oi,n,R,_⟩:=id hit
  have M:a≠it:=λz=>by
   rw[z,n] at f;cases f
   rw[R] at g;exact absurd g (by decide)
  have J:a≠e:=λz=>by
   rw[z,Z] at f;cases f
   exact absurd (show Value.type "enumerate" =Value.type "list" from g) (by decide)
  have D:=A2 c (Draws.list (prog:=X.prog) (w:=X.w) (A:=X.A.in1) (I.ok.hd hc) it a M d.toArray)
  have U:i<d.length:=(Ov.mp hu).1
  have l:e<s.heap.objs.size:=NO Z
  have G:it<s.heap.objs.size:=NO n
  have nT:s.heap.get? s.heap.objs.size=none:=O6 (NI _)
  refine wpAny_pyNext_enum_itemD D Z ⟨i,rfl,hit,hl⟩ (by simp;lia) ad (by simp[ad,N6 J]) λx' h' tk hP ho a2 hT bv hk=>⟨_,rfl,?_⟩
  refine wpAny_letOwnedTupleGo_enum (s:={s with heap:=h',toks:=tk+1}) ho λh2 a4 sb=>?_
  obtain⟨i',ei,r⟩:=hP
  have S:i'=i:=by lia
  subst S
  have eu:x'=u:=by
   have:d.toArray[i']?=some u:=by simpa using hu
   rw[this] at r;exact(Option.some.inj r).symm
  subst eu
  obtain⟨j,ej,Q⟩:=a2
  have N:j=i'+1:=by lia
  subst N
  have C:h2.get? s.heap.objs.size=some {cls:=.type "tuple",data:=.seq #[.int ((i'+c:Nat):Int) tk,x']}:=(sb.2 _ (O7 l)).trans hT
  refine⟨.ref s.heap.objs.size,upd H s.heap.objs.size (.tup [.int ((i'+c:Nat):Int),x]),aM.turnedLaid (s:=s) (h':=h2) (fp:=[e,it]) (t':=tk+1) I hf (λb v hb q=>?_) nT ?_,rfl,⟨_,x,I.hok.none_of nT,rfl,rfl,λys hy=>by rw[I.list_inj hy hq];exact hx⟩,⟨⟨x',?_⟩,?_⟩,λb hb=>?_⟩
  ·have m:b≠e:=λz=>hb (by simp[z])
   exact(sb.2 b m).trans (hk b v m (λz=>hb (by simp[z])) q)
  ·exact⟨by show 2<=sizeLine;decide,_,.cons ⟨tk,rfl⟩ (.cons ru .nil),_,C,rfl,_,rfl⟩
  ·have:((i'+1+c:Nat):Int)=((i'+c:Nat):Int)+1:=by lia
   rw[this];exact a4
  ·exact Q.1.at λo q=>(sb.2 it (N6 ad)).trans q
  ·have O:b<s.heap.objs.size:=by
    rcases NK.mp hb with rfl|hb
    ·exact l
    ·rw[NR.mp hb];exact G
   rw[ay (NS O)];exact(hf b hb).1
 done:=by
  intro X hP hw hK hc i pins s σ H E I hf st hg
  subst hP hw hK
  obtain⟨xs,hq,hx⟩:=hg
  obtain⟨⟨Y,Z⟩,hit⟩:=st
  obtain⟨d,rv,p,hz⟩:=I.list hq
  have W:=rv.length
  have hl:s.heap.IsList a d.toArray:=p.isList
  have hT:s.TypeIs (.ref e) "enumerate" :=⟨_,Z,rfl⟩
  obtain⟨f0,f1,f2,f3,f4,f5⟩:=hf it (by simp)
  refine ND (ON (O9 (name:=Str.ofString "__next__") hT F.slot_enumerate_next
   (OG F.slot_enumerate_next hT F.entry_enumerate_next ?_ (F.args_enumerate_next_1 _))))
  show wpAny _ _ (field (.ref e) 2>>=_) _ _ _
  refine ND (Oq Z rfl (x:=.ref it) rfl ?_)
  refine ND (wpAny_nextOf_list_end (I.ok.hd hc) hit hl (by simp;lia) λh' y eb hy=>?_)
  obtain⟨o,ho,B⟩:=hy
  refine ND (PM (T:= "StopIteration") (b:=true) ⟨o,ho,B⟩ isSubtype_stop ?_)
  exact NH ⟨rfl,I.turned (t':=s.toks) (λb o hb e=>eb b o hb e) f0 f1 f3 f4 f5⟩
 self:=λ_ _ _ _ _ ⟨⟨_,Z⟩,_⟩ h=>wpAny_pyIter_enum Z h
def Kr (K:NJ) (b:TA):TI:=λσ H R=>b σ H λvs H1=>∃a,vs=[.ref a]/\(∃xs,bf K H1 a xs)/\R (Jj 1 K a) H1
theorem jq{c:List (Bool×Sem Value)}{b:List (Option Str×Sem Value)}
  (d:c.any (·.1)=false) (g:b.any (·.1.isNone)=false)
  (h:wpAny M A (evalArgs (.type T) true c b) (λa e=>wpAny M A (call (.type T) a.pos a.kw) Q E e) E s):
  wpAny M A (callWith pos (.type T) [] c b) Q E s:=by
 refine ND (Oe (On h (λa e f=>ND (PV ?_)) λ_ _ x=>x))
 simp only[d,g,Bool.or_false]
 refine ND (NH ?_)
 exact ND (On f (λr i j=>ND (Oe (wpAny_point (NH j)))) λ_ _ x=>x)
theorem C_(C:Gl X "enumerate")(B:X.mg "enumerate" =none)(F:bootBuiltins "enumerate" =some (.type "enumerate"))(j:PA X [l] ta)
  (r:starEach [l] X.env=[(false,eval l X.env)]:=by rfl):
  PI X (.Tuple elts x1 pt) (.Call (.Name "enumerate" p) [l] [⟨some "start",.Constant (.int 1) k pc,kp⟩] pos) (Kr X.K ta):=by
 intro pins s σ H R I h
 refine Pj (ig I C B F ?_ (by decide) (by decide))
 have d:=j pos pins s σ H _ I h
 rw[r] at d|-
 refine jq rfl rfl (evalArgs_kwB (rest:=[]) rfl (cJ d λG s1 i=>?_))
 obtain⟨vs,H1,I1,n,E⟩:=i
 obtain⟨a,rfl,⟨xs,A⟩,q⟩:=E
 obtain⟨u,rfl,y⟩:=dY n
 cases y
 refine kws_cons (cJ (ae pins s1 σ H1 (λv H'=>v=.int 1/\H'=H1) I1 ⟨rfl,rfl⟩) λv s2 i=>?_)
 obtain⟨x,H2,I2,m,z,o⟩:=i
 subst z o
 obtain⟨t,rfl⟩:=m
 refine kws_nil ?_
 obtain⟨e,M,D,J⟩:=I2.list A
 refine vT D.isList λh' g f w=>?_
 refine wpAny_pyIter_enum (s:={s2 with heap:=h'}) g ?_
 refine⟨s2.heap.objs.size+1,[s2.heap.objs.size+1,s2.heap.objs.size],_,_,H2,rfl,I2.kept (t':=s2.toks) w,oW 1 a _ _ (Nat.succ_ne_self _),⟨⟨_,g⟩,f⟩,λb hb=>?_,q⟩
 have c:s2.heap.objs.size<=b:=by
  rcases NK.mp hb with rfl|hb
  ·exact Nat.le_succ _
  ·rw[NR.mp hb];exact NI _
 exact I2.fpOk c (I2.hok.fresh c)
theorem Dl {a:Addr}{xs:List V}{j:St}{g:TG}{l:TT}{o:TE}{n:Hp}{D:Addr}{Q:Hp->Prop}(f:Nat->St->Hp->Prop)(h0:f 0 j (upd n D (.lst [])))
  (s:∀i c H,i<=xs.length->f i c H->bf K H a xs)
  (u:∀i y p c H,xs[i]?=some y->f i c H->H p=none->g (.ref p) c (upd H p (.tup [.int ((i+1:Nat):Int),y])) λd H2=>l d H2 λb H3=>
   if b=true then o d H3 λv H4=>∃h,H4 D=some (.lst h)/\h.length<sizeLine/\f (i+1) d (upd H4 D (.lst (h++[v]))) else f (i+1) d H3)
  (hd:∀c H,f xs.length c H->Q H):Aj j g l o (Jj 1 K a) n D Q:=by
 refine⟨λi m c H=>m=xs.length - i/\i<=xs.length/\f i c H,⟨xs.length,by simp,N9 _,h0⟩,?_⟩
 rintro i m c H ⟨rfl,hi,p⟩
 have q:=s i c H hi p
 by_cases hlt:i<xs.length
 ·refine .inr ⟨⟨xs,xs[i],q,by simp[hlt]⟩,f (i+1),λA H' B=>⟨xs.length - (i+1),by omega,rfl,hlt,B⟩,λx H' y=>?_⟩
  obtain⟨P,z,r,rfl,rfl,w⟩:=y
  exact u i z P c _ (w xs q) p r
 ·have e:i=xs.length:=by omega
  subst e
  exact .inl ⟨⟨xs,q,NI _⟩,hd c H p⟩
theorem zr (e:X.K=K):c_ X (.builtin "len") (λxs H Q=>∃x n,xs=[x]/\EN K x H n/\Q (.int n) H):=by subst e;exact bS
theorem iW {b:Pos}{es:List Expr}{k:Nat}{t:JK}{n:Nat}(d:X.calm=true)(e:X.K=K)(h:J_ X es t)
  (c:(assignEach es X.env).length=n) (a:(assignEach es X.env).findIdx? (·.1)=none):PG X (.Tuple es k b) (Hr K n t):=by subst e;exact eF d h c a
end
noncomputable def res:List (Bool×Bool)->Bool->Bool
 |[],z=>z
 |(true,_)::r,z=>res r z
 |(false,b)::_,_=>b
def Nn (K:NJ) (H:Hp) (kd:Bool) (m:V) (l:List Int):Prop:=
 (kd=false/\∃i,m=.int i/\l=[i])\/(kd=true/\∃b i j,m=.ref b/\bY K H b [.int i,.int j]/\l=[i,j])
def Pr (K:NJ) (H:Hp) (kd:Bool) (v:V) (k:List Int):Prop:=∃a p m l,v=.ref a/\bY K H a [.int p,m]/\Nn K H kd m l/\k=p::l
theorem j7 {b:Type}(f:b->Int)(c:Int):∀(l:List b),(l.map f).Nodup->(l.filter λx=>f x==c).length<=1
 |[],_=>by simp
 |a::r,h=>by
  rw[NQ,OT] at h
  have g:=j7 f c r h.2
  by_cases e:f a=c
  ·have z:(r.filter λx=>f x==c)=[]:=by
    refine List.filter_eq_nil_iff.mpr λx d q=>h.1 ?_
    rw[e]
    exact N0.mpr ⟨x,d,by simpa using q⟩
   rw[List.filter_cons_of_pos (p:=λx=>f x==c) (by simpa using e),z]
   exact NI _
  ·rw[List.filter_cons_of_neg (p:=λx=>f x==c) (by simpa using e)]
   exact g
theorem zB{Q:Bool->Shared->Prop}(a:s.TypeIs (.ref b) "tuple")(h:Q false s):wpAny (model prog w) A (Builtin.Dict.quietEq (.ref b)) Q E s:=by
 refine ND (wpAny_specialOf a F.slot_tuple_eq.lookup (NH ?_))
 exact h
theorem rJ {id:String}{d:Addr}{o:Obj}{es:Array DictEntry}{n:Nat}{Q:Array DictEntry->Shared->Prop}(l:s.heap.get? d=some o)(hd:o.data=.dict es n)
  (m:∀e∈es,∃b,e.key=.ref b/\s.TypeIs (.ref b) "tuple") (c:(es.toList.map (·.hash)).Nodup) (h:Q es s):wpAny (model prog w) A (Builtin.Dict.entriesForEmpty id d) Q E s:=by
 refine ND (O_ l hd (ND ?_))
 rw[<-Array.forIn_toList]
 refine wpAny_forIn_list _ (λrest _ s'=>s'=s/\∀e∈rest,e∈es) _ ?_ ?_ _ _ ⟨rfl,λe j=>Pf.mp j⟩
 ·rintro e rest u s' ⟨rfl,a⟩
  obtain⟨b,i,g⟩:=m e (a e N7)
  rw[i]
  refine ND (zB g ?_)
  have one:¬(es.filter (·.hash==e.hash)).size>1:=by
   have:=j7 (λx:DictEntry=>x.hash) e.hash es.toList c
   rw[<-OW,Array.toList_filter]
   omega
  rw[if_neg one]
  exact NH ⟨rfl,λx f=>a x (NV _ f)⟩
 ·rintro u s' ⟨rfl,_⟩
  exact NH h
theorem yA{Q:Unit->Shared->Prop}(j:d≠o)(l:(o==sysModules)=false)
  (hd:s.heap.get? d=some od) (g:od.ExactDict) (c:od.data=.dict #[] ep') (i:s.heap.get? o=some oo) (f:oo.data=.dict es ep)
  (n:∀e∈es,∃b,e.key=.ref b/\s.TypeIs (.ref b) "tuple") (q:(es.toList.map (·.hash)).Nodup) (v:es.size<=sizeLine)
  (p:∀h',(∃o' h,h'.get? d=some o'/\o'.ExactDict/\o'.data=.dict es h)->Heap.SameBut d s.heap h'->Q () {s with heap:=h'}):
  wpAny (model prog w) A (Builtin.Dict.mergeDict nm d o) Q E s:=by
 unfold Builtin.Dict.mergeDict
 rw[if_neg (by simpa using j)]
 unfold Builtin.Dict.showsAll
 rw[if_neg (by rw[l];exact NY)]
 refine ND (NH (ND (O_ i f ?_)))
 by_cases he:es= #[]
 ·subst he
  rw[if_neg (by simp)]
  refine ND (P4 i f (ND (O_ i f (ND ?_))))
  rw[Std.Legacy.Range.forIn_eq_forIn_range']
  exact NH (NH (p s.heap ⟨od,ep',hd,g,c⟩ (Heap.SameBut.refl _ _)))
 ·have a:(decide (es.size<=8)&&es.all λe=>(keyPart e.key).isSome)=false:=by
   rw[Bool.and_eq_false_iff]
   refine .inr (Bool.eq_false_iff.mpr λz=>he ?_)
   rw[<-Array.all_toList,Oa] at z
   refine Array.eq_empty_of_size_eq_zero (Nat.eq_zero_of_not_pos λu=>?_)
   have m:es[0]∈es:=Array.getElem_mem u
   obtain⟨b,r,_⟩:=n _ m
   have y:=z _ (Pf.mpr m)
   rw[r] at y
   exact absurd y NY
  rw[a]
  refine ND (O_ hd c ?_)
  refine ND (rJ i f n q ?_)
  rw[if_pos (by simpa using he)]
  exact ND (wpAny_updateDictKeysTo hd c (NH (p _ ⟨_,ep'+1,OR _ hd (Obj.isFreed_of_dict (Obj.data_mapDictKeys c _)),g.mapDictKeys _,Obj.data_mapDictKeys c _⟩ (Heap.SameBut.update ..))) (by lia))
theorem oO(l:(o==sysModules)=false)(j:s.heap.get? o=some oo)(i:oo.ExactDict)(n:oo.data=.dict es ep)
  (B:∀e∈es,∃b,e.key=.ref b/\s.TypeIs (.ref b) "tuple") (p:(es.toList.map (·.hash)).Nodup) (r:es.size<=sizeLine)
  (h:∀h',(∃o' f,h'.get? s.heap.objs.size=some o'/\o'.ExactDict/\o'.data=.dict es f)->(∀b u,s.heap.get? b=some u->h'.get? b=some u)->Q (.ref s.heap.objs.size) {s with heap:=h'}):
  wpAny (model prog w) A (call (.type "dict") [.ref o]) Q E s:=by
 refine callType_codes (Q₁:=λv d=>v=.ref s.heap.objs.size/\d={s with heap:=s.heap.push {cls:=.type "dict",data:=.dict #[]}}) F.kt_called_dict (F.kt_typeCall_dict_1 _) F.entry_dict_init (kt_code_dict_new _ ⟨rfl,rfl⟩) ?_
 rintro v d ⟨rfl,rfl⟩
 have a:∀b u,s.heap.get? b=some u->(s.heap.push {cls:=.type "dict",data:=.dict #[]}).get? b=some u:=λb u x=>NN _ x
 have nT:Shared.TypeIs {s with heap:=s.heap.push {cls:=.type "dict",data:=.dict #[]}} (.ref s.heap.objs.size) "dict" :=⟨_,NZ _ rfl,rfl⟩
 have m:Shared.TypeIs {s with heap:=s.heap.push {cls:=.type "dict",data:=.dict #[]}} (.ref o) "dict" :=⟨oo,a _ _ j,i.1⟩
 have c:o<s.heap.objs.size:=NO j
 refine⟨nT,F.args_dict_init_2 _ _,?_⟩
 refine ND ?_
 refine ND (Qy nT ?_)
 refine NH ?_
 show wpAny _ _ (Builtin.Dict.updateFrom "dict.__init__" s.heap.objs.size (.ref o) [] .none) _ _ _
 refine ND (PN m ?_)
 refine ND ?_
 refine ND ?_
 refine ND (PM m isSubtype_dict_dict ?_)
 refine ND (wpAny_specialOf m F.slot_dict_iter.lookup (NH ?_))
 refine yA (O7 c) l (NZ _ rfl) ⟨rfl,rfl,rfl⟩ rfl (a _ _ j) n (λe y=>?_) p r λh' g sb=>?_
 ·obtain⟨b,C,q,z,D⟩:=B e y
  exact⟨b,C,q,a _ _ z,D⟩
 ·exact ND (NH (NH ⟨rfl,h h' g λb u x=>sb.extBut b u (NS (NO x)) (a _ _ x)⟩))
def qD (P:Program) (w:World) (a:List (List dq×V)):Prop:=(a.map λp=>tupleKeyHash (bG P w) p.1).Nodup
theorem KT.keys {a:List (List dq×V)}{xs:List (List dq×Addr×Value)}(r:KT H a xs):a.map (·.1)=xs.map (·.1):=by
 induction r with
 |nil=>rfl
 |cons h _ ih=>rw[NQ,NQ,ih,h.1]
section
variable {a:Addr}
theorem FL {j:List (List dq×V)}(I:aM X pins σ H s)(e:Rd H a (.dT j))(J:qD X.prog X.w j)(h:∀p s',H p=none->aM X pins σ (upd H p (.dT j)) s'->Q (.ref p) s'):wpAny (model X.prog X.w) A (call (.type "dict") [.ref a]) Q E s:=by
 obtain⟨z,B,xs,c,o,es,ep,r,v,d,m,g,D⟩:=Bc I.hok e
 have N:es.size=xs.length:=size_of_entries m
 have i:j.length=xs.length:=Paired.length c
 refine oO B r v d (λx F=>?_) ?_ (by lia) λh' n l=>?_
 ·have G:x∈xs.map (entryOfKey (tupleKind (bG X.prog X.w))):=m▸Pf.mpr F
  obtain⟨y,u,rfl⟩:=N0.mp G
  obtain⟨M,_,_,h1,h2,_⟩:=g y u
  exact⟨y.2.1,rfl,M,h1,h2⟩
 ·rw[m,Ol]
  have:xs.map ((λx:DictEntry=>x.hash)∘entryOfKey (tupleKind (bG X.prog X.w)))=j.map λp=>tupleKeyHash (bG X.prog X.w) p.1:=by
   have C:xs.map ((λx:DictEntry=>x.hash)∘entryOfKey (tupleKind (bG X.prog X.w)))=(xs.map (·.1)).map (tupleKeyHash (bG X.prog X.w)):=by rw[Ol];rfl
   rw[C,<-c.keys,Ol];rfl
  rw[this];exact J
 ·obtain⟨o',f,h1,h2,K⟩:=n
  have fr:H s.heap.objs.size=none:=I.hok.fresh (NI _)
  refine h _ _ fr (I.laid (a:=s.heap.objs.size) (o:=.dT j) (t':=s.toks) l (NI _) ⟨z,beq_eq_false_iff_ne.mpr (N6 (NS I.big)),xs,c.keeps λb ys q=>?_,o',es,f,h1,h2,K,m,D⟩)
  rw[ay (aD q fr)];exact q
end
noncomputable def JY (P:Program) (w:World):List V->Hp->VK->Prop:=λxs H Q=>∃a,xs=[.ref a]/\
 ((∃kvs,Rd H a (.dK kvs)/\∀p,H p=none->Q (.ref p) (upd H p (.dK kvs)))\/∃kvs,Rd H a (.dT kvs)/\qD P w kvs/\∀p,H p=none->Q (.ref p) (upd H p (.dT kvs)))
theorem zY:c_ X (.type "dict") (JY X.prog X.w):=by
 intro pins s σ H xs f Q I r h
 obtain⟨a,rfl,h⟩:=h
 obtain⟨u,rfl,d⟩:=dY r
 cases d
 rcases h with ⟨kvs,e,q⟩|⟨kvs,e,c,q⟩
 ·exact Dc I e λp s' b I'=>⟨.ref p,_,I',rfl,q p b⟩
 ·exact FL I e c λp s' b I'=>⟨.ref p,_,I',rfl,q p b⟩
theorem dh.one(r:dh k A):A.units+1<cLine:=by have:=r.un;lia
section
variable {d:Addr} {u:HO} {o:Obj}
theorem cg.upd(ok:cg P w H h b x)(nt:∀xs,H d≠some (.tup xs))(no:∀y,H d≠some (.own y)):cg P w (L2.upd H d v) h b x:=
 ok.stay (λ_ _ _ q=>q) (λc q=>by rw[ay (λz=>by rw[z] at q;exact no _ q)];exact q) λc xs q=>by rw[ay (λz=>by rw[z] at q;exact nt _ q)];exact q
theorem aM.freeze (I:aM X pins σ H s)(e:H d=some u)(f:Er (some u)):∃o,aM X pins σ (upd H d (.frz o u)) s/\s.heap.get? d=some o:=by
 have ok:=I.hok d u e
 obtain⟨o,c⟩:∃o,s.heap.get? d=some o:=by
  cases u with
  |lst xs=>obtain⟨_,_,_,_,z⟩:=ok;exact⟨_,z⟩
  |dK kvs=>obtain⟨_,_,_,_,o,_,_,z,_⟩:=ok;exact⟨o,z⟩
  |dT kvs=>obtain⟨_,_,_,_,o,_,_,z,_⟩:=ok;exact⟨o,z⟩
  |set S n=>obtain⟨o,_,_,_,z,_⟩:=ok;exact⟨o,z⟩
  |ins C dx fs=>obtain⟨_,_,_,z,_⟩:=ok;exact⟨_,z⟩
  |ext φ=>obtain⟨_,z,_⟩:=ok;exact z
  |_=>exact f.elim
 have a:Er (H d):=by rw[e];exact f
 refine⟨o,I.write (t':=s.toks) (h':=s.heap) (x:=d) (e:=d) (o:=.frz o u) a (.inl rfl) (λb v _ q=>q) ⟨o,c⟩ ⟨c,?_⟩,c⟩
 exact ok.upd (λxs z=>by rw[z] at a;exact a) (λy z=>by rw[z] at a;exact a)
theorem aM.thaw (I:aM X pins σ H s)(e:H d=some (.frz o u))(nb:∀o' i,X.H₀ d≠some (.frz o' i)):aM X pins σ (upd H d u) s:=by
 have a:∀b,H b=none->b≠d:=λb n z=>by rw[z,e] at n;cases n
 have nt:∀xs,H d≠some (.tup xs):=λxs z=>by rw[e] at z;cases z
 have no:∀y,H d≠some (.own y):=λy z=>by rw[e] at z;cases z
 have B:=I.base
 refine⟨I.ok,I.os,I.bare,⟨B.keep,B.slot,λb v q n f=>?_,B.there,λb xs q=>?_,λb v w q=>?_,λb ps q=>?_⟩,I.loc,I.cell,?_,λx c q=>?_,λp g=>?_,λb v q=>?_,I.len⟩
 ·have:=B.free b v q n f
  rw[ay (a b this)];exact this
 ·have:=B.tups b xs q
  rw[ay (λz=>by rw[z] at this;exact nt _ this)];exact this
 ·have:=B.frzs b v w q
  rw[ay (λz=>by rw[z] at q;exact nb _ _ q)];exact this
 ·obtain⟨more,this⟩:=B.tbls b ps q
  exact⟨more,by rw[ay (λz=>by rw[z,e] at this;cases this)];exact this⟩
 ·rw[ay (a _ I.free)];exact I.free
 ·rw[ay (a _ (I.freeC x c q))];exact I.freeC x c q
 ·obtain⟨h1,h2,h⟩:=I.pin p g
  exact⟨h1,by rw[ay (a _ h2)];exact h2,h⟩
 ·by_cases hb:b=d
  ·subst hb
   rw[ah] at q;cases q
   obtain⟨_,z⟩:=I.hok b _ e
   exact z.upd nt no
  ·rw[ay hb] at q
   exact(I.hok b v q).upd nt no
end
noncomputable def Mf (D:ez) (d:Addr) (o:Obj) (u:HO):ez:=
 ⟨λa H1=>H1 d=some (.frz o u)/\D.nx a (upd H1 d u),λv H1=>H1 d=some (.frz o u)/\D.rt v (upd H1 d u),λa H1=>H1 d=some (.frz o u)/\D.bk a (upd H1 d u),λa H1=>H1 d=some (.frz o u)/\D.ct a (upd H1 d u)⟩
def Mi (t:TS):TS:=λD σ H=>∃d u,H d=some u/\Er (some u)/\∀o,t (Mf D d o u) σ (upd H d (.frz o u))
theorem Av(h:PS X a t):PS X a (Mi t):=by
 intro pins s σ H D I l
 obtain⟨d,u,e,j,q⟩:=l
 have nb:∀o' i,X.H₀ d≠some (.frz o' i):=λo' i z=>by
  have:=I.base.frzs d o' i z
  rw[e] at this;cases this;exact j
 obtain⟨o,I1,_⟩:=I.freeze e j
 refine cJ (h pins s σ _ _ I1 (q o)) λf s' g=>?_
 cases f with
 |next=>obtain⟨b,H',I',c,k⟩:=g;exact⟨b,_,I'.thaw c nb,k⟩
 |brk=>obtain⟨b,H',I',c,k⟩:=g;exact⟨b,_,I'.thaw c nb,k⟩
 |cont=>obtain⟨b,H',I',c,k⟩:=g;exact⟨b,_,I'.thaw c nb,k⟩
 |ret v=>obtain⟨x,b,H',I',r,c,k⟩:=g;exact⟨x,b,_,I'.thaw c nb,r,k⟩
noncomputable def lG:HO->Nat
 | .dK kvs=>kvs.length
 | .dT kvs=>kvs.length
 |_=>0
def oV:HO->Prop
 | .dK _=>True
 | .dT _=>True
 |_=>False
noncomputable def jx (H:Hp):HO->Nat->V->V->Prop
 | .dK kvs,i,x,v=>∃k,kvs[i]?=some (k,v)/\x=kV k
 | .dT kvs,i,x,v=>∃k b,kvs[i]?=some (k,v)/\x=.ref b/\H b=some (.tup (k.map kV))
 |_,_,_,_=>False
theorem g9 {a b:Type}{R:a->b->Prop}{xs:List a}{ys:List b}(h:Paired R xs ys)(i:Nat)(hi:i<ys.length):∃x,xs[i]?=some x/\R x ys[i]:=by
 induction h generalizing i with
 |nil=>exact absurd hi (OZ _)
 |cons r _ ih=>
  cases i with
  |zero=>exact⟨_,rfl,r⟩
  |succ i=>
   obtain⟨x,h1,h2⟩:=ih i (by simpa using hi)
   exact⟨x,by simpa using h1,by simpa using h2⟩
theorem jF(ok:iy P w H h)(e:H d=some (.frz o u))(E:oV u):(d==sysModules)=false/\h.get? d=some o/\o.ExactDict/\
  ∃es ep,o.data=.dict es ep/\es.size=lG u/\∀i (hi:i<es.size),∃x v,jx H u i x v/\bo x es[i].key/\bo v es[i].val:=by
 obtain⟨b,k⟩:=ok d _ e
 cases u with
 |dK kvs=>
  obtain⟨z,f,vs,a,o',es,ep,h1,h2,n,m,q,F⟩:=k
  rw[b] at h1;cases h1
  have c:es.size=vs.length:=by rw[<-q.length];simp
  refine⟨f,b,h2,es,ep,n,by rw[c,<-a.length];rfl,λi hi=>?_⟩
  obtain⟨p,l,y,g⟩:=g9 a i (by omega)
  obtain⟨B,C⟩:=q.get? (i:=i) (e:=es[i]) (k:=vs[i].1) (v:=vs[i].2) (by simp[hi]) (by rw[Ox])
  refine⟨kV p.1,p.2,⟨p.1,l,rfl⟩,?_,by rw[C];exact g⟩
  rw[<-y] at B
  rcases cR B with ⟨j,t,s,A⟩|⟨j,t,s,A⟩<;>rw[s,A]<;>exact⟨t,rfl⟩
 |dT kvs=>
  obtain⟨z,f,xs,a,o',es,ep,h1,h2,n,m,q⟩:=k
  rw[b] at h1;cases h1
  have c:es.size=xs.length:=size_of_entries m
  refine⟨f,b,h2,es,ep,n,by rw[c,<-Paired.length a];rfl,λi hi=>?_⟩
  obtain⟨p,l,y,D,g⟩:=g9 a i (by omega)
  have r:es[i]=entryOfKey (tupleKind (bG P w)) xs[i]:=by
   have:=entry_at m i
   rw[Ox (by omega),P7 hi] at this
   exact Option.some.inj this
  refine⟨.ref xs[i].2.1,p.2,⟨p.1,_,l,rfl,D⟩,?_,?_⟩
  ·rw[r];rfl
  ·rw[r];exact g
 |_=>exact E.elim
section
variable {d it:Addr} {o:Obj} {es:Array DictEntry} {i ep:Nat}
theorem wF(hd:(d==sysModules)=false)(b:s.heap.get? d=some o)(e:o.ExactDict)(a:o.data=.dict es ep)
  (f:Q (.ref s.heap.objs.size) {s with heap:=s.heap.push {cls:=.type "dict_keyiterator",data:=.fields #[.ref d,.int 0 0,.int es.size 0,.int ep 0]}}):wpAny (model prog w) A (pyIter (.ref d)) Q E s:=by
 have c:s.TypeIs (.ref d) "dict" :=⟨o,b,e.1⟩
 refine wpAny_pyIter_slot c F.slot_dict_iter (OG F.slot_dict_iter c F.entry_dict_iter ?_ (F.args_dict_iter_1 _))
 refine ND (ND (Qy c ?_))
 refine NH ?_
 show wpAny _ _ (Builtin.Dict.showsAll d>>=_) _ _ s
 unfold Builtin.Dict.showsAll
 rw[if_neg (by rw[hd];exact NY)]
 refine ND (NH (ND (O_ b a (ND (P4 b a ?_)))))
 refine ND (Ph (NH ⟨_,rfl, "dict_keyiterator",_,⟨_,NZ _ rfl,rfl⟩,F.slot_dict_keyiterator_next.lookup,?_⟩))
 simpa[rawInt] using f
theorem xp(hit:s.heap.IsKeyIter it d i es.size ep)(c:s.heap.get? d=some o)(b:o.data=.dict es ep)(hi:i<es.size)
  (h:∀h',h'.IsKeyIter it d (i+1) es.size ep->Heap.SameBut it s.heap h'->Q (some es[i].key) {s with heap:=h'}):wpAny (model prog w) A (pyNext (.ref it)) Q E s:=by
 obtain⟨j,f,g,e⟩:=id hit
 refine ND (ON (O9 (name:=Str.ofString "__next__") hit.typeIs F.slot_dict_keyiterator_next
  (OG F.slot_dict_keyiterator_next hit.typeIs F.entry_dict_keyiterator_next ?_ (F.args_dict_keyiterator_next_1 _))))
 refine ND (NH (ND (ND ?_)))
 refine ND (Qz hit.typeIs (NH ?_))
 refine ND (wpAny_fieldsOf f e ?_)
 show wpAny _ _ (if (Value.ref d==Value.none)=true then _ else _) _ _ s
 refine ND (NH (ND (O_ c b ?_)))
 rw[if_neg (by simp)]
 refine ND (NH (ND (P4 c b ?_)))
 rw[if_neg (by simp)]
 refine NH ?_
 simp only[show¬((i:Int)<0) from by lia,if_false,PJ,P7 hi]
 refine ND ?_
 refine ND (Qz hit.typeIs (NH ?_))
 refine ND (wpAny_isOneOf_keyiter hit.typeIs ?_)
 show wpAny _ _ (setField (.ref it) 1 (rawInt ((i:Int)+1))>>=_) _ _ s
 refine ND (Pi f e (by simp) ?_)
 have a:(s.heap.update it (Obj.mapFields (·.setIfInBounds 1 (rawInt ((i:Int)+1))))).IsKeyIter it d (i+1) es.size ep:=
  ⟨_,OR _ f (Obj.isFreed_of_fields (Obj.data_mapFields e _)),(Obj.cls_mapFields ..).trans g,by rw[Obj.data_mapFields e];simp[rawInt]⟩
 refine ND (Oe (ND (wpAny_isOneOf_keyiter (s:={s with heap:=s.heap.update it (Obj.mapFields (·.setIfInBounds 1 (rawInt ((i:Int)+1))))}) a.typeIs ?_)))
 exact NH (NH ⟨_,rfl,NH (h _ a (Heap.SameBut.update ..))⟩)
theorem xP(h:A.handled=none)(e:s.heap.get? d=some o)(c:o.data=.dict es ep)(hi:es.size<=i)
  (j:∀h',Heap.ExtBut it s.heap h'->Q none {s with heap:=h'}):(s.heap.IsKeyIter it d i es.size ep->wpAny (model prog w) A (pyNext (.ref it)) Q E s)/\(s.heap.IsValIter it d i es.size ep->wpAny (model prog w) A (pyNext (.ref it)) Q E s):=by
 constructor
 all_goals
  intro hit
  obtain⟨n,f,l,g⟩:=id hit
  first|refine ND (ON (O9 (name:=Str.ofString "__next__") hit.typeIs F.slot_dict_keyiterator_next (OG F.slot_dict_keyiterator_next hit.typeIs F.entry_dict_keyiterator_next ?_ (F.args_dict_keyiterator_next_1 _))))|refine ND (ON (O9 (name:=Str.ofString "__next__") hit.typeIs F.slot_dict_valueiterator_next (OG F.slot_dict_valueiterator_next hit.typeIs F.entry_dict_valueiterator_next ?_ (F.args_dict_valueiterator_next_1 _))))
  refine ND (NH (ND (ND ?_)))
  first|refine ND (Qz hit.typeIs (NH ?_))|refine ND (QA hit.typeIs (NH ?_))
  refine ND (wpAny_fieldsOf f g ?_)
  show wpAny _ _ (if (Value.ref d==Value.none)=true then _ else _) _ _ s
  refine ND (NH (ND (O_ e c ?_)))
  rw[if_neg (by simp)]
  refine ND (NH (ND (P4 e c ?_)))
  rw[if_neg (by simp)]
  refine NH ?_
  simp only[show¬((i:Int)<0) from by lia,if_false,PJ,Array.getElem?_eq_none hi]
  refine ND ?_
  first|refine ND (Qz hit.typeIs (NH ?_))|refine ND (QA hit.typeIs (NH ?_))
  show wpAny _ _ (setField (.ref it) 0 .none>>=_) _ _ s
  refine ND (Pi f g (by simp) ?_)
  refine ND ?_
  refine ND (m:=firstArgMember _ _) (wpAny_of_eq (a:=Value.none) (by first|rfl|(simp only[firstArgMember];rfl)) (Ph ?_ (by size_fits)))
  refine ND (wpAny_handled ?_)
  rw[show A.in1.handled=none from h]
  refine ND (NH (wpAny_throw ?_))
  refine ND (PM (T:= "StopIteration") (b:=true) ⟨_,NZ _ rfl,rfl⟩ isSubtype_stop ?_)
  exact NH (j _ (((Heap.SameBut.update ..).extBut.push _).push _))
theorem Dv(e:A.handled=none)(hit:s.heap.IsKeyIter it d i es.size ep)(b:s.heap.get? d=some o)(a:o.data=.dict es ep)(hi:es.size<=i)(c:∀h',Heap.ExtBut it s.heap h'->Q none {s with heap:=h'}):wpAny (model prog w) A (pyNext (.ref it)) Q E s:=(xP e b a hi c).1 hit
end
noncomputable def J9 (d:Addr) (o:Obj) (u:HO):It:=
 ⟨λi H=>H d=some (.frz o u)/\i<lG u,λi H x H'=>H'=H/\∃v,jx H u i x v,λi H=>H d=some (.frz o u)/\lG u<=i⟩
theorem oy {h h':Heap}{it d:Addr}{i n ep:Nat}(x:h.IsKeyIter it d i n ep)(k:∀o,h.get? it=some o->h'.get? it=some o):h'.IsKeyIter it d i n ep:=let ⟨o,ho,r⟩:=x;⟨o,k _ ho,r⟩
theorem yG {P:Program}{tg:Expr}(d it:Addr)(o:Obj)(u:HO)(T:oV u)(es:Array DictEntry)(O:Nat)(hd:o.data=.dict es O):
  nO P w K tg (J9 d o u) [it] it (λi h=>h.IsKeyIter it d i es.size O) where
 mem:=by simp
 obj:=λi h st b n=>by
  rw[NR.mp n]
  obtain⟨r,e,c,q⟩:=st
  exact⟨r,e,λv z=>by rw[q] at z;cases z⟩
 keep:=λi h h' st k=>oy st λr e=>k it (by simp) r e
 item:=by
  intro X hP hw Z R i pins s σ H E I y st M
  obtain⟨C,hi⟩:=M
  obtain⟨_,g,_,m,l,a,W,f⟩:=jF I.hok C T
  rw[hd] at a;cases a
  obtain⟨D,J,f2,G,N,B⟩:=y it (by simp)
  have j:i<es.size:=by lia
  obtain⟨x,v,Y,U,r2⟩:=f i j
  refine xp st g hd j λh' p sb=>?_
  have I1:aM X pins σ H {s with heap:=h'}:=I.turned (t':=s.toks) (λb S n e=>(sb.2 b n).trans e) D J G N B
  obtain⟨r,e,c,q⟩:=id p
  exact⟨_,rfl,pY (s:={s with heap:=h'}) e c q (by decide) ⟨x,H,I1,U,⟨rfl,v,Y⟩,p,λb n=>(y b n).1⟩⟩
 done:=by
  intro X hP hw Z R i pins s σ H E I y st M
  obtain⟨C,hi⟩:=M
  obtain⟨_,g,_,m,l,a,W,f⟩:=jF I.hok C T
  rw[hd] at a;cases a
  obtain⟨D,J,f2,G,N,B⟩:=y it (by simp)
  exact Dv (I.ok.hd R) st g hd (by lia) λh' eb=>⟨rfl,I.turned (t':=s.toks) (λb S n e=>eb b S n e) D J G N B⟩
 self:=λA i s Q E st h=>by
  refine wpAny_pyIter_slot st.typeIs F.slot_dict_keyiterator_iter (OG F.slot_dict_keyiterator_iter st.typeIs F.entry_dict_keyiterator_iter ?_ (F.args_dict_keyiterator_iter_1 _))
  exact NH ⟨_,rfl, "dict_keyiterator",_,st.typeIs,F.slot_dict_keyiterator_next.lookup,h⟩
def LN (a:TE):TI:=λσ H R=>a σ H λx H1=>∃d o u,x=.ref d/\H1 d=some (.frz o u)/\oV u/\R (J9 d o u) H1
theorem Gh(i:PE X e te):PI X tg e (LN te):=by
 intro pins s σ H R I h
 refine cJ (i pins s σ H _ I h) λv s1 l=>?_
 obtain⟨x,H1,I1,r,d,o,u,ex,p,f,q⟩:=l
 subst ex
 cases(show v=Value.ref d from r)
 obtain⟨g,c,n,es,ep,a,w,_⟩:=jF I1.hok p f
 refine wF g c n a ?_
 have j:∀b ob,s1.heap.get? b=some ob->(s1.heap.push {cls:=.type "dict_keyiterator",data:=.fields #[.ref d,.int 0 0,.int es.size 0,.int ep 0]}).get? b=some ob:=λb ob z=>NN _ z
 refine⟨s1.heap.objs.size,[s1.heap.objs.size],_,_,H1,rfl,I1.kept (t':=s1.toks) j,yG d _ o u f es ep a,⟨_,NZ _ rfl,rfl,rfl⟩,λb m=>?_,q⟩
 rw[NR.mp m]
 exact I1.fpOk (NI _) (I1.hok.fresh (NI _))
theorem DO {d:Addr}{o:Obj}{u:HO}{g:TG}{tb:TS}{D:ez}(a:Nat->St->Hp->Prop)(h0:a 0 σ H)(h:∀i σ H,i<=lG u->a i σ H->H d=some (.frz o u))
  (j:∀i x v σ H,jx H u i x v->i<lG u->a i σ H->g x σ H λc H2=>tb {D with nx:=a (i+1),ct:=a (i+1),bk:=D.nx} c H2) (hd:∀σ H,a (lG u) σ H->D.nx σ H):
  ∃W:Nat->Nat->St->Hp->Prop,(∃m,W 0 m σ H)/\∀i m σ H,W i m σ H->
   ((J9 d o u).stop i H/\D.nx σ H)\/((J9 d o u).go i H/\∃N:St->Hp->Prop,(∀b H',N b H'->∃f,f<m/\W (i+1) f b H')/\∀x H',(J9 d o u).yld i H x H'->g x σ H' λc H2=>tb {D with nx:=N,ct:=N,bk:=D.nx} c H2):=by
 refine⟨λi m σ H=>m=lG u - i/\i<=lG u/\a i σ H,⟨lG u,by simp,N9 _,h0⟩,?_⟩
 rintro i m σ H ⟨rfl,hi,p⟩
 have q:=h i σ H hi p
 by_cases hlt:i<lG u
 ·refine .inr ⟨⟨q,hlt⟩,a (i+1),λb H' l=>⟨lG u - (i+1),by omega,rfl,hlt,l⟩,λx H' y=>?_⟩
  obtain⟨e,v,k⟩:=y
  subst e
  exact j i x v σ _ k hlt p
 ·have e:i=lG u:=by omega
  subst e
  exact .inl ⟨⟨q,NI _⟩,hd σ H p⟩
theorem zo (x:X.calm=true):c_ X (.builtin "min") (λxs H Q=>∃(p:Addr) (ns:List Int),xs=[.ref p]/\bf X.K H p (ns.map V.int)/\0<ns.length/\∀M:Int,M∈ns->(∀a∈ns,M<=a)->Q (.int M) H):=by
 intro pins s σ H xs B Q I r h
 obtain⟨p,ns,rfl,m,c,q⟩:=h
 obtain⟨u,rfl,o⟩:=dY r
 cases o
 obtain⟨f,y,z,C⟩:=I.list m
 have hi:IntsAre f ns:=by simpa using m8 y
 obtain⟨zs,e⟩:=hi.allInts.items
 have b:ns=zs.toList.map (·.1):=by rw[<-hi.numsOf,<-nums_intItems,<-e]
 have d:0<zs.size:=by
  have l:=c;rw[b,NG,OW] at l;exact l
 have i:=z.isList
 rw[e] at i
 refine min_intList (I.ok.hd x) i d λv h' tk A w=>?_
 obtain⟨t,rfl⟩:=intItems_at A
 obtain⟨h1,h2⟩:=argBest_lt (numAt zs) (zs.size - 1)
 refine⟨.int _,H,I.kept w,⟨t,rfl⟩,q _ ?_ λa g=>?_⟩
 ·rw[b,numAt_eq];exact getD_mem (by rw[NG,OW];omega)
 ·rw[b] at g
  obtain⟨j,n,rfl⟩:=mem_getD g
  rw[NG,OW] at n
  rw[<-numAt_eq];exact h2 j (by omega)
noncomputable def Jo (es:Array (Int×Value)) (i:Nat):Int:=(es[i]?.map (·.1)).getD 0
theorem DZ{Q:Bool->Shared->Prop}(c:s.heap.get? b=some o)(g:o.cls=.type "tuple")(hd:o.data=.seq items n)(hi:∀v∈items,∃i t,v=Value.int i t)(h:Q true s):
  wpAny (model prog w) A (hashByValue 8 (.ref b)) Q E s:=by
 have f:s.TypeIs (.ref b) "tuple" :=⟨o,c,g⟩
 refine ND (wpAny_specialOf f F.slot_tuple_hash.lookup ?_)
 refine ND ?_
 refine ND (wpAny_load c ?_)
 rw[hd]
 refine NH (ND ?_)
 rw[<-Array.forIn_toList]
 refine wpAny_forIn_list _ (λrest q s'=>s'=s/\q=(none,())/\∀v∈rest,∃i t,v=Value.int i t) _ ?_ ?_ _ _ ⟨rfl,rfl,λv j=>hi v (Pf.mp j)⟩
 ·rintro v rest q s' ⟨rfl,rfl,a⟩
  obtain⟨i,t,rfl⟩:=a v N7
  have e:hashByValue 7 (.int i t)=pure true:=by simp[hashByValue]
  exact ND (NH (by
   exact NH ⟨rfl,rfl,λx d=>a x (NV _ d)⟩))
 ·rintro q s' ⟨rfl,rfl,_⟩
  exact NH h
section
variable {R:Result->Shared->Prop} {I:Addr} {fp wr:List Addr} {G:Array GenState->Array GenState->Prop} {n:Nat} {P:Nat->Value->Prop} {St:Nat->Shared->Prop}
def gP (h:Heap) (k:List Int) (b:Addr):Prop:=∃o a c,h.get? b=some o/\o.cls=.type "tuple" /\o.data=.seq a c/\IntsAre a.toList k
end
abbrev qW (led:Bool):Obj:={cls:=.type "set",dict:=none,data:=.set #[] 0 (.fresh 0 0 led)}
noncomputable def fN (k:List Int):Int:=reduceHash (Builtin.Tuple.tupleHashOf (k.map hashInt))
theorem FW(t:gP h k b):(tupleKind (intKind prog w)).is h k b:=by
 obtain⟨o,a,c,h1,h2,d,e⟩:=t
 refine⟨o,a,c,h1,h2,d,?_⟩
 have all:∀{us:List Value} {ns:List Int},IntsAre us ns->PySem.ItemsAre (intKind prog w) ns us:=by
  intro us ns z
  induction z with
  |nil=>exact .nil
  |cons n t _ ih=>exact .cons (intKind_is _ _ _ _) ih
 exact all e
noncomputable def Kc (a:Addr) (n:Nat):HO:=.ext λh=>∃o es ep t,h.get? a=some o/\o.ExactSet/\o.data=.set es ep t/\SetTable.fits t es.size=true/\es.size=n
theorem CC(ok:iy P w H h)(e:H b=some (.tup (c.map V.int))):gP h c b:=by
 obtain⟨_,a,i,o,g,d,n,f⟩:=ok b _ e
 exact⟨o,a.toArray,n,g,d,f,by simpa using m8 i⟩
theorem uW:c_ X (.builtin "len") (λxs H Q=>∃a n,xs=[V.ref a]/\H a=some (Kc a n)/\n<1000/\Q (.int n) H):=by
 intro pins s σ H xs i Q I r h
 obtain⟨a,n,rfl,f,g,q⟩:=h
 obtain⟨u,rfl,c⟩:=dY r
 cases c
 obtain⟨⟨o,es,ep,t,h1,h2,d,b,e⟩,_⟩:=I.hok a _ f
 subst e
 exact call_len_set h1 h2 d b (by lia) ⟨.int es.size,H,I.tok _,⟨_,rfl⟩,q⟩
structure Mg (K:NJ) (C:Addr) (m:Str) (f:Addr):Prop where
 ex:∃mc,PySem.W.readsIn K C mc=true/\PySem.W.findCls K (.ref C) mc m=some (.val (.ref f))
 hh:PySem.W.handedIn (.ref f)=true
 hg:Qj K (.ref C) "__getattribute__" =some (some (.builtin "type.__getattribute__"))
 kp:Oo K (.ref f)=true
structure zh (K:NJ) (x qual:Str) (st:Stmt) (f:Addr) (fd:FuncData):Prop where
 ex:∃(oc:Value) (od:Option Addr) (dV kV doc pm:Value) (an:Option Addr) (cdv ct:Value) (osl:Array (Option Value)),
  fd=Oj x qual (cE st) (bW st) (aS st) dV kV doc pm an cdv ct/\K.lookup f=some ⟨oc,od,.func fd,osl⟩/\OE K cdv qual=true
section
variable {P:Program}
theorem zh.ok {x d:Str}{st:Stmt}{f:Addr}{i:FuncData}{N ps:List Str}{k:Nat}{sp:Sp}(F:zh K x d st f i)(S:eP N ps (aS st))(len:∀vs H Q E,sp vs H Q E->vs.length=ps.length)
  (g:∀(e:Value) (A:Around) (outer:List Env) (s:Shared) (H:Hp) (vs:List V) (Q:VK) (E:XK),dh k (A.deeper (envOfC d (aS st) s.heap.objs.size f e))->sp vs H Q E->
   ∃t,uj (g0 P w K mg base N d (aS st) f e A outer s H E) (bW st) t/\t {nx:=λ_ H'=>Q .non H',rt:=Q} (jt N vs) H):gr P w K mg base (k+1) f i ps sp:=by
 obtain⟨n,o,m,kV,c,q,r,e,p,b,rfl,l,a⟩:=F.ex
 exact GQ l a S len λA outer s H vs Q E j h=>g e A outer s H vs Q E j h
theorem qm{st:Stmt}{a:Array (Option Value)}{kV:Value}(l:K.lookup f=some ⟨oc,od,.func (Oj x qual (cE st) (bW st) (aS st) dV kV doc pm an cdv ct),a⟩)
  (c:OE K cdv qual=true):zh K x qual st f (Oj x qual (cE st) (bW st) (aS st) dV kV doc pm an cdv ct):=⟨⟨oc,od,dV,kV,doc,pm,an,cdv,ct,a,rfl,l,c⟩⟩
theorem uA{e:Array (Option Value)}(hd:fd.defaults=.ref T)(d:K.lookup T=some ⟨oc,od,.seq items n,e⟩)
  (h:∀a:List Value,a.length=ps.length->∃k,bindArgs fd ⟨a,[]⟩=(seqItems? fd.defaults>>=k)/\k (some items)=pure (ps.zip a)):fg K fd ps:=λs a c b=>by
 obtain⟨k,h1,h2⟩:=h a b
 exact PySem.W.binds_K c hd d rfl h1 h2
end
theorem mI:isSubtype (.type "AttributeError") (.type "AttributeError")=pure true:=by rw[isSubtype_type];kernel_rfl
section
variable {h:Heap} {g:Array GenState} {d:Drawn} {t:Nat} {os:OsState} {a:Addr}
abbrev Mt (T:Addr):Obj:={cls:=.type "AttributeError",data:=.fields #[.ref T,.none,.none,.none,.bool false,.none,unsetMember,unsetMember]}
theorem Af{Q:Unit->Shared->Prop}(hx:h.get? e=some (Mt T))
  (c:∀h',Heap.SameBut e h h'->Shared.TypeIs ⟨h',g,d,t,os⟩ (.ref e) "AttributeError" ->Q () ⟨h',g,d,t,os⟩):wpAny (model prog w) A (noteAttr (.ref e) (.ref a) nm) Q E ⟨h,g,d,t,os⟩:=by
 have b:(⟨h,g,d,t,os⟩:Shared).TypeIs (.ref e) "AttributeError" :=⟨_,hx,rfl⟩
 refine ND (ND (PM b mI ?_))
 refine ND (wpAny_load hx ?_)
 dsimp only
 refine NH ?_
 refine ND (wpAny_rule (ND (PN b ?_)))
 refine ND (wpAny_load hx ?_)
 refine wpAny_update hx ?_
 refine c _ (Heap.SameBut.update ..) ⟨_,OR _ hx (by rfl),by rfl⟩
theorem uw {j:Type}{Q:j->Shared->Prop}(n:A.handled=none)(i:msg.length<=sizeLine)
  (o:∀e h' tk,(∀b u,h.get? b=some u->h'.get? b=some u)->Shared.TypeIs ⟨h',g,d,tk,os⟩ (.ref e) "AttributeError" ->E (.ref e) ⟨h',g,d,tk,os⟩):
  wpAny (model prog w) A (raiseAttrError (.ref a) name msg) Q E ⟨h,g,d,t,os⟩:=by
 refine ND (wpAny_mkStr (hx:=i) ?_)
 refine ND ?_
 refine ND (m:=firstArgMember _ _) (wpAny_of_eq (a:=Value.none) (by first|rfl|(simp only[firstArgMember];rfl)) ?_)
 refine Ph ?_ (by first|size_fits|decide)
 refine ND (wpAny_mkText (ND ?_))
 have f:h.objs.size<(h.push {cls:=.type "tuple",data:=.seq #[Value.str msg t]}).objs.size:=by rw[OH];exact PY _
 have k1:∀b u,h.get? b=some u->(h.push {cls:=.type "tuple",data:=.seq #[Value.str msg t]}).get? b=some u:=λb u z=>NN _ z
 revert f k1
 intro f k1
 refine Af (NZ _ rfl) λh' sb l=>?_
 refine ND (wpAny_handled ?_)
 rw[n]
 refine ND (NH (wpAny_throw ?_))
 exact o _ h' _ (λb u z=>by
  have c:=k1 b u z
  rw[sb.2 b (NS (NO c))]
  exact NN _ c) l
theorem ED{tk:Tok}{Q:Fin->Shared->Prop}(c:A.handled=none)(hx:h.get? a=some {cls:=.type "list",data:=.seq items n})
  (f:∀e h' tk,(∀b u,h.get? b=some u->h'.get? b=some u)->Shared.TypeIs ⟨h',g,d,tk,os⟩ (.ref e) "AttributeError" ->E' (.ref e) ⟨h',g,d,tk,os⟩):
  wpAny (model prog w) A (Builtin.«object.__getattribute__» ⟨[.ref a,.str "keys" tk],[]⟩) Q E' ⟨h,g,d,t,os⟩:=by
 have j:(⟨h,g,d,t,os⟩:Shared).TypeIs (.ref a) "list" :=⟨_,hx,rfl⟩
 have i:typeLookup (.type "list") "keys" =pure none:=by rw[typeLookup_type,builtinLookup_eq_fast];kernel_rfl
 repeat (any_goals (first|assumption|wp_step))
 exact uw c (by decide+kernel) f
theorem Fj(l:A.handled=none)(hx:h.get? a=some {cls:=.type "list",data:=.seq items n})
  (j:∀h' tk,(∀b u,h.get? b=some u->h'.get? b=some u)->Q none ⟨h',g,d,tk,os⟩):wpAny (model prog w) A (getAttr? (.ref a) "keys") Q E ⟨h,g,d,t,os⟩:=by
 have c:(⟨h,g,d,t+1,os⟩:Shared).TypeIs (.ref a) "list" :=⟨_,hx,rfl⟩
 have m:=F.slot_list_getattribute.lookup
 have p:=F.slot_list_getattribute.bind (.ref a)
 have o:typeLookup (.type "list") "__getattr__" =pure none:=by rw[typeLookup_type,builtinLookup_eq_fast];kernel_rfl
 refine ND (wpAny_mkText (ND (ON ?_)))
 refine Oe (ND (PN c ?_))
 rw[m]
 refine ND (NH ?_)
 dsimp only
 unfold getAttrByItsOwn hookBefore
 refine ND (NH (ND (ON (Oe ?_))))
 unfold callGetattribute
 unfold boundAndCalled
 refine OS (codeAny_call_builtin F.slot_list_getattribute.plain F.entry_list_ga (F.slot_list_getattribute.check _ _ _ _ _ _ _ _ c (F.args_list_getattribute_2 _ _) (ED (show A.in1.handled=none from l) hx λe h' tk i f=>?_)))
 unfold getattributeRaised hookBehind
 refine ND (PM f mI ?_)
 show wpAny _ _ (attributeErrorLeaves (.ref a) (.str "keys" t) (.ref e) false false) _ _ _
 unfold attributeErrorLeaves
 refine ND (wpAny_throw (ND (PM f mI ?_)))
 exact NH (j _ _ i)
end
theorem oZ:entryFor table "dict.update.loop" =some Builtin.«dict.update.loop»:=entryFor_of_tree (by kernel_rfl)
theorem pe:plainId "dict.update.loop" =true:=by decide+kernel
def nX (h:Heap) (p:Addr) (k v:Value):Prop:=∃o c,h.get? p=some o/\o.cls=.type "tuple" /\o.data=.seq #[k,v] c
abbrev BG (h:Heap) (p k:Addr) (v:Value):Prop:=nX h p (.ref k) v
section
variable {R:Result->Shared->Prop} {I:Addr} {fp wr:List Addr} {G:Array GenState->Array GenState->Prop} {n:Nat} {P:Nat->Value->Prop} {St:Nat->Shared->Prop} {DX KO:Nat->Heap->Prop}
theorem ve (W:WalksS prog w A.in1 I fp wr G n P St)(D:Addr)(Y:D∉fp)(r:Nat->Addr)(O M:Nat->Value)(y:∀i v,P i v->v=.ref (r i))
  (H:∀i,i<n->r i≠D/\r i∉wr) (x:∀i,i<n->∀h h':Heap,(∀b o,b≠D->b∉wr->h.get? b=some o->h'.get? b=some o)->KO i h->KO i h')
  (u:∀(i:Nat),i<=n->∀(h h':Heap),(∀b o,b∉wr->h.get? b=some o->h'.get? b=some o)->DX i h->DX i h')
  (B:∀i,i<n->∀(s:Shared) (Q:Unit->Shared->Prop) (E:Value->Shared->Prop),KO i s.heap->DX i s.heap->(∀h' t,s.toks<=t->DX (i+1) h'->Heap.SameBut D s.heap h'->Q () {s with heap:=h',toks:=t})->wpAny (model prog w) A.in1 (dictSet D (O i) (M i)) Q E s):
  ∀(k i:Nat) (N:Tok) (s:Shared),n - i=k->i<=n->St i s->(∀j,j<n->nX s.heap (r j) (O j) (M j)/\KO j s.heap)->DX i s.heap->
   (∀s',Moved (D::wr) G s s'->DX n s'.heap->R (.ok (.ret .none)) s')->
   codeAny (model prog w) A (.builtin "dict.update.loop" ⟨[.ref D,.ref I,.int (i:Nat) N,.none],[]⟩) R s:=by
 have more:∀b∈wr,b∈D::wr:=λb g=>NV _ g
 intro k
 induction k with
 |zero=>
  intro i N s hk hi m ht X Z
  obtain rfl:i=n:=by omega
  refine codeAny_builtin oZ ?_
  refine ND (W.done s _ _ m λs' p=>?_)
  refine ND ?_
  refine NH (NH (Z s' (p.mono more) (u _ hi _ _ (λb o g e=>p.heap b o g e) X)))
 |succ k ih=>
  intro i N s hk hi m ht X Z
  have a:i<n:=by omega
  refine codeAny_builtin oZ ?_
  refine ND (W.item i s _ _ a m λv s' hP J p=>?_)
  obtain rfl:=y i v hP
  have d:∀j,j<n->nX s'.heap (r j) (O j) (M j)/\KO j s'.heap:=λj l=>by
   obtain⟨⟨o,c,h1,h2⟩,U⟩:=ht j l
   exact⟨⟨o,c,p.heap _ o (H j l).2 h1,h2⟩,x j l _ _ (λb o _ g e=>p.heap b o g e) U⟩
  have f:=u i hi _ _ (λb o g e=>p.heap b o g e) X
  obtain⟨⟨o,c,h1,h2,U⟩,h4⟩:=d i a
  have hT:s'.TypeIs (.ref (r i)) "tuple" :=⟨o,h1,h2⟩
  refine ND (Oe (ND (wpAny_tryCatch ?_)))
  refine ND (PN hT ?_)
  refine ND ?_
  refine ND (wpAny_load h1 ?_)
  rw[U]
  refine NH (NH ?_)
  refine Oe (B i a _ _ _ h4 f λh' t' F T sb=>?_)
  refine NH ⟨plainId_quiet pe _,?_⟩
  have e:((i:Nat):Int)+1=((i+1:Nat):Int):=by omega
  refine ih (i+1) _ _ (by omega) a (W.frame _ s' _ _ J F λb g o q=>?_) (λj l=>?_) T λS C K=>?_
  ·rw[sb.2 b (λz=>Y (z▸g))];exact q
  ·obtain⟨⟨o,c,q1,q2⟩,q3⟩:=d j l
   refine⟨⟨o,c,?_,q2⟩,x j l _ _ (λb o g _ q=>?_) q3⟩
   ·rw[sb.2 _ (H j l).1];exact q1
   ·rw[sb.2 b g];exact q
  ·refine Z S (Moved.trans W.gtrans ((p.mono more).then_heap F λb o g q=>?_) C) K
   rw[sb.2 b (λz=>g (by rw[z];exact N7))];exact q
end
theorem rX {K:Type} [DecidableEq K]{xs:List (K×Addr×Value)}{k:K}{a:Addr}{v:Value}{P:Addr->Prop}(h:∀x∈xs,P x.2.1)(c:P a):∀x∈storedH xs k a v,P x.2.1:=by
 unfold storedH
 split
 ·intro x hx
  obtain⟨y,b,rfl⟩:=N0.mp hx
  unfold putAt
  split
  ·exact h y b
  ·exact h y b
 ·intro x hx
  rcases Ot.mp hx with hx|hx
  ·exact h x hx
  ·rw[NR.mp hx];exact c
theorem sT {K:Type} [DecidableEq K]{xs:List (K×Addr×Value)}{k:K}{a:Addr}{v:Value}:(storedH xs k a v).length<=xs.length+1:=by
 unfold storedH
 split
 ·rw[NG];lia
 ·simp
noncomputable def rK {K:Type} [DecidableEq K] (a:Nat->K) (c:Nat->Addr) (b:Nat->Value):Nat->List (K×Addr×Value)
 |0=>[]
 |i+1=>storedH (rK a c b i) (a i) (c i) (b i)
theorem pI {K:Type} [DecidableEq K]{a:Nat->K}{b:Nat->Addr}{c:Nat->Value}{P:Addr->Prop}:∀(i:Nat),(∀j,j<i->P (b j))->∀x∈rK a b c i,P x.2.1
 |0,_=>λ_ h=>nomatch h
 |i+1,h=>rX (pI i λj d=>h j (by lia)) (h i (PY _))
theorem ph {K:Type} [DecidableEq K]{a:Nat->K}{c:Nat->Addr}{b:Nat->Value}:∀(i:Nat),(rK a c b i).length<=i
 |0=>NI _
 |i+1=>NP sT (Pu (ph i))
section
variable {DX KO:Nat->Heap->Prop}
theorem iw {l:Addr}{as:List Addr}{c:Nat}{Q:Value->Shared->Prop}(hh:A.handled=none)(P:s.heap.get? l=some {cls:=.type "list",data:=.seq (as.map Value.ref).toArray c})
  (Y W:Nat->Value) (hp:∀j,j<as.length->nX s.heap (as.getD j 0) (Y j) (W j)/\KO j s.heap)
  (M:∀j,j<as.length->∀h h':Heap,(∀b o,b<s.heap.objs.size->h.get? b=some o->h'.get? b=some o)->KO j h->KO j h')
  (U:∀i,i<=as.length->∀h h':Heap,(∀b o,b<=s.heap.objs.size->h.get? b=some o->h'.get? b=some o)->DX i h->DX i h')
  (N:∀i,i<as.length->∀(s':Shared) (Q:Unit->Shared->Prop) (E:Value->Shared->Prop),KO i s'.heap->DX i s'.heap->(∀h' t,s'.toks<=t->DX (i+1) h'->Heap.SameBut s.heap.objs.size s'.heap h'->Q () {s' with heap:=h',toks:=t})->wpAny (model prog w) A.in1.in1 (dictSet s.heap.objs.size (Y i) (W i)) Q E s')
  (h0:∀h':Heap,h'.get? s.heap.objs.size=some {cls:=.type "dict",data:=.dict #[]}->DX 0 h')
  (h:∀(h':Heap) (tk:Nat),DX as.length h'->(∀b o,s.heap.get? b=some o->h'.get? b=some o)->Q (.ref s.heap.objs.size) {s with heap:=h',toks:=tk}):
  wpAny (model prog w) A (call (.type "dict") [.ref l]) Q E s:=by
 refine callType_codes (Q₁:=λv J=>v=.ref s.heap.objs.size/\J={s with heap:=s.heap.push {cls:=.type "dict",data:=.dict #[]}}) F.kt_called_dict (F.kt_typeCall_dict_1 _) F.entry_dict_init (kt_code_dict_new _ ⟨rfl,rfl⟩) ?_
 rintro v J ⟨rfl,rfl⟩
 have a:∀b u,s.heap.get? b=some u->(s.heap.push {cls:=.type "dict",data:=.dict #[]}).get? b=some u:=λb u x=>NN _ x
 have nT:Shared.TypeIs {s with heap:=s.heap.push {cls:=.type "dict",data:=.dict #[]}} (.ref s.heap.objs.size) "dict" :=⟨_,NZ _ rfl,rfl⟩
 have lT:Shared.TypeIs {s with heap:=s.heap.push {cls:=.type "dict",data:=.dict #[]}} (.ref l) "list" :=⟨_,a _ _ P,rfl⟩
 have S:(s.heap.push {cls:=.type "dict",data:=.dict #[]}).get? s.heap.objs.size=some {cls:=.type "dict",data:=.dict #[]}:=NZ _ rfl
 have r:(s.heap.push {cls:=.type "dict",data:=.dict #[]}).objs.size=s.heap.objs.size+1:=OH ..
 revert a nT lT S r
 intro a nT lT S r
 refine⟨nT,F.args_dict_init_2 _ _,?_⟩
 refine ND ?_
 refine ND (Qy nT ?_)
 refine NH ?_
 show wpAny _ _ (Builtin.Dict.updateFrom "dict.__init__" s.heap.objs.size (.ref l) [] .none) _ _ _
 refine ND (PN lT ?_)
 refine ND (Fj (show A.in1.in1.handled=none from hh) (a _ _ P) λh1 aC I=>?_)
 refine ND (wpAny_rule (ND ?_))
 have n:h1.get? l=some {cls:=.type "list",data:=.seq (as.map Value.ref).toArray c}:=I _ _ (a _ _ P)
 have m:h1.IsList l (as.map Value.ref).toArray:=⟨_,n,rfl,c,rfl⟩
 refine Pe m (NH ⟨plainId_quiet pe _,?_⟩)
 have f:s.heap.objs.size+1<=h1.objs.size:=NO (I _ _ S)
 have G:l<s.heap.objs.size:=NO P
 have H:l≠h1.objs.size:=NS (NO n)
 have nD:s.heap.objs.size∉[h1.objs.size,l]:=λz=>by
  rcases NK.mp z with z|z
  ·exact absurd z (NS (Nat.lt_of_succ_le f))
  ·exact absurd (NR.mp z) (O7 G)
 have X:∀{b:Addr},b<s.heap.objs.size->b∉[h1.objs.size]:=λK z=>absurd (NR.mp z) (NS (Oc K (Nat.le_of_succ_le f)))
 have d:∀{b:Addr} {o:Obj},s.heap.get? b=some o->b<s.heap.objs.size:=λe=>NO e
 have D:A.in1.in1.handled=none:=by simpa using hh
 have sz:(as.map Value.ref).toArray.size=as.length:=by simp
 refine ve (A:=A.in1) ((Walks.list D _ l H (as.map Value.ref).toArray).toS) s.heap.objs.size nD (λi=>as.getD i 0) Y W (λi v hv=>?_) (λi hi=>?_) (λi hi g O Z z=>M i (sz▸hi) g O (λb o K e=>Z b o (NS K) (X K) e) z) (λi hi g O Z z=>U i (sz▸hi) g O (λb o K e=>Z b o (λy=>absurd (NR.mp y) (NS (Oc (Nat.lt_succ_of_le K) f))) e) z) (λi hi=>N i (sz▸hi))
  ((as.map Value.ref).toArray.size - 0) 0 0 _ (by lia) (N9 _) ⟨⟨_,NZ _ rfl,rfl,rfl⟩,m.push _⟩ (λj hj=>?_) (h0 _ (NN _ (I _ _ S))) λs' R ad=>?_
 ·have p:(as.map Value.ref).toArray[i]?=some v:=hv
  rw[List.getElem?_toArray,Od] at p
  obtain⟨x,hx,rfl⟩:=P9.mp p
  rw[OJ,hx];rfl
 ·obtain⟨⟨o,c',T,_⟩,_⟩:=hp i (sz▸hi)
  exact⟨NS (d T),X (d T)⟩
 ·obtain⟨⟨o,c',T,q2⟩,q3⟩:=hp j (sz▸hj)
  have up:∀b u,s.heap.get? b=some u->(h1.push {cls:=.type "list_iterator",data:=.fields #[.ref l,.int 0 0]}).get? b=some u:=λb u z=>NN _ (I _ _ (a _ _ z))
  exact⟨⟨o,c',up _ _ T,q2⟩,M j (sz▸hj) _ _ (λb o _ q=>up b o q) q3⟩
 ·obtain⟨h',O,d',B,C⟩:=s'
  obtain rfl:O=s.gens:=R.gens
  obtain rfl:d'=s.drawn:=R.drawn
  obtain rfl:C=s.os:=R.os
  refine⟨rfl,h h' B (sz▸ad) λb o e=>R.heap b o (λz=>?_) (NN _ (I _ _ (a _ _ e)))⟩
  rcases NK.mp z with z|z
  ·exact absurd z (NS (d e))
  ·exact X (d e) z
end
abbrev FJ (H:Hp) (as:List Addr) (kvs:List (List dq×V)):Prop:=Paired (λa (kv:List dq×V)=>∃b,H a=some (.tup [.ref b,kv.2])/\H b=some (.tup (kv.1.map kV))) as kvs
noncomputable def G3 {c:Type} [DecidableEq c] (b:List (c×V)):List (c×V):=b.foldl (λa kv=>gO a kv.1 kv.2) []
abbrev Le (kvs:List (List dq×V)):List (List dq×V):=G3 kvs
theorem nU {b:Type} [DecidableEq b]{a:List (b×V)}{p:b×V}:G3 (a++[p])=gO (G3 a) p.1 p.2:=by unfold G3;rw[List.foldl_append];rfl
theorem yh {d:Type} [DecidableEq d]{c:List (d×V)}:(G3 c).length<=c.length:=by
 have all:∀(l b:List (d×V)),(l.foldl (λb kv=>gO b kv.1 kv.2) b).length<=b.length+l.length:=by
  intro l
  induction l with
  |nil=>intro b;exact NI _
  |cons a r ih=>
   intro b
   have h1:=ih (gO b a.1 a.2)
   have h2:=fJ b a.1 a.2
   rw[List.foldl_cons,NU]
   lia
 have h:=all c []
 unfold G3
 simpa using h
theorem oj (hc:X.calm=true){k:Nat}(hr:dh k X.A):c_ X (.type "dict") (λxs H Q=>∃(l:Addr) (as:List Addr) (kvs:List (List dq×V)),xs=[.ref l]/\H l=some (.lst (as.map V.ref))/\FJ H as kvs/\∀p,H p=none->Q (.ref p) (upd H p (.dT (Le kvs)))):=by
 intro pins s σ H xs us Q I r h
 obtain⟨l,as,kvs,rfl,W,S,q⟩:=h
 obtain⟨u,rfl,ru⟩:=dY r
 cases ru
 obtain⟨T,w,c,rv,v⟩:=I.hok l _ W
 obtain rfl:=lh rv
 have hu:=hr.units
 have len:as.length=kvs.length:=Paired.length S
 have ex:∀j,∃(b:Addr) (u:Value),j<as.length->BG s.heap (as.getD j 0) b u/\H b=some (.tup ((kvs.getD j ([],.non)).1.map kV))/\bo (kvs.getD j ([],.non)).2 u:=λj=>by
  by_cases D:j<as.length
  ·have d:j<kvs.length:=by lia
   obtain⟨a,ha,b,h1,h2⟩:=g9 S j d
   obtain⟨_,ii,rr,o,ho,f,n,F⟩:=I.hok a _ h1
   obtain⟨u1,u2,rfl,Z,r2⟩:=kl rr
   cases(show u1=Value.ref b from Z)
   refine⟨b,u2,λ_=>?_⟩
   have e1:as.getD j 0=a:=by rw[OJ,ha];rfl
   have N:kvs.getD j ([],.non)=kvs[j]:=by rw[OJ,Ox d];rfl
   rw[e1,N]
   exact⟨⟨o,n,ho,f,F⟩,h2,r2⟩
  ·exact⟨0,.none,λz=>absurd z D⟩
 obtain⟨B,K⟩:∃B:Nat->Addr,∀j,∃u:Value,j<as.length->BG s.heap (as.getD j 0) (B j) u/\H (B j)=some (.tup ((kvs.getD j ([],.non)).1.map kV))/\bo (kvs.getD j ([],.non)).2 u:=⟨λj=>Classical.choose (ex j),λj=>Classical.choose_spec (ex j)⟩
 obtain⟨J,y⟩:∃J:Nat->Value,∀j,j<as.length->BG s.heap (as.getD j 0) (B j) (J j)/\H (B j)=some (.tup ((kvs.getD j ([],.non)).1.map kV))/\bo (kvs.getD j ([],.non)).2 (J j):=⟨λj=>Classical.choose (K j),λj=>Classical.choose_spec (K j)⟩
 have kt:∀i,i<=as.length->KT H (Le (kvs.take i)) (rK (λj=>(kvs.getD j ([],.non)).1) B J i):=by
  intro i
  induction i with
  |zero=>intro _;exact .nil
  |succ i ih=>
   intro hi
   obtain⟨_,h2,O⟩:=y i hi
   have m:i<kvs.length:=by lia
   have N:kvs[i]?=some (kvs.getD i ([],.non)):=by rw[OJ,Ox m];rfl
   have Y:kvs.take (i+1)=kvs.take i++[kvs.getD i ([],.non)]:=by rw[Pa,N];rfl
   unfold Le;rw[Y,nU]
   exact KT.put (ih (by lia)) _ h2 O
 have mono:∀{g M:Heap} {k:List dq} {b:Addr},(∀o,g.get? b=some o->M.get? b=some o)->(tupleKind (bG X.prog X.w)).is g k b->(tupleKind (bG X.prog X.w)).is M k b:=λG ⟨o,C,n,z1,z2⟩=>⟨o,C,n,G o z1,z2⟩
 refine iw (I.ok.hd hc) v (λj=> .ref (B j)) J (DX:=λi h=>h.DictOfH (tupleKind (bG X.prog X.w)) s.heap.objs.size (rK (λj=>(kvs.getD j ([],.non)).1) B J i)) (KO:=λj h=>(tupleKind (bG X.prog X.w)).is h (kvs.getD j ([],.non)).1 (B j)) (λj D=>?_) (λj D g M G z=>mono (λo q=>G _ o (I.hok.lt (y j D).2.1) q) z) (λi hi g M G ⟨o,es,ep,a1,a2,a3,a4,a5,a6⟩=>⟨o,es,ep,G _ _ (NI _) a1,a2,a3,a4,λx U=>mono (λo q=>G _ o (Py (pI (P:=λb=>b<s.heap.objs.size) i (λj D=>I.hok.lt (y j (Oc D hi)).2.1) x U)) q) (a5 x U),a6⟩) (λi hi s' Q E k1 d1 q=>wpAny_dictSet_heap (show X.A.units+1+1<cLine by lia) k1 d1 (λh' F sb=>q h' _ (O0 _ _) F sb) (NP (ph i) (NP (Py hi) (by simpa using T)))) (λh' e=>⟨_,#[],0,e,⟨rfl,rfl,rfl⟩,rfl,rfl,(λ_ z=>nomatch z),P1⟩) λh' tk F hk=>?_
 ·obtain⟨h1,h2,_⟩:=y j D
  exact⟨h1,rG I.hok h2⟩
 ·have R:=kt as.length (NI _)
  rw[len,Ob] at R
  rw[len] at F
  obtain⟨o,es,ep,h1,h2,O,h4,h5,h6⟩:=F
  have fr:H s.heap.objs.size=none:=I.hok.fresh (NI _)
  refine⟨.ref s.heap.objs.size,_,I.laid (a:=s.heap.objs.size) (o:=.dT (Le kvs)) (t':=tk) hk (NI _) ⟨NP yh (by rw[<-len];simpa using T),beq_eq_false_iff_ne.mpr (N6 (NS I.big)),_,R.keeps λb ys z=>?_,o,es,ep,h1,h2,O,h4,h6⟩,rfl,q _ fr⟩
  rw[ay (aD z fr)];exact z
structure Nx (prog:Program) (w:World) (A:Around) (it src:Addr) (vals:Array Value) (St:Nat->Heap->Prop):Prop where
 obj:∀i h,St i h->∃o vs,h.get? it=some o/\o.data=.fields vs/\o.cls≠.type "zip" /\∃o',h.get? src=some o'
 keep:∀i h h',St i h->(∀o,h.get? it=some o->h'.get? it=some o)->(∀o,h.get? src=some o->h'.get? src=some o)->St i h'
 item:∀(i:Nat) (s:Shared) (Q:Value->Shared->Prop) (E:Value->Shared->Prop) (x:Value),St i s.heap->vals[i]?=some x->(∀h',St (i+1) h'->Heap.SameBut it s.heap h'->Q x {s with heap:=h'})->wpAny (model prog w) A (Builtin.SmallTypes.nextOf (.ref it)) Q E s
 done:∀(i:Nat) (s:Shared) (Q:Value->Shared->Prop) (E:Value->Shared->Prop),A.handled=none->St i s.heap->vals[i]?=none->
  (∀h' e,Heap.ExtBut it s.heap h'->(∃o,h'.get? e=some o/\o.cls=.type "StopIteration")->E (.ref e) {s with heap:=h'})->wpAny (model prog w) A (Builtin.SmallTypes.nextOf (.ref it)) Q E s
theorem sQ{it:Addr}(hit:IsTupIter s.heap it t i)(e:IsTup s.heap t items)(hx:items[i]?=some x)
  (g:∀h',IsTupIter h' it t (i+1)->Heap.SameBut it s.heap h'->Q x {s with heap:=h'}):wpAny (model prog w) A (Builtin.SmallTypes.nextOf (.ref it)) Q E s:=by
 obtain⟨o,d,f,c⟩:=id hit
 obtain⟨h,b,_,nl,a⟩:=e
 refine ND (O9 (name:=Str.ofString "__next__") hit.typeIs slot_tupleiter_next (OG slot_tupleiter_next hit.typeIs entry_tupleiter_next ?_ (args_tupleiter_next _)))
 show wpAny _ _ (field (.ref it) 0>>=_) _ _ s
 refine ND (Oq d c (x:=.ref t) rfl ?_)
 refine ND (Oq d c (x:=.int i 0) rfl ?_)
 refine ND (Pb b a ?_)
 simp only[PJ,hx]
 refine ND (Pi d c (by simp) (NH ⟨x,rfl,NH (g _ ?_ (Heap.SameBut.update ..))⟩))
 exact⟨_,OR _ d (Obj.isFreed_of_fields (Obj.data_mapFields c _)),(Obj.cls_mapFields ..).trans f,by rw[Obj.data_mapFields c];simp[rawInt]⟩
theorem uS{it:Addr}(g:A.handled=none)(hit:IsTupIter s.heap it t i)(h:IsTup s.heap t items)(hx:items[i]?=none)
  (j:∀h' e,Heap.ExtBut it s.heap h'->(∃o,h'.get? e=some o/\o.cls=.type "StopIteration")->E (.ref e) {s with heap:=h'}):wpAny (model prog w) A (Builtin.SmallTypes.nextOf (.ref it)) Q E s:=by
 obtain⟨o,f,n,d⟩:=id hit
 obtain⟨l,c,_,nl,b⟩:=h
 refine ND (O9 (name:=Str.ofString "__next__") hit.typeIs slot_tupleiter_next (OG slot_tupleiter_next hit.typeIs entry_tupleiter_next ?_ (args_tupleiter_next _)))
 show wpAny _ _ (field (.ref it) 0>>=_) _ _ s
 refine ND (Oq f d (x:=.ref t) rfl ?_)
 refine ND (Oq f d (x:=.int i 0) rfl ?_)
 refine ND (Pb c b ?_)
 simp only[PJ,hx]
 refine ND (wpAny_rule (ND (Pi f d (by simp) ?_)))
 refine ND ?_
 refine ND (m:=firstArgMember _ _) (wpAny_of_eq (a:=Value.none) (by first|rfl|(simp only[firstArgMember];rfl)) (Ph ?_ (by size_fits)))
 refine ND (wpAny_handled ?_)
 first|rw[show A.in1.handled=none from g]|rw[g]
 refine ND (NH (wpAny_throw ?_))
 exact j _ _ (((Heap.SameBut.update ..).extBut.push _).push _) ⟨_,NZ _ rfl,rfl⟩
theorem Nx.tup {it t:Addr}{items:Array Value}(d:t≠it):Nx prog w A it t items (λi h=>IsTupIter h it t i/\IsTup h t items) where
 obj:=λi h ⟨⟨o,h1,h2,g⟩,⟨o',e,_⟩⟩=>⟨o,_,h1,g,by rw[h2];decide,o',e⟩
 keep:=λi h h' ⟨⟨o,h1,h2⟩,⟨o',e,j⟩⟩ k1 k2=>⟨⟨o,k1 _ h1,h2⟩,⟨o',k2 _ e,j⟩⟩
 item:=λi s Q E x ⟨h1,h2⟩ c m=>sQ h1 h2 c λh' a b=>m h' ⟨a,h2.extBut b.extBut d⟩ b
 done:=λi s Q E f ⟨h1,h2⟩ c l=>uS f h1 h2 c l
structure ZA (z TI TO i1 i2 s1 s2:Addr):Prop where
 TIz:TI≠z
 TOz:TO≠z
 i1z:i1≠z
 i2z:i2≠z
 TITO:TI≠TO
 TIi1:TI≠i1
 TIi2:TI≠i2
 TOi1:TO≠i1
 TOi2:TO≠i2
 i12:i1≠i2
 s1z:s1≠z
 s1TO:s1≠TO
 s1i2:s1≠i2
 s2z:s2≠z
 s2TO:s2≠TO
 s2i1:s2≠i1
theorem F2 {z TI TO p q s1 s2:Addr}{xs ys:Array Value}{M G:Nat->Heap->Prop}{i:Nat}{x y a b:Value}{Q:Value->Shared->Prop}(D:ZA z TI TO p q s1 s2)(K:Nx prog w A p s1 xs M)(C:Nx prog w A q s2 ys G)
  (n:IsZip s.heap z TI TO .none) (F:IsPair s.heap TI (.ref p) (.ref q)) (I:IsPair s.heap TO a b) (h1:M i s.heap) (h2:G i s.heap) (hx:xs[i]?=some x) (X:ys[i]?=some y)
  (Y:∀h',IsZip h' z TI TO (rawInt s.heap.objs.size)->IsPair h' TO x y->M (i+1) h'->G (i+1) h'->IsPair h' s.heap.objs.size x y->h'.objs.size=s.heap.objs.size+1->
   (∀c o,c≠z->c≠TO->c≠p->c≠q->s.heap.get? c=some o->h'.get? c=some o)->Q (.ref s.heap.objs.size) {s with heap:=h'}):
  wpAny (model prog w) A (Builtin.«zip.__next__» ⟨[.ref z],[]⟩) (λO s'=>∃v,O=.done (.ret v)/\Q v s') E s:=by
 show wpAny _ _ (field (.ref z) 2>>=_) _ _ _
 refine ND (Oq n rfl (x:=.bool false) rfl ?_)
 refine ND (Oq n rfl (x:=.ref TI) rfl (ND (Pb F rfl ?_)))
 refine ND ?_
 refine ND (Oq n rfl (x:=.none) rfl (NH ?_))
 refine ND (wpAny_rule (ND (Oq n rfl (x:=.ref TO) rfl (ND (P_ n (by simp) λW z1 k1=>?_)))))
 refine ND ?_
 refine ND (ND (wpAny_onRaise ?_))
 refine ND (K.item i {s with heap:=W} _ _ x (K.keep _ _ _ h1 (λo e=>k1.extBut _ _ D.i1z e) (λo e=>k1.extBut _ _ D.s1z e)) hx λg2 U k2=>NH ?_)
 have R:IsPair g2 TO a b:=k2.extBut _ _ D.TOi1 (k1.extBut _ _ D.TOz I)
 refine ND (Pb R rfl (ND (wpAny_updateSeq_pair R λg3 t3 k3=>?_)))
 refine ND (wpAny_letGo (NH ?_))
 refine ND (ND (wpAny_onRaise ?_))
 refine ND (C.item i {s with heap:=g3} _ _ y (C.keep _ _ _ h2 (λo e=>k3.extBut _ _ D.TOi2.symm (k2.extBut _ _ D.i12.symm (k1.extBut _ _ D.i2z e))) (λo e=>k3.extBut _ _ D.s2TO (k2.extBut _ _ D.s2i1 (k1.extBut _ _ D.s2z e)))) X λZ a2 k4=>NH ?_)
 have t4:IsPair Z TO x b:=k4.extBut _ _ D.TOi2 t3
 refine ND (Pb t4 rfl (ND (wpAny_updateSeq_pair t4 λl B k5=>?_)))
 replace B:IsPair l TO x y:=B
 refine ND (wpAny_letGo (NH (NH ?_)))
 refine ND (Pb B rfl (ND (wpAny_newTuple ?_)))
 have g:l.objs.size=s.heap.objs.size:=by rw[k5.1,k4.1,k3.1,k2.1,k1.1]
 have S:IsZip l z TI TO .ellipsis:=k5.extBut _ _ D.TOz.symm (k4.extBut _ _ D.i2z.symm (k3.extBut _ _ D.TOz.symm (k2.extBut _ _ D.i1z.symm z1)))
 have j:∀c o,c≠z->c≠TO->c≠p->c≠q->s.heap.get? c=some o->l.get? c=some o:=λc o m r H J e=>k5.extBut _ _ r (k4.extBut _ _ J (k3.extBut _ _ r (k2.extBut _ _ H (k1.extBut _ _ m e))))
 have d:z<l.objs.size:=NO S
 refine ND ?_
 have z6:IsZip (l.push {cls:=.type "tuple",data:=.seq #[x,y]}) z TI TO .ellipsis:=NN _ S
 refine ND (P_ z6 (by simp) λg7 z7 P=>?_)
 refine P_ z7 (by simp) λu T N=>?_
 have up:∀c o,c≠z->l.get? c=some o->u.get? c=some o:=λc o m e=>N.extBut _ _ m (P.extBut _ _ m (NN _ e))
 have h:IsPair u l.objs.size x y:=N.extBut _ _ (O7 d) (P.extBut _ _ (O7 d) (NZ _ rfl))
 have f:u.objs.size=l.objs.size+1:=by rw[N.1,P.1,OH]
 rw[g] at T h f
 refine NH ⟨_,rfl,?_⟩
 rw[g]
 exact Y u T (up _ _ D.TOz B)
  (K.keep _ _ _ U (λo e=>up _ o D.i1z (k5.extBut _ _ D.TOi1.symm (k4.extBut _ _ D.i12 (k3.extBut _ _ D.TOi1.symm e)))) (λo e=>up _ o D.s1z (k5.extBut _ _ D.s1TO (k4.extBut _ _ D.s1i2 (k3.extBut _ _ D.s1TO e)))))
  (C.keep _ _ _ a2 (λo e=>up _ o D.i2z (k5.extBut _ _ D.TOi2.symm e)) (λo e=>up _ o D.s2z (k5.extBut _ _ D.s2TO e))) h f λc o m r H J e=>up c o m (j c o m r H J e)
theorem Ie{TI TO:Addr}{N H:Nat->Heap->Prop}{Q:Fin->Shared->Prop}(M:A.handled=none)(D:ZA z TI TO i1 i2 s1 s2)(B:Nx prog w A i1 s1 xs N)(G:Nx prog w A i2 s2 ys H)
  (m:IsZip s.heap z TI TO .none) (p:IsPair s.heap TI (.ref i1) (.ref i2)) (v:IsPair s.heap TO a b) (h1:N i s.heap) (W:H i s.heap) (n:xs[i]?=none\/ys[i]?=none)
  (J:∀h' e,(∀c o,c≠z->c≠TO->c≠i1->c≠i2->s.heap.get? c=some o->h'.get? c=some o)->(∃o,h'.get? e=some o/\o.cls=.type "StopIteration")->E (.ref e) {s with heap:=h'}):
  wpAny (model prog w) A (Builtin.«zip.__next__» ⟨[.ref z],[]⟩) Q E s:=by
 show wpAny _ _ (field (.ref z) 2>>=_) _ _ _
 refine ND (Oq m rfl (x:=.bool false) rfl ?_)
 refine ND (Oq m rfl (x:=.ref TI) rfl (ND (Pb p rfl ?_)))
 refine ND ?_
 refine ND (Oq m rfl (x:=.none) rfl (NH ?_))
 refine ND (wpAny_rule (ND (Oq m rfl (x:=.ref TO) rfl (ND (P_ m (by simp) λr O k1=>?_)))))
 refine ND ?_
 refine ND (ND (wpAny_onRaise ?_))
 have j:=B.keep _ _ r h1 (λo e=>k1.extBut _ _ D.i1z e) (λo e=>k1.extBut _ _ D.s1z e)
 cases hx:xs[i]? with
 |none=>
  refine ND (B.done i {s with heap:=r} _ _ M j hx λC e k2 q=>?_)
  obtain⟨oe,d,f⟩:=q
  have K:IsZip C z TI TO .ellipsis:=k2 _ _ D.i1z.symm O
  have g:e≠z:=λx=>by subst x;rw[K] at d;cases d;simp at f
  exact P_ K (by simp) λy _ k3=>J y e (λc o l _ u _ x=>k3.extBut _ _ l (k2 _ _ u (k1.extBut _ _ l x))) ⟨oe,k3.extBut _ _ g d,f⟩
 |some x=>
  have S:ys[i]?=none:=by rcases n with h|h;rw[hx] at h;cases h;exact h
  refine ND (B.item i {s with heap:=r} _ _ x j hx λC X k2=>NH ?_)
  have F:IsPair C TO a b:=k2.extBut _ _ D.TOi1 (k1.extBut _ _ D.TOz v)
  refine ND (Pb F rfl (ND (wpAny_updateSeq_pair F λy t3 k3=>?_)))
  refine ND (wpAny_letGo (NH ?_))
  refine ND (ND (wpAny_onRaise ?_))
  refine ND (G.done i {s with heap:=y} _ _ M (G.keep _ _ _ W (λo e=>k3.extBut _ _ D.TOi2.symm (k2.extBut _ _ D.i12.symm (k1.extBut _ _ D.i2z e))) (λo e=>k3.extBut _ _ D.s2TO (k2.extBut _ _ D.s2i1 (k1.extBut _ _ D.s2z e)))) S λT e k4 q=>?_)
  obtain⟨oe,d,f⟩:=q
  have I:IsZip T z TI TO .ellipsis:=k4 _ _ D.i2z.symm (k3.extBut _ _ D.TOz.symm (k2.extBut _ _ D.i1z.symm O))
  have g:e≠z:=λx=>by subst x;rw[I] at d;cases d;simp at f
  exact P_ I (by simp) λR _ k5=>J R e (λc o l P u U x=>k5.extBut _ _ l (k4 _ _ U (k3.extBut _ _ P (k2.extBut _ _ u (k1.extBut _ _ l x))))) ⟨oe,k5.extBut _ _ g d,f⟩
theorem qX(I:aM X pins σ H s)(h:bY X.K H t xs)(f:jT X pins H b):t≠b:=λz=>by
 subst z
 obtain⟨c,g,l,f3,i,j⟩:=f
 rcases h with (h|⟨_,h⟩)|⟨o,e,n,d,_⟩
 ·rw[c] at h;cases h
 ·rw[c] at h;cases h
 ·have a:=I.ok.mod.kin _ _ d
  rcases f3 with f3|f3
  ·exact I.ok.noex _ _ a f3
  ·exact absurd (Oc (NO (I.ok.bs _ _ a).1) f3) (OP _)
noncomputable def BC (K:NJ) (b a:Addr):It:=
 ⟨λi H=>∃xs ys x y,bY K H b xs/\bY K H a ys/\xs[i]?=some x/\ys[i]?=some y,
  λi H x H'=>∃p c d,H p=none/\x=.ref p/\H'=upd H p (.tup [c,d])/\(∀xs,bY K H b xs->xs[i]?=some c)/\∀ys,bY K H a ys->ys[i]?=some d,
  λi H=>∃xs ys,bY K H b xs/\bY K H a ys/\(xs.length<=i\/ys.length<=i)⟩
def Kj (z TI TO c d f e:Addr) (i:Nat) (h:Heap):Prop:=IsZip h z TI TO .none/\IsPair h TI (.ref c) (.ref d)/\(∃a b,IsPair h TO a b)/\IsTupIter h c f i/\IsTupIter h d e i
theorem zg {P:Program}{bc:List Expr}{x1:Nat}{b6:Pos}(z TI TO i1 i2 t1 t2:Addr)(D0:TI≠z/\TO≠z/\i1≠z/\i2≠z/\TI≠TO/\TI≠i1/\TI≠i2/\TO≠i1/\TO≠i2/\i1≠i2):
  nO P w K (.Tuple bc x1 b6) (BC K t1 t2) [z,TI,TO,i1,i2] z (Kj z TI TO i1 i2 t1 t2) where
 mem:=by simp
 obj:=λi h st b hb=>by
  obtain⟨h1,h2,⟨a,c,h3⟩,⟨o4,h4,_,d4⟩,⟨o5,h5,_,d5⟩⟩:=st
  simp only[NK,N3,or_false] at hb
  rcases hb with rfl|rfl|rfl|rfl|rfl
  ·exact⟨_,h1,λv e=>by have e':Data.fields _=Data.cell v:=e;cases e'⟩
  ·exact⟨_,h2,λv e=>by have e':Data.seq _ _=Data.cell v:=e;cases e'⟩
  ·exact⟨_,h3,λv e=>by have e':Data.seq _ _=Data.cell v:=e;cases e'⟩
  ·exact⟨_,h4,λv e=>by rw[d4] at e;cases e⟩
  ·exact⟨_,h5,λv e=>by rw[d5] at e;cases e⟩
 keep:=λi h h' ⟨h1,h2,⟨a,c,h3⟩,⟨o4,h4,c4,d4⟩,⟨o5,h5,c5,d5⟩⟩ k=>⟨k z (by simp) _ h1,k TI (by simp) _ h2,⟨a,c,k TO (by simp) _ h3⟩,⟨o4,k i1 (by simp) _ h4,c4,d4⟩,⟨o5,k i2 (by simp) _ h5,c5,d5⟩⟩
 item:=by
  intro X hP hw hK hc i pins s σ H E I hf st hg
  subst hP hw hK
  obtain⟨xs,ys,x,y,j,g,hx,hy⟩:=hg
  obtain⟨hz,B,⟨a,b,N⟩,J,M⟩:=st
  obtain⟨C,r1,p1,_⟩:=I.tuple j
  obtain⟨G,r2,p2,_⟩:=I.tuple g
  obtain⟨u1,am,af⟩:=r1.get hx
  obtain⟨u2,ai,Z⟩:=r2.get hy
  obtain⟨d1,d2,d3,d4,d5,d6,d7,d8,d9,R⟩:=D0
  have f:∀b∈[z,TI,TO,i1,i2],t1≠b:=λb hb=>qX I j (hf b hb)
  have d:∀b∈[z,TI,TO,i1,i2],t2≠b:=λb hb=>qX I g (hf b hb)
  have D:ZA z TI TO i1 i2 t1 t2:=⟨d1,d2,d3,d4,d5,d6,d7,d8,d9,R,f _ (by simp),f _ (by simp),f _ (by simp),d _ (by simp),d _ (by simp),d _ (by simp)⟩
  have hT:s.TypeIs (.ref z) "zip" :=⟨_,hz,rfl⟩
  have nT:s.heap.get? s.heap.objs.size=none:=O6 (NI _)
  have S:∀b∈[z,TI,TO,i1,i2],b<s.heap.objs.size:=λb hb=>by
   obtain⟨_,e4,_⟩:=J
   obtain⟨_,e5,_⟩:=M
   simp only[NK,N3,or_false] at hb
   rcases hb with rfl|rfl|rfl|rfl|rfl
   ·exact NO hz
   ·exact NO B
   ·exact NO N
   ·exact NO e4
   ·exact NO e5
  refine ND (ON (O9 (name:=Str.ofString "__next__") hT F.slot_zip_next (OG F.slot_zip_next hT F.entry_zip_next
   (F2 D (Nx.tup (items:=C.toArray) (f _ (by simp))) (Nx.tup (items:=G.toArray) (d _ (by simp))) hz B N ⟨J,p1⟩ ⟨M,p2⟩ (by simpa using am) (by simpa using ai) λh' a1 a2 a3 a4 a5 a6 hk=>NH ⟨_,rfl,?_⟩) (F.args_zip_next_1 _))))
  refine wpAny_letOwnedTupleGo_zip (s:={s with heap:=h'}) a1 λh2 bD sb=>?_
  have ac:z<s.heap.objs.size:=S z (by simp)
  have ad:h2.get? s.heap.objs.size=some {cls:=.type "tuple",data:=.seq #[u1,u2]}:=(sb.2 _ (O7 ac)).trans a5
  refine⟨.ref s.heap.objs.size,upd H s.heap.objs.size (.tup [x,y]),aM.turnedLaid (s:=s) (h':=h2) (fp:=[z,TI,TO,i1,i2]) (t':=s.toks) I hf (λb v hb q=>?_) nT ?_,rfl,⟨_,x,y,I.hok.none_of nT,rfl,rfl,λl hl=>by rw[I.tuple_inj hl j];exact hx,λl hl=>by rw[I.tuple_inj hl g];exact hy⟩,
   ⟨bD,?_,⟨_,_,(sb.2 _ d2).trans a2⟩,?_,?_⟩,λb hb=>?_⟩
  ·have p:b≠z/\b≠TO/\b≠i1/\b≠i2:=⟨λe=>hb (by simp[e]),λe=>hb (by simp[e]),λe=>hb (by simp[e]),λe=>hb (by simp[e])⟩
   exact(sb.2 b p.1).trans (hk b v p.1 p.2.1 p.2.2.1 p.2.2.2 q)
  ·exact⟨by show 2<=sizeLine;decide,_,.cons af (.cons Z .nil),_,ad,rfl,_,rfl⟩
  ·exact(sb.2 _ d1).trans (hk _ _ d1 d5 d6 d7 B)
  ·obtain⟨o,e,r⟩:=a3.1
   exact⟨o,(sb.2 _ d3).trans e,r⟩
  ·obtain⟨o,e,r⟩:=a4.1
   exact⟨o,(sb.2 _ d4).trans e,r⟩
  ·rw[ay (NS (S b hb))];exact(hf b hb).1
 done:=by
  intro X hP hw hK hc i pins s σ H E I hf st hg
  subst hP hw hK
  obtain⟨xs,ys,j,g,U⟩:=hg
  obtain⟨hz,B,⟨a,b,N⟩,J,M⟩:=st
  obtain⟨C,r1,p1,_⟩:=I.tuple j
  obtain⟨G,r2,p2,_⟩:=I.tuple g
  have e1:=r1.length
  have e2:=r2.length
  obtain⟨d1,d2,d3,d4,d5,d6,d7,d8,d9,R⟩:=D0
  have f:∀b∈[z,TI,TO,i1,i2],t1≠b:=λb hb=>qX I j (hf b hb)
  have d:∀b∈[z,TI,TO,i1,i2],t2≠b:=λb hb=>qX I g (hf b hb)
  have D:ZA z TI TO i1 i2 t1 t2:=⟨d1,d2,d3,d4,d5,d6,d7,d8,d9,R,f _ (by simp),f _ (by simp),f _ (by simp),d _ (by simp),d _ (by simp),d _ (by simp)⟩
  have hT:s.TypeIs (.ref z) "zip" :=⟨_,hz,rfl⟩
  refine ND (ON (O9 (name:=Str.ofString "__next__") hT F.slot_zip_next (OG F.slot_zip_next hT F.entry_zip_next
   (Ie (show X.A.in1.handled=none from I.ok.hd hc) D (Nx.tup (items:=C.toArray) (f _ (by simp))) (Nx.tup (items:=G.toArray) (d _ (by simp))) hz B N ⟨J,p1⟩ ⟨M,p2⟩ ?_ λh' e hk he=>?_) (F.args_zip_next_1 _))))
  ·rcases U with h|h
   ·exact .inl (Array.getElem?_eq_none (by simp;lia))
   ·exact .inr (Array.getElem?_eq_none (by simp;lia))
  ·obtain⟨o,ho,W⟩:=he
   refine ND (PM (T:= "StopIteration") (b:=true) ⟨o,ho,W⟩ isSubtype_stop ?_)
   refine NH ⟨rfl,?_⟩
   refine I.step (g':=s.gens) (d':=s.drawn) (t':=s.toks) (h':=h') (ch:=[z,TI,TO,i1,i2]) (λb hb=>⟨(hf b hb).2.2.2.1,(hf b hb).2.1,(hf b hb).2.2.2.2.1,(hf b hb).2.2.2.2.2⟩) (λb u _ _ hc' q _=>?_) (λb u _ _ hc' q _=>⟨u.slots,?_⟩) (λb u _ _ n=>n) (λb u hc' q=>⟨u,?_⟩) (λb xs q=>q) (λb u xs q=>q) (λb ps q=>⟨#[],by rw[q];simp⟩) (λm hm=>?_) (λb u q=>?_) I.bare
   ·exact hk b u (λe=>hc' (by simp[e])) (λe=>hc' (by simp[e])) (λe=>hc' (by simp[e])) (λe=>hc' (by simp[e])) q
   ·exact hk b u (λe=>hc' (by simp[e])) (λe=>hc' (by simp[e])) (λe=>hc' (by simp[e])) (λe=>hc' (by simp[e])) q
   ·exact hk b u (λe=>hc' (by simp[e])) (λe=>hc' (by simp[e])) (λe=>hc' (by simp[e])) (λe=>hc' (by simp[e])) q
   ·obtain⟨o',es,ep,Y,r⟩:=hm
    have nl:∀b∈[z,TI,TO,i1,i2],X.env.locals≠b:=λb hb=>N6 (hf b hb).2.1
    exact⟨o',es,ep,hk _ o' (nl _ (by simp)) (nl _ (by simp)) (nl _ (by simp)) (nl _ (by simp)) Y,r⟩
   ·have uy:∀b∈[z,TI,TO,i1,i2],∀c u,H c=some u->c≠b:=λb hb c u e z=>by rw[z,(hf b hb).1] at e;cases e
    refine(I.hok b u q).stay (λc v hc' e=>?_) (λ_ e=>e) λ_ _ e=>e
    have an:∃u',H c=some u':=by
     rcases hc' with rfl|hc'
     ·exact⟨_,q⟩
     ·exact⟨_,hc'⟩
    obtain⟨u',O⟩:=an
    exact hk c v (uy _ (by simp) c u' O) (uy _ (by simp) c u' O) (uy _ (by simp) c u' O) (uy _ (by simp) c u' O) e
 self:=λA i s Q E st h=>wpAny_pyIter_zip st.1 h
abbrev FA (h:Heap) (l1:Addr):Heap:=h.push {cls:=.type "tuple_iterator",data:=.fields #[.ref l1,.int 0 0]}
abbrev Es (h:Heap) (l1 l2:Addr):Heap:=(FA h l1).push {cls:=.type "tuple_iterator",data:=.fields #[.ref l2,.int 0 0]}
abbrev FD (h:Heap) (l1 l2:Addr):Heap:=(Es h l1 l2).push {cls:=.type "tuple",data:=.seq #[.ref h.objs.size,.ref (FA h l1).objs.size]}
abbrev Gd (h:Heap) (l1 l2:Addr):Heap:=(FD h l1 l2).push {cls:=.type "tuple",data:=.seq #[.none,.none]}
abbrev ur (h:Heap) (l1 l2:Addr):Heap:=(Gd h l1 l2).push {cls:=.type "zip",data:=.fields #[.none,.bool false,.bool false,.ref (Es h l1 l2).objs.size,.ref (FD h l1 l2).objs.size]}
theorem C0 (a b:Addr)(xs ys:Array Value):Meets (Builtin.«zip.__new__» ⟨[.type "zip",.ref a,.ref b],[]⟩) (λ_ R s=>IsTup s.heap a xs/\IsTup s.heap b ys/\R (.ok (.ret (.ref (Gd s.heap a b).objs.size))) {s with heap:=ur s.heap a b}):=
 .of_wp λprog w A R s h=>by
  obtain⟨c,g,d,tk,os⟩:=s;obtain⟨e,f,h⟩:=h
  have sz:=sub_zip
  have i:IsTup (Shared.heap ⟨c,g,d,tk,os⟩) a xs:=e
  have b2:IsTup (Shared.heap ⟨c.push {cls:=.type "tuple_iterator",data:=.fields #[.ref a,.int 0 0]},g,d,tk,os⟩) b ys:=IsTup.push f _
  wp_walk using iter_tuple i,iter_tuple b2
  exact⟨_,rfl,h⟩
theorem zF(f:IsTup s.heap l1 xs)(g:IsTup s.heap l2 ys)
  (h:∀h',Kj (s.heap.objs.size+4) (s.heap.objs.size+2) (s.heap.objs.size+3) s.heap.objs.size (s.heap.objs.size+1) l1 l2 0 h'->h'.objs.size=s.heap.objs.size+5->(∀c o,s.heap.get? c=some o->h'.get? c=some o)->Q (.ref (s.heap.objs.size+4)) {s with heap:=h'}):
  wpAny (model prog w) A (call (.type "zip") [.ref l1,.ref l2]) Q E s:=by
 refine callType_new F.called_zip (by decide) (F.typeCall_zip_2 _ _) (F.newCall_zip_2 _ _) (λe=>F.args_object_init_3 e _ _) F.entry_zip_new (C0 l1 l2 xs ys) ⟨f,g,?_⟩
 have b:(FA s.heap l1).objs.size=s.heap.objs.size+1:=OH ..
 have a:(Es s.heap l1 l2).objs.size=s.heap.objs.size+2:=by rw[OH,b]
 have d:(FD s.heap l1 l2).objs.size=s.heap.objs.size+3:=by rw[OH,a]
 have j:(Gd s.heap l1 l2).objs.size=s.heap.objs.size+4:=by rw[OH,d]
 have q:(ur s.heap l1 l2).objs.size=s.heap.objs.size+5:=by rw[OH,j]
 have i:(ur s.heap l1 l2).get? (Gd s.heap l1 l2).objs.size=some _:=NZ _ rfl
 have n:(ur s.heap l1 l2).get? (FD s.heap l1 l2).objs.size=some _:=NN _ (NZ _ rfl)
 have l:(ur s.heap l1 l2).get? (Es s.heap l1 l2).objs.size=some _:=NN _ (NN _ (NZ _ rfl))
 have m:(ur s.heap l1 l2).get? (FA s.heap l1).objs.size=some _:=NN _ (NN _ (NN _ (NZ _ rfl)))
 have p:(ur s.heap l1 l2).get? s.heap.objs.size=some _:=NN _ (NN _ (NN _ (NN _ (NZ _ rfl))))
 rw[a,d,j] at i
 rw[b,a] at l
 rw[d] at n
 rw[b] at m
 rw[j]
 exact⟨⟨_,i,rfl⟩,h _ ⟨i,l,⟨_,_,n⟩,⟨_,p,rfl,rfl⟩,⟨_,m,rfl,rfl⟩⟩ q λc o x=>NN _ (NN _ (NN _ (NN _ (NN _ x))))⟩
def Lm (K:NJ) (ta:TA):TI:=λσ H R=>ta σ H λvs H1=>∃a b,vs=[.ref a,.ref b]/\(∃xs,bY K H1 a xs)/\(∃ys,bY K H1 b ys)/\R (BC K a b) H1
theorem E5(F:Gl X "zip")(E:X.mg "zip" =none)(J:PA X [a,b] ta)(N:starEach [a,b] X.env=[(false,eval a X.env),(false,eval b X.env)]:=by rfl)
  (x:starEach [a,b] X.env=(false,eval a X.env)::starEach [b] X.env:=by rfl) (o:(backTo pos (starEach [b] X.env)).any (·.1)=false:=by rfl):
  PI X (.Tuple elts x1 pt) (.Call (.Name "zip" p) [a,b] [] pos) (Lm X.K ta):=by
 intro pins s σ H R I h
 refine Pj (ig I F E Hx ?_ (by decide) (by decide))
 refine PyProof.Rows.callWith_type1 (cJ (J pos pins s σ H _ I h) λM s1 G=>?_) x o
 obtain⟨vs,H1,I1,w,r,u,C,⟨xs,f⟩,⟨ys,e⟩,q⟩:=G
 subst C
 obtain⟨D,A,rfl,d,g⟩:=kl w
 cases(show D=Value.ref r from d)
 cases(show A=Value.ref u from g)
 obtain⟨i,m,B,_⟩:=I1.tuple f
 obtain⟨j,l,p2,_⟩:=I1.tuple e
 refine zF B p2 λh' st sz y=>?_
 refine wpAny_pyIter_zip (s:={s1 with heap:=h'}) st.1 ?_
 refine⟨s1.heap.objs.size+4,[s1.heap.objs.size+4,s1.heap.objs.size+2,s1.heap.objs.size+3,s1.heap.objs.size,s1.heap.objs.size+1],_,_,H1,rfl,I1.kept (t':=s1.toks) y,zg _ _ _ _ _ r u ?_,st,λb v=>?_,q⟩
 ·generalize s1.heap.objs.size=n
  refine⟨?_,?_,?_,?_,?_,?_,?_,?_,?_,?_⟩<;>(intro z;have O:(_:Nat)=_:=z;lia)
 ·have c:s1.heap.objs.size<=b:=by
   simp only[NK,N3,or_false] at v
   rcases v with rfl|rfl|rfl|rfl|rfl
   ·exact O0 _ _
   ·exact O0 _ _
   ·exact O0 _ _
   ·exact NI _
   ·exact O0 _ _
  exact I1.fpOk c (I1.hok.fresh c)
theorem Cc {a b:Addr}{xs ys:List V}{g:TG}{tb:TS}{D:ez}(q:xs.length=ys.length)(c:Nat->St->Hp->Prop)(h0:c 0 σ H)(n:∀i σ H,i<=xs.length->c i σ H->bY K H a xs/\bY K H b ys)
  (o:∀i x y p σ H,xs[i]?=some x->ys[i]?=some y->H p=none->c i σ H->g (.ref p) σ (upd H p (.tup [x,y])) λd H2=>tb {D with nx:=c (i+1),ct:=c (i+1),bk:=D.nx} d H2) (hd:∀σ H,c xs.length σ H->D.nx σ H):
  ∃W:Nat->Nat->St->Hp->Prop,(∃m,W 0 m σ H)/\∀i m σ H,W i m σ H->
   ((BC K a b).stop i H/\D.nx σ H)\/((BC K a b).go i H/\∃N:St->Hp->Prop,(∀f H',N f H'->∃l,l<m/\W (i+1) l f H')/\∀x H',(BC K a b).yld i H x H'->g x σ H' λd H2=>tb {D with nx:=N,ct:=N,bk:=D.nx} d H2):=by
 refine⟨λi m σ H=>m=xs.length - i/\i<=xs.length/\c i σ H,⟨xs.length,by simp,N9 _,h0⟩,?_⟩
 rintro i m σ H ⟨rfl,hi,p⟩
 obtain⟨j,h⟩:=n i σ H hi p
 by_cases hlt:i<xs.length
 ·refine .inr ⟨⟨xs,ys,xs[i],ys[i],j,h,by simp[hlt],by simp[show i<ys.length by omega]⟩,c (i+1),λf H' A=>⟨xs.length - (i+1),by omega,rfl,hlt,A⟩,λx H' z=>?_⟩
  obtain⟨P,s,u,w,rfl,rfl,v,r⟩:=z
  exact o i s u P σ _ (v xs j) (r ys h) w p
 ·have e:i=xs.length:=by omega
  subst e
  exact .inl ⟨⟨xs,ys,j,h,.inl (NI _)⟩,hd σ H p⟩
section
variable {d it v:Addr} {o:Obj} {es:Array DictEntry} {i ep:Nat}
theorem Fh(hd:(d==sysModules)=false)(c:s.heap.get? d=some o)(b:o.ExactDict)
  (h:Q (.ref s.heap.objs.size) {s with heap:=s.heap.push {cls:=.type "dict_values",data:=.fields #[.ref d]}}):wpAny (model prog w) A (call (.builtin "dict.values") [.ref d]) Q E s:=by
 have a:s.TypeIs (.ref d) "dict" :=⟨o,c,b.1⟩
 refine OG F.slot_dict_values a F.entry_dict_values ?_ (F.args_dict_values_1 _)
 refine ND ?_
 refine ND (Qy a ?_)
 refine NH ?_
 unfold Builtin.Dict.showsAll
 rw[if_neg (by rw[hd];exact NY)]
 exact ND (NH (ND (Ph (NH ⟨_,rfl,h⟩))))
theorem E4(f:s.heap.IsValuesView v d)(g:s.heap.get? d=some o)(e:o.data=.dict es ep)
  (h:Q (.ref s.heap.objs.size) {s with heap:=s.heap.push {cls:=.type "dict_valueiterator",data:=.fields #[.ref d,.int 0 0,.int es.size 0,.int ep 0]}}):wpAny (model prog w) A (pyIter (.ref v)) Q E s:=by
 obtain⟨i,b,c,a⟩:=id f
 refine wpAny_pyIter_slot f.typeIs F.slot_dict_values_iter (OG F.slot_dict_values_iter f.typeIs F.entry_dict_values_iter ?_ (F.args_dict_values_iter_1 _))
 refine ND (NH (ND ?_))
 refine ND (Oq b a (x:=.ref d) rfl (NH (ND ?_)))
 refine ND (O_ g e (ND (P4 g e ?_)))
 simp only[show Builtin.Dict_items.ownsTuple "dict_valueiterator" =false by decide,Bool.false_eq_true,if_false]
 refine Ph (NH ⟨_,rfl, "dict_valueiterator",_,⟨_,NZ _ rfl,rfl⟩,F.slot_dict_valueiterator_next.lookup,?_⟩)
 simpa[rawInt] using h
theorem EC(hit:s.heap.IsValIter it d i es.size ep)(c:s.heap.get? d=some o)(b:o.data=.dict es ep)(hi:i<es.size)
  (h:∀h',h'.IsValIter it d (i+1) es.size ep->Heap.SameBut it s.heap h'->Q (some es[i].val) {s with heap:=h'}):wpAny (model prog w) A (pyNext (.ref it)) Q E s:=by
 obtain⟨j,f,g,e⟩:=id hit
 refine ND (ON (O9 (name:=Str.ofString "__next__") hit.typeIs F.slot_dict_valueiterator_next
  (OG F.slot_dict_valueiterator_next hit.typeIs F.entry_dict_valueiterator_next ?_ (F.args_dict_valueiterator_next_1 _))))
 refine ND (NH (ND (ND ?_)))
 refine ND (QA hit.typeIs (NH ?_))
 refine ND (wpAny_fieldsOf f e ?_)
 show wpAny _ _ (if (Value.ref d==Value.none)=true then _ else _) _ _ s
 refine ND (NH (ND (O_ c b ?_)))
 rw[if_neg (by simp)]
 refine ND (NH (ND (P4 c b ?_)))
 rw[if_neg (by simp)]
 refine NH ?_
 simp only[show¬((i:Int)<0) from by lia,if_false,PJ,P7 hi]
 refine ND ?_
 refine ND (QA hit.typeIs (NH ?_))
 refine ND (wpAny_isOneOf_valiter hit.typeIs ?_)
 show wpAny _ _ (setField (.ref it) 1 (rawInt ((i:Int)+1))>>=_) _ _ s
 refine ND (Pi f e (by simp) ?_)
 have a:(s.heap.update it (Obj.mapFields (·.setIfInBounds 1 (rawInt ((i:Int)+1))))).IsValIter it d (i+1) es.size ep:=
  ⟨_,OR _ f (Obj.isFreed_of_fields (Obj.data_mapFields e _)),(Obj.cls_mapFields ..).trans g,by rw[Obj.data_mapFields e];simp[rawInt]⟩
 refine ND (Oe (ND (wpAny_isOneOf_valiter (s:={s with heap:=s.heap.update it (Obj.mapFields (·.setIfInBounds 1 (rawInt ((i:Int)+1))))}) a.typeIs ?_)))
 refine ND (wpAny_isOneOf_valiter (s:={s with heap:=s.heap.update it (Obj.mapFields (·.setIfInBounds 1 (rawInt ((i:Int)+1))))}) a.typeIs ?_)
 exact NH (NH ⟨_,rfl,NH (h _ a (Heap.SameBut.update ..))⟩)
theorem Jv(e:A.handled=none)(hit:s.heap.IsValIter it d i es.size ep)(b:s.heap.get? d=some o)(a:o.data=.dict es ep)(hi:es.size<=i)(c:∀h',Heap.ExtBut it s.heap h'->Q none {s with heap:=h'}):wpAny (model prog w) A (pyNext (.ref it)) Q E s:=(xP e b a hi c).2 hit
end
noncomputable def Lk (d:Addr) (o:Obj) (u:HO):It:=
 ⟨λi H=>H d=some (.frz o u)/\i<lG u,λi H v H'=>H'=H/\∃x,jx H u i x v,λi H=>H d=some (.frz o u)/\lG u<=i⟩
theorem zy {P:Program}{tg:Expr}(d it:Addr)(o:Obj)(u:HO)(T:oV u)(es:Array DictEntry)(O:Nat)(hd:o.data=.dict es O):
  nO P w K tg (Lk d o u) [it] it (λi h=>h.IsValIter it d i es.size O) where
 mem:=by simp
 obj:=λi h st b n=>by
  rw[NR.mp n]
  obtain⟨r,e,c,q⟩:=st
  exact⟨r,e,λv z=>by rw[q] at z;cases z⟩
 keep:=λi h h' st k=>Heap.IsValIter.at st λr e=>k it (by simp) r e
 item:=by
  intro X hP hw Z R i pins s σ H E I y st M
  obtain⟨C,hi⟩:=M
  obtain⟨_,g,_,m,l,a,W,f⟩:=jF I.hok C T
  rw[hd] at a;cases a
  obtain⟨D,J,f2,G,N,B⟩:=y it (by simp)
  have j:i<es.size:=by omega
  obtain⟨x,v,Y,r1,U⟩:=f i j
  refine EC st g hd j λh' p sb=>?_
  have I1:aM X pins σ H {s with heap:=h'}:=I.turned (t':=s.toks) (λb S n e=>(sb.2 b n).trans e) D J G N B
  obtain⟨r,e,c,q⟩:=id p
  exact⟨_,rfl,pY (s:={s with heap:=h'}) e c q (by decide) ⟨v,H,I1,U,⟨rfl,x,Y⟩,p,λb n=>(y b n).1⟩⟩
 done:=by
  intro X hP hw Z R i pins s σ H E I y st M
  obtain⟨C,hi⟩:=M
  obtain⟨_,g,_,m,l,a,W,f⟩:=jF I.hok C T
  rw[hd] at a;cases a
  obtain⟨D,J,f2,G,N,B⟩:=y it (by simp)
  exact Jv (I.ok.hd R) st g hd (by omega) λh' eb=>⟨rfl,I.turned (t':=s.toks) (λb S n e=>eb b S n e) D J G N B⟩
 self:=λA i s Q E st h=>by
  refine wpAny_pyIter_slot st.typeIs F.slot_dict_valueiterator_iter (OG F.slot_dict_valueiterator_iter st.typeIs entry_dict_valueiterator_iter ?_ (F.args_dict_valueiterator_iter_1 _))
  exact NH ⟨_,rfl, "dict_valueiterator",_,st.typeIs,F.slot_dict_valueiterator_next.lookup,h⟩
def Lo (a:TE):TI:=λσ H R=>a σ H λx H1=>∃d o u,x=.ref d/\H1 d=some (.frz o u)/\oV u/\R (Lk d o u) H1
theorem yV(A:PE X e te)
  (i:attributeBase e "values" X.env (eval e X.env)=eval e X.env:=by rfl) (g:(apos.endLine==cpos.line)=true:=by rfl):
  PI X tg (.Call (.Attribute e "values" apos) [] [] cpos) (Lo te):=by
 intro pins s σ H R I h
 refine wpAny_Call_method0_late i g (cJ (A pins s σ H _ I h) λv s1 y=>?_)
 obtain⟨x,H1,I1,r,d,o,u,ex,p,m,q⟩:=y
 subst ex
 cases(show v=Value.ref d from r)
 obtain⟨w,c,l,es,ep,f,C,_⟩:=jF I1.hok p m
 refine⟨"dict", "dict.values",F.plainAttrs_dict,F.slot_dict_values,F.type_dict_values,⟨o,c,l.1⟩,λa n=>by cases n;exact⟨o,c,l.2.1⟩,Calls.callWith_builtin rfl (PySem.evalArgs_none ?_)⟩
 refine Fh w c l ?_
 have k1:∀b ob,s1.heap.get? b=some ob->(s1.heap.push {cls:=.type "dict_values",data:=.fields #[.ref d]}).get? b=some ob:=λb ob z=>NN _ z
 refine E4 (s:={s1 with heap:=s1.heap.push {cls:=.type "dict_values",data:=.fields #[.ref d]}}) ⟨_,NZ _ rfl,rfl,rfl⟩ (k1 _ _ c) f ?_
 have j:=I1.kept (t':=s1.toks) k1
 refine⟨_,[(s1.heap.push {cls:=.type "dict_values",data:=.fields #[.ref d]}).objs.size],_,_,H1,rfl,j.kept (t':=s1.toks) (λb ob z=>NN _ z),zy d _ o u m es ep f,⟨_,NZ _ rfl,rfl,rfl⟩,λb B=>?_,q⟩
 rw[NR.mp B]
 exact j.fpOk (NI _) (j.hok.fresh (NI _))
theorem BD {d:Addr}{o:Obj}{u:HO}{g:TG}{tb:TS}{D:ez}(a:Nat->St->Hp->Prop)(h0:a 0 σ H)(h:∀i σ H,i<=lG u->a i σ H->H d=some (.frz o u))
  (j:∀i x v σ H,jx H u i x v->i<lG u->a i σ H->g v σ H λc H2=>tb {D with nx:=a (i+1),ct:=a (i+1),bk:=D.nx} c H2) (hd:∀σ H,a (lG u) σ H->D.nx σ H):
  ∃W:Nat->Nat->St->Hp->Prop,(∃m,W 0 m σ H)/\∀i m σ H,W i m σ H->
   ((Lk d o u).stop i H/\D.nx σ H)\/((Lk d o u).go i H/\∃N:St->Hp->Prop,(∀b H',N b H'->∃f,f<m/\W (i+1) f b H')/\∀x H',(Lk d o u).yld i H x H'->g x σ H' λc H2=>tb {D with nx:=N,ct:=N,bk:=D.nx} c H2):=by
 refine⟨λi m σ H=>m=lG u - i/\i<=lG u/\a i σ H,⟨lG u,by simp,N9 _,h0⟩,?_⟩
 rintro i m σ H ⟨rfl,hi,p⟩
 have q:=h i σ H hi p
 by_cases hlt:i<lG u
 ·refine .inr ⟨⟨q,hlt⟩,a (i+1),λb H' l=>⟨lG u - (i+1),by omega,rfl,hlt,l⟩,λx H' y=>?_⟩
  obtain⟨e,v,k⟩:=y
  subst e
  exact j i v x σ _ k hlt p
 ·have e:i=lG u:=by omega
  subst e
  exact .inl ⟨⟨q,NI _⟩,hd σ H p⟩
theorem lJ:∀{c d:List Int},c.map V.int=d.map V.int->c=d
 |[],[],_=>rfl
 |[],_::_,h=>by simp at h
 |_::_,[],h=>by simp at h
 |a::c,b::d,h=>by
  injection h with h1 h2
  injection h1 with h1
  rw[h1,lJ h2]
noncomputable def ql (f:Nat->Nat):Nat->Nat->Bool
 |0,_=>true
 |n+1,acc=>!(acc.testBit (f n))&&ql f n (acc|||(1<<<f n))
theorem qd {f:Nat->Nat}:∀{n a:Nat},ql f n a=true->∀i<n,a.testBit (f i)=false/\∀j<n,f j=f i->j=i
 |0,_,_,i,hi=>absurd hi (OZ _)
 |n+1,a,h,i,hi=>by
  unfold ql at h
  rw[N8] at h
  obtain⟨h1,h2⟩:=h
  have h1:a.testBit (f n)=false:=by simpa using h1
  have d:=qd h2
  have key:∀k<n,a.testBit (f k)=false/\f k≠f n:=λk g=>by
   have:=(d k g).1
   rw[Nat.testBit_or,QB] at this
   refine⟨this.1,λe=>?_⟩
   have c:=this.2
   rw[e,Nat.testBit_shiftLeft] at c
   simp at c
  by_cases e:i=n
  ·subst e
   refine⟨h1,λj l b=>?_⟩
   by_cases e2:j=i
   ·exact e2
   ·exact absurd b (key j (by lia)).2
  ·refine⟨(key i (by lia)).1,λj l b=>?_⟩
   by_cases e2:j=n
   ·subst e2;exact absurd b.symm (key i (by lia)).2
   ·exact(d i (by lia)).2 j (by lia) b
noncomputable def GR (k:Nat):Int:=reduceHash (Builtin.Tuple.tupleHashOf [((k/256:Nat):Int),((k/16%16:Nat):Int),((k%16:Nat):Int)])
def MW (k:Nat):Nat:=(GR k%14941).toNat
theorem I_:ql MW 1024 0=true:=by decide+kernel
theorem xj(hi:i<1024)(a:j<1024)(e:GR i=GR j):i=j:=(qd I_ j a).2 i hi (by unfold MW;rw[e])
section
variable {d:Addr} {es:Array DictEntry} {ep:Nat}
theorem Ik (hd:(d==sysModules)=false):PySem.W.KdlSrc prog w "dict" d d es.size (λi v=>∃hi:i<es.size,v=es[i].key) (λh=>∃o,h.get? d=some o/\o.ExactDict/\o.data=.dict es ep) where
 type:=λ_ ⟨o,a,g,_⟩=>⟨o,a,g.1⟩
 there:=λ_ ⟨o,a,_⟩=>⟨NO a,NO a⟩
 keep:=λ_ _ ⟨o,a,x⟩ l=>⟨o,l d (.inl rfl) o a,x⟩
 notList:=by decide
 notTuple:=by decide
 hint:=λ_ _ _ _ ⟨o,a,g,_⟩ m=>PySem.W.kdl_hint_dict ⟨o,a,g.1⟩ m
 iter:=λA s p ⟨o,a,g,c⟩=>⟨_,λi h=>h.IsKeyIter s.heap.objs.size d i es.size ep/\∃o,h.get? d=some o/\o.data=.dict es ep,(λ_ _ m=>wF hd a g c m),{
   sub:=λb f=>by simp at f;simp[f]
   frame:=λ_ _ _ ⟨st,o,h1,h2⟩ l=>⟨oy st λo e=>l _ (by simp) o e,o,l d (by simp) o h1,h2⟩
   item:=λi s' Q E hi ⟨st,o,h1,h2⟩ j=>xp st h1 h2 hi λh' n sb=>j _ h' s'.toks ⟨hi,rfl⟩ ⟨n,o,(sb.2 d (NS (NO a))).trans h1,h2⟩ λb o f e=>(sb.2 b (λz=>f (by simp[z]))).trans e
   done:=λs' Q E ⟨st,o,h1,h2⟩ j=>Dv p st h1 h2 (NI _) λh' q=>j h' s'.toks λb o f e=>q b o (λz=>f (by simp[z])) e
   self:=λi s' Q E ⟨st,_⟩ j=>wpAny_pyIter_keyiter st j},⟨⟨_,NZ _ rfl,rfl,rfl⟩,o,NN _ a,c⟩⟩
end
theorem i7:∀c:List Int,(c.map Sum.inl:List dq).map kV=c.map V.int
 |[]=>rfl
 |a::c=>by rw[NQ,NQ,NQ,i7 c];rfl
theorem Fw (e:X.K=K):JJ X (yD K):=by subst e;exact aZ
noncomputable def Gj (H:Hp) (c:Addr):Hp:=λb=>if b=c then none else H b
theorem mM:Gj H c c=none:=if_pos rfl
theorem m_(h:b≠c):Gj H c b=H b:=if_neg h
theorem kC(h:H b=none):Gj H c b=none:=by
 by_cases e:b=c
 ·rw[e];exact mM
 ·rw[m_ e];exact h
theorem ux (N:X.calm=true):c_ X (.type "list") (λxs H Q=>∃(a:Addr) (u:HO),xs=[.ref a]/\H a=some u/\Er (some u)/\oV u/\lG u<=1000/\
  ∀(l:Addr) (ys:List V),H l=none->ys.length=lG u->(∀(i:Nat) y,ys[i]?=some y->∃v,jx H u i y v)->Q (.ref l) (upd H l (.lst ys))):=by
 intro pins s σ H xs us Q I r h
 obtain⟨a,u,rfl,e,mu,du,g,q⟩:=h
 obtain⟨uu,rfl,U⟩:=dY r
 cases U
 obtain⟨o,I1,C⟩:=I.freeze e mu
 obtain⟨hS,B,hc,es,ep,p,G,m⟩:=jF I1.hok ah du
 have w:es.size<=sizeLine:=by rw[G];exact NP g (by decide)
 refine PySem.W.kdl_call (Ik hS) (I.ok.hd N) ⟨o,B,hc,p⟩ w λh' tk D c O hD E=>?_
 obtain⟨ys,J,F⟩:∃ys:List V,bH ys D.toList/\∀(i:Nat) y,ys[i]?=some y->∃v,jx H u i y v:=by
  have A:∀(i:Nat) v,D.toList[i]?=some v->∃y,bo y v/\∃w',jx H u i y w':=λi v R=>by
   obtain⟨hi,rfl⟩:=E.2 i v (by rw[<-Qa];exact R)
   obtain⟨x,y,d,M,S⟩:=m i hi
   refine⟨x,M,y,?_⟩
   cases u with
   |dK kvs=>exact d
   |dT kvs=>
    obtain⟨k,b,h1,h2,K⟩:=d
    have Y:b≠a:=λz=>by rw[z,ah] at K;cases K
    rw[ay Y] at K
    exact⟨k,b,h1,h2,K⟩
   |_=>exact d.elim
  have mk:∀(l:List Value) (f:Nat),(∀(i:Nat) v,l[i]?=some v->∃y,bo y v/\∃w',jx H u (f+i) y w')->∃ys:List V,bH ys l/\∀(i:Nat) y,ys[i]?=some y->∃v,jx H u (f+i) y v:=by
   intro l
   induction l with
   |nil=>exact λf _=>⟨[],.nil,λi y h=>by simp at h⟩
   |cons v l ih=>
    intro f T
    obtain⟨y,M,w',d⟩:=T 0 v rfl
    obtain⟨ys,S,n⟩:=ih (f+1) λi v' P=>by
     have:=T (i+1) v' P
     rw[show f+1+i=f+(i+1) by lia];exact this
    refine⟨y::ys,.cons M S,λi z G=>?_⟩
    cases i with
    |zero=>cases G;exact⟨w',d⟩
    |succ i=>
     have:=n i z G
     rw[show f+1+i=f+(i+1) by lia] at this;exact this
  obtain⟨ys,r,O⟩:=mk D.toList 0 λi v R=>by rw[Pw];exact A i v R
  exact⟨ys,r,λi y Z=>by have:=O i y Z;rw[Pw] at this;exact this⟩
 have j:ys.length=lG u:=by rw[J.length,OW,E.1,G]
 have hn:H s.heap.objs.size=none:=I.hok.fresh (NI _)
 refine⟨.ref s.heap.objs.size,_,I.laid (o:=.lst ys) O (NI _) ⟨?_,D.toList,c,J,hD⟩,rfl,q _ ys hn j F⟩
 rw[j];exact NP g (by decide)
namespace TabB
open SetTable
noncomputable def yP:List (List Nat):=(List.range 8).foldr (λa r=>r++(r.filter (·.length<4)).map (a:: ·)) [[]]
theorem A9:∀l∈yP,(∃j,j<8/\j∉l)/\∀j<8,j∈l->l.toArray[below l.toArray j]?=some j:=by decide+kernel
set_option synthInstance.maxSize 5000 in
set_option synthInstance.maxHeartbeats 0 in
theorem KW:∀l∈yP,l.length<4->∀j<8,j∉l->(insertAt l.toArray (below l.toArray j) j).toList∈yP/\below l.toArray j<=l.length/\below (insertAt l.toArray (below l.toArray j) j) j=below l.toArray j/\
  ∀q<8,q∈l->below (insertAt l.toArray (below l.toArray j) j) q=if below l.toArray q<below l.toArray j then below l.toArray q else below l.toArray q+1:=by decide+kernel
theorem J4 (i:Nat):runEnd 7 i - i=0:=by unfold runEnd;split<;>lia
noncomputable def pr (h:Int):Nat->Probe
 |0=>⟨bits h%8,0,bits h%8,bits h,none⟩
 |n+1=>⟨((pr h n).i*5+1+(pr h n).perturb/32)%8,0,((pr h n).i*5+1+(pr h n).perturb/32)%8,(pr h n).perturb/32,none⟩
noncomputable def it:Nat->Nat->Nat
 |0,a=>a
 |k+1,a=>(it k a*5+1)%8
theorem Ni:∀a<8,∀j<8,∃k,k<8/\it k a=j:=by decide+kernel
section
variable {t:SetTable} {g:Nat->Int} {h:Int} {es:Array (Int×Value)}
theorem mY:∀n,(pr h n).j<8
 |0=>Nat.mod_lt _ (by decide)
 |_+1=>Nat.mod_lt _ (by decide)
theorem Gp:∀n,(pr h n).j=(pr h n).i
 |0=>rfl
 |_+1=>rfl
theorem Ha:∀n,(pr h n).perturb=bits h/32^n
 |0=>by show bits h=_;simp
 |n+1=>by
  show(pr h n).perturb/32=_
  rw[Ha n,Nat.div_div_eq_div_mul,Nat.pow_succ]
theorem G9:∀k,(pr h (12+k)).i=it k (pr h 12).i
 |0=>rfl
 |k+1=>by
  show((pr h (12+k)).i*5+1+(pr h (12+k)).perturb/32)%8=(it k _*5+1)%8
  rw[G9 k,Ha,Nat.div_div_eq_div_mul,<-Nat.pow_succ,Nat.div_eq_of_lt (Oc (show bits h<2^64 by unfold bits;lia) (NP (by decide:2^64<=32^13) (Nat.pow_le_pow_right (by decide) (by lia))))]
theorem met(a:j<8):∃n,n<20/\(pr h n).j=j:=by
 obtain⟨k,b,e⟩:=Ni _ (Gp (h:=h) 12▸mY 12) j a
 exact⟨12+k,by lia,by rw[Gp,G9,e]⟩
theorem AQ (a:t.mask=7):∀n,t.advance (pr h n)=pr h (n+1):=λn=>by
 obtain⟨m,_⟩:=t
 cases a
 unfold advance
 rw[if_neg (show¬(pr h n).more>0 by cases n<;>exact OP 0)]
 dsimp only
 rw[J4]
 cases n<;>rfl
theorem Hh (a:t.mask=7):t.probeStart h=pr h 0:=by
 obtain⟨m,_⟩:=t
 cases a
 show Probe.mk _ (runEnd 7 _ - _) _ _ _=_
 rw[J4];rfl
theorem first {p:Nat->Prop}:∀{N:Nat},p N->∃n,n<=N/\p n/\∀m,m<n->¬p m:=fun{N}=>by
 induction N using Nat.strongRecOn with
 |ind N ih=>
  intro h
  by_cases q:∃m,m<N/\p m
  ·obtain⟨m,l,e⟩:=q
   obtain⟨n,h1,h2⟩:=ih m l e
   exact⟨n,by lia,h2⟩
  ·exact⟨N,NI _,h,λm l e=>q ⟨m,l,e⟩⟩
theorem Eb (b:t.mask=7){f:Nat}:∀(n k:Nat),n<f->(∀m,m<n->∃i,t.slot (pr h (k+m)).j=.live i/\g i≠h)->t.slot (pr h (k+n)).j=.empty->probe.go t g h f (pr h k)=some (.empty (pr h (k+n)).j none):=by
 induction f with
 |zero=>intro n k l;exact absurd l (OZ _)
 |succ f ih=>
  intro n k l a e
  unfold probe.go
  cases n with
  |zero=>
   rw[show t.slot (pr h k).j=.empty from e]
   cases k<;>rfl
  |succ n=>
   obtain⟨i,h1,h2⟩:=a 0 (by lia)
   rw[show t.slot (pr h k).j=.live i from h1]
   dsimp only
   rw[if_neg (by simpa using h2),AQ b,show k+(n+1)=k+1+n by lia]
   exact ih n (k+1) (by lia) (λm b=>by rw[show k+1+m=k+(m+1) by lia];exact a (m+1) (by lia)) (by rw[show k+1+n=k+(n+1) by lia];exact e)
theorem Jk (d:t.mask=7){f:Nat}:∀(n k:Nat),n<f->(∀m,m<n->∃i,t.slot (pr h (k+m)).j=.live i)->(∃i,t.slot (pr h (k+n)).j=.live i/\g i=h)->∃j i r,probe.go t g h f (pr h k)=some (.candidate j i r)/\t.slot j=.live i/\g i=h:=by
 induction f with
 |zero=>intro n k l;exact absurd l (OZ _)
 |succ f ih=>
  intro n k l a b
  unfold probe.go
  have c:∃i,t.slot (pr h k).j=.live i:=by
   cases n with
   |zero=>obtain⟨i,e,_⟩:=b;exact⟨i,e⟩
   |succ n=>exact a 0 (by lia)
  obtain⟨i,e⟩:=c
  rw[e]
  dsimp only
  by_cases q:g i=h
  ·rw[if_pos (by simpa using q)]
   exact⟨_,i,_,rfl,e,q⟩
  ·rw[if_neg (by simpa using q),AQ d]
   cases n with
   |zero=>
    obtain⟨s,o,p⟩:=b
    rw[show t.slot (pr h (k+0)).j=_ from e] at o
    cases o
    exact(q p).elim
   |succ n=>exact ih n (k+1) (by lia) (λm d=>by rw[show k+1+m=k+(m+1) by lia];exact a (m+1) (by lia)) (by rw[show k+1+n=k+(n+1) by lia];exact b)
structure SB (t:SetTable) (es:Array (Int×Value)):Prop where
 ma:t.mask=7
 dm:t.dummies= #[]
 pl:t.place.toList∈yP
 sz:es.size=t.place.size
 nd:(es.toList.map (·.1)).Nodup
 fd:∀e∈es.toList,∃n,n<20/\es[below t.place (pr e.1 n).j]?=some e/\∀m,m<=n->(pr e.1 m).j∈t.place.toList
theorem SB.live(I:SB t es)(h:q<8)(a:q∈t.place.toList):t.slot q=.live (below t.place q):=by
 have:=(A9 _ I.pl).2 q h a
 unfold slot
 exact if_pos (by rw[show t.place[below t.place q]?=some q from this];simp)
theorem SB.no(I:SB t es)(a:q∉t.place.toList):t.slot q=.empty:=by
 unfold slot
 dsimp only
 rw[if_neg (λz=>a (Pf.mpr (Array.mem_of_getElem? (beq_iff_eq.mp z)))),I.dm,if_neg (by unfold has;simp)]
theorem uE{e:Int×Value}(h:es[i]?=some e):Jo es i=e.1:=by unfold Jo;rw[h];rfl
theorem insert_size {a:Type}(xs:Array a)(p:Nat)(x:a):(insertAt xs p x).size=xs.size+1:=by simpa using (insertAt_perm xs p x).length_eq
theorem qk {b:Type}{xs:Array b}{p:Nat}{x:b}(e:p<=xs.size)(i:Nat):(insertAt xs p x)[i]?=if i<p then xs[i]? else if i=p then some x else xs[i - 1]?:=by
 have d:(insertAt xs p x).toList=xs.toList.take p++x::xs.toList.drop p:=by
  unfold insertAt
  simp
  exact O3 (by simp)
 have a:(xs.toList.take p).length=p:=by rw[N_,OW];lia
 rw[<-Qa,d]
 rcases Nat.lt_trichotomy i p with c|c|c
 ·rw[if_pos c,Pk (by lia),List.getElem?_take,if_pos c,Qa]
 ·subst c
  rw[if_neg (OP _),if_pos rfl,OU (by lia),a,Nat.sub_self];rfl
 ·rw[if_neg (by lia),if_neg (by lia),OU (by lia),a,show i - p=i - p - 1+1 by lia,List.getElem?_cons_succ,List.getElem?_drop,show p+(i - p - 1)=i - 1 by lia,Qa]
theorem SB.put(I:SB t es)(B:es.size<4)(s:∀e∈es.toList,e.1≠h)(f:(pr h n).j=j)(l:n<20)(u:j∉t.place.toList)(g:∀m,m<n->(pr h m).j∈t.place.toList):SB (t.put j).1 (insertAt es (t.put j).2 (h,x)):=by
 have sz:=I.sz
 have v:j<8:=f▸mY n
 obtain⟨A,p2,y,o⟩:(insertAt t.place (below t.place j) j).toList∈yP/\below t.place j<=t.place.size/\below (insertAt t.place (below t.place j) j) j=below t.place j/\∀q<8,q∈t.place.toList->below (insertAt t.place (below t.place j) j) q=if below t.place q<below t.place j then below t.place q else below t.place q+1:=KW _ I.pl (by simp;lia) _ v u
 have up:∀{q},q=j\/q∈t.place.toList->q∈(insertAt t.place (below t.place j) j).toList:=λr=>(insertAt_perm t.place _ _).mem_iff.mpr (by simp only[Array.toList_push,Ot,NR];exact r.symm)
 refine⟨I.ma,?_,A,(insert_size _ _ _).trans ((congrArg (· +1) sz).trans (insert_size _ _ _).symm),?_,λe d=>?_⟩
 ·show(if has t.dummies _ then _ else t.dummies)= #[]
  rw[I.dm,if_neg (by unfold has;simp)]
 ·refine((insertAt_perm es _ (h,x)).map (·.1)).nodup_iff.mpr ?_
  rw[Array.toList_push,NW]
  refine List.nodup_append.mpr ⟨I.nd,by simp,λa p b w z=>?_⟩
  obtain⟨e,d,rfl⟩:=N0.mp p
  exact s e d (z.trans (by simpa using w))
 ·rcases(show e∈es.toList\/e=(h,x) by simpa using (insertAt_perm es _ (h,x)).mem_iff.mp d) with d|rfl
  ·obtain⟨k,h1,h2,i⟩:=I.fd e d
   refine⟨k,h1,?_,λm l=>up (.inr (i m l))⟩
   show(insertAt es (below t.place j) (h,x))[below (insertAt t.place (below t.place j) j) _]?=_
   rw[o _ (mY k) (i k (NI _)),qk (by lia)]
   by_cases c:below t.place (pr e.1 k).j<below t.place j
   ·rw[if_pos c,if_pos c];exact h2
   ·rw[if_neg c,if_neg (by lia),if_neg (by lia)];exact h2
  ·refine⟨n,l,?_,λm l=>?_⟩
   ·show(insertAt es (below t.place j) (h,x))[below (insertAt t.place (below t.place j) j) (pr h n).j]?=_
    rw[f,y,qk (by lia),if_neg (OP _),if_pos rfl]
   ·by_cases c:m=n
    ·subst c;exact up (.inl f)
    ·exact up (.inr (g m (by lia)))
theorem SB.add (I:SB t es)(q:es.size<4)(d:∀e∈es.toList,e.1≠h):∃j,t.probe (Jo es) h (t.probeStart h)=some (.empty j none)/\∀x,SB (t.put j).1 (insertAt es (t.put j).2 (h,x)):=by
 obtain⟨u,r,s⟩:=(A9 _ I.pl).1
 obtain⟨N,v,rfl⟩:=met (h:=h) r
 obtain⟨n,c,o,a⟩:=first (p:=λn=>(pr h n).j∉t.place.toList) s
 have a:=λm l=>Classical.not_not.mp (a m l)
 refine⟨(pr h n).j,?_,λx=>I.put q d rfl (by lia) o a⟩
 rw[Hh I.ma]
 have:=Eb (g:=Jo es) (h:=h) (f:=10*turns t.mask) I.ma n 0 (by rw[I.ma];show n<220;lia) (λm l=>?_) (by rw[Pw];exact I.no o)
 ·rw[Pw] at this;exact this
 ·rw[Pw]
  refine⟨_,I.live (mY m) (a m l),λz=>?_⟩
  have b:=(PZ.mp ((A9 _ I.pl).2 _ (mY m) (a m l))).1
  rw[uE (P7 (i:=below t.place (pr h m).j) (xs:=es) (by rw[I.sz];exact b))] at z
  exact d _ (by simp) z
theorem SB.hit {e:Int×Value}(I:SB t es)(o:e∈es.toList):∃j i d,t.probe (Jo es) e.1 (t.probeStart e.1)=some (.candidate j i d)/\es[i]?=some e:=by
 obtain⟨n,v,h1,h2⟩:=I.fd e o
 rw[Hh I.ma]
 obtain⟨j,i,d,a,b,c⟩:=Jk (g:=Jo es) (h:=e.1) (f:=10*turns t.mask) I.ma n 0 (by rw[I.ma];show n<220;lia) (λm l=>by rw[Pw];exact⟨_,I.live (mY m) (h2 m (by lia))⟩) (by rw[Pw];exact⟨_,I.live (mY n) (h2 n (NI _)),uE h1⟩)
 refine⟨j,i,d,a,?_⟩
 obtain⟨k,r,p⟩:=List.mem_iff_getElem.mp o
 have hi:i<es.size:=by
  rw[I.sz]
  unfold slot at b
  dsimp only at b
  split at b
  ·cases b;rename_i q;exact(PZ.mp (beq_iff_eq.mp q)).1
  ·split at b<;>cases b
 rw[uE (P7 hi)] at c
 have s:(es.toList.map (·.1))[i]?=some e.1:=by rw[Od,Qa,P7 hi];exact congrArg some c
 have u:(es.toList.map (·.1))[k]?=some e.1:=by rw[Od,Ox r,p];rfl
 have:=(List.getElem?_inj (Ov.mp s).1 I.nd).mp (s.trans u.symm)
 subst this
 rw[<-Qa,Ox r,p]
end
theorem SB.nil (a:Bool):SB (.fresh 0 0 a) #[]:=⟨rfl,rfl,by show []∈yP;decide+kernel,rfl,P1,λe b=>by simp at b⟩
theorem SB.fits {t:SetTable}{es:Array (Int×Value)}(I:SB t es)(h:es.size<=4):t.fits es.size=true:=by
 unfold SetTable.fits SetTable.fill
 rw[I.sz,I.dm,I.ma]
 simp
 have:=I.sz
 lia
end TabB
set_option tactic.hygienic true in
theorem qF {K:Type} [DecidableEq K]{knd:HeapKind prog w K}{a b:Addr}{k:K}{o:Obj}{es:Array (Int×Value)}{r j:Nat}{t:SetTable}{Q:Bool->Shared->Prop}(m:knd.room A)(q:knd.is s.heap k b)(d:s.heap.get? a=some o)(hd:o.data=.set es r t)(I:TabB.SB t es)(hsz:es.size<4)
  (p:∀(tk:Nat) (Q':Bool->Shared->Prop),Q' true {s with toks:=tk}->wpAny (model prog w) A (hashByValue 8 (.ref b)) Q' E {s with toks:=tk})
  (g:t.probe (Jo es) (knd.hash k) (t.probeStart (knd.hash k))=some (.empty j none)) (J:TabB.SB (t.put j).1 (SetTable.insertAt es (t.put j).2 (knd.hash k,.ref b)))
  (h:∀h' f,Heap.SameBut a s.heap h'->h'.get? a=some {o with data:=.set (SetTable.insertAt es (t.put j).2 (knd.hash k,.ref b)) f (t.put j).1}->Q true {s with heap:=h',toks:=s.toks+knd.draws k}):
  wpAny (model prog w) A (setAdd a (.ref b)) Q E s:=by
 have e:=I.fits (by lia)
 have n:¬t.gaveWay=true:=by unfold SetTable.gaveWay;simp[I.ma]
 have c:¬(t.put j).1.tooFull=true:=by
  unfold SetTable.tooFull SetTable.fill
  rw[<-J.sz,J.dm,J.ma,TabB.insert_size]
  simp
  lia
 refine Oe (ND (knd.pyHash m q ?_))
 refine Oe ?_
 refine ND (PP (s:={s with toks:=s.toks+knd.draws k}) d hd e ?_)
 dsimp only
 refine ND ?_
 refine ND (PP (s:={s with toks:=s.toks+knd.draws k}) d hd e ?_)
 dsimp only
 rw[if_neg n]
 split
 ·rename_i met hm
  have l:met=.empty j none:=Option.some.inj (hm.symm.trans g)
  subst l
  refine NH ?_
  refine ND (PP (s:={s with toks:=s.toks+knd.draws k}) d hd e ?_)
  have tail:wpAny (model prog w) A (storeSet a (SetTable.insertAt es (t.put j).2 (knd.hash k,.ref b)) (t.put j).1>>=λ_=>if (!false&&(t.put j).1.tooFull)=true then (setRelay a (SetTable.grown (es.size+1))>>=λ_=>pure true) else pure true) Q E {s with toks:=s.toks+knd.draws k}:=by
   refine ND (wpAny_storeSet_of (s:={s with toks:=s.toks+knd.draws k}) d hd ?_ (by rw[TabB.insert_size];have:sizeLine=2^24:=rfl;lia))
   have i:=OR (Obj.putSet (SetTable.insertAt es (t.put j).2 (knd.hash k,.ref b)) (t.put j).1) d (by rw[putSet_of _ _ hd];rfl)
   rw[putSet_of _ _ hd] at i
   rw[if_neg (by simpa using c)]
   exact NH (h _ _ (Heap.SameBut.update ..) i)
  split
  ·refine ND (p _ _ ?_)
   exact tail
  ·refine ND (NH ?_)
   exact tail
 ·rename_i hm
  exact(hm _ g).elim
theorem xX {e:Expr}{f:Str}{a:Pos}{ta:TE}(b:X.K=K)(c:PE X e ta)(d:attributeBase e f X.env (eval e X.env)=eval e X.env):PE X (.Attribute e f a) (FR K ta f):=by subst b;exact dD c d
theorem FV {a:Addr}{xs:List V}{j:St}{g:TG}{l:TT}{o:TE}{n:Hp}{D:Addr}{Q:Hp->Prop}(f:Nat->St->Hp->Prop)(h0:f 0 j (upd n D (.lst [])))
  (r:∀i c H,i<=xs.length->f i c H->bY K H a xs)
  (s:∀i x c H,xs[i]?=some x->f i c H->g x c H λd H2=>l d H2 λb H3=>
   if b=true then o d H3 λv H4=>∃h,H4 D=some (.lst h)/\h.length<sizeLine/\f (i+1) d (upd H4 D (.lst (h++[v]))) else f (i+1) d H3)
  (hd:∀c H,f xs.length c H->Q H):Aj j g l o (KS K a) n D Q:=by
 refine⟨λi m c H=>m=xs.length - i/\i<=xs.length/\f i c H,⟨xs.length,by simp,N9 _,h0⟩,?_⟩
 rintro i m c H ⟨rfl,hi,p⟩
 have q:=r i c H hi p
 by_cases hlt:i<xs.length
 ·refine .inr ⟨⟨xs,xs[i],q,by simp[hlt]⟩,f (i+1),λu H' w=>⟨xs.length - (i+1),by lia,rfl,hlt,w⟩,λx H' y=>?_⟩
  obtain⟨e,y⟩:=y
  subst e
  exact s i x c _ (y xs q) p
 ·have e:i=xs.length:=by lia
  subst e
  exact .inl ⟨⟨xs,q,NI _⟩,hd c H p⟩
def Kl:R2:=λx y H Q=>∃a b xs ys,x=.ref a/\y=.ref b/\H a=some (.tup xs)/\H b=some (.tup ys)/\xs.length+ys.length<=sizeLine/\∀p H',au H H'->H' p=some (.tup (xs++ys))->Q (.ref p) H'
theorem wQ:ji X (binaryOp .Add) Kl:=by
 intro pins s σ H x y v u Q I i j h
 obtain⟨a,b,xs,ys,rfl,rfl,g,f,o,q⟩:=h
 by_cases e:xs=[]
 ·subst e
  cases i
  cases j
  obtain⟨d,n,B,_⟩:=I.tuple (bY.of g)
  obtain⟨c,N,p2,_⟩:=I.tuple (bY.of f)
  cases n
  obtain⟨⟨M,K,P,A⟩,m,k1,D,C⟩:=id B
  obtain⟨⟨O,J,b2,r⟩,l,k2,G,w⟩:=id p2
  subst k1 C k2 w
  exact concat_meets ⟨_,m,rfl⟩ ⟨_,l,rfl⟩ noFill_tuple_add seq_tuple_add PySem.F.slot_tuple_add QI (QJ _ _)
   (tuple_addW0 a b _ _ D G K J A r rfl) ⟨m,l,⟨.ref b,H,I,rfl,q b H (au.refl H) f⟩⟩
 ·refine Fo pins s σ H _ _ v u Q I i j ⟨a,b,xs,ys,rfl,rfl,bY.of g,bY.of f,e,o,λz=>?_,λ_ p E=>q p _ ((au.refl H).upd E) ah⟩
  refine q a H (au.refl H) ?_
  rw[z,Os]
  exact g
theorem sW{Q:Bool->Shared->Prop}(l:gP s.heap k b)(h:Q false s):wpAny (model prog w) A (ofAClassStatement 8 (.ref b)) Q E s:=by
 obtain⟨o,a,n,d,m,g,hi⟩:=l
 have j:s.TypeIs (.ref b) "tuple" :=⟨o,d,m⟩
 unfold ofAClassStatement
 refine ND (PN j ?_)
 dsimp only
 refine ND (NH ?_)
 refine ND (Pb d g ?_)
 refine ND ?_
 rw[<-Array.forIn_toList]
 refine wpAny_forIn_list _ (λrest q s'=>s'=s/\q=(none,())/\∀v∈rest,∃i t,v=Value.int i t) _ ?_ ?_ _ _ ⟨rfl,rfl,λv p=>hi.allInts v (by simpa using p)⟩
 ·rintro v rest q s' ⟨rfl,rfl,c⟩
  obtain⟨i,t,rfl⟩:=c v N7
  have e:ofAClassStatement 7 (.int i t)=pure false:=by simp[ofAClassStatement]
  exact ND (NH (by
   exact NH ⟨rfl,rfl,λx f=>c x (NV _ f)⟩))
 ·rintro q s' ⟨rfl,rfl,_⟩
  exact NH h
theorem B8 {knd:HeapKind prog w (List Int)}(e:∀h k b,gP h k b->knd.is h k b){b:Addr}{k:List Int}{c:List Value}{Q:Bool->Shared->Prop}(g:gP s.heap k b)(l:∀y∈c,∃d bb,y=.ref bb/\gP s.heap d bb)(h:Q false s):
  wpAny (model prog w) A (searchCouldBeSeen (.ref b) c) Q E s:=by
 refine ND ?_
 refine wpAny_forIn_list _ (λrest q s'=>s'=s/\q=(none,())/\∀y∈rest,∃d bb,y=Value.ref bb/\gP s.heap d bb) _ ?_ ?_ _ _ ⟨rfl,rfl,l⟩
 ·rintro y rest q s' ⟨rfl,rfl,f⟩
  obtain⟨d,bb,rfl,a⟩:=f y N7
  have i:∀x∈rest,∃d bb,x=Value.ref bb/\gP s'.heap d bb:=λx j=>f x (NV _ j)
  dsimp only
  split
  ·exact NH ⟨rfl,rfl,i⟩
  ·refine ND (knd.quiet (e _ _ _ g) ?_)
   refine ND (knd.quiet (e _ _ _ a) ?_)
   refine ND (sW g ?_)
   refine ND (sW a ?_)
   exact NH ⟨rfl,rfl,i⟩
 ·rintro q s' ⟨rfl,rfl,_⟩
  exact NH h
set_option tactic.hygienic true in
theorem rp {knd:HeapKind prog w (List Int)}(d:∀h k b,gP h k b->knd.is h k b){a b b':Addr}{k:List Int}{o:Obj}{es:Array (Int×Value)}{D:Nat}{t:SetTable}{Q:Bool->Shared->Prop}(p:knd.room A)(n:gP s.heap k b)(g:gP s.heap k b')(m:s.heap.get? a=some o)(hd:o.data=.set es D t)
  (I:TabB.SB t es) (x:es.size<=4) (B:(knd.hash k,Value.ref b')∈es.toList) (f:∀e∈es.toList,∃C q,e.2=Value.ref q/\gP s.heap C q) (h:Q false {s with toks:=s.toks+knd.draws k}):wpAny (model prog w) A (setAdd a (.ref b)) Q E s:=by
 obtain⟨j,i,nx,r,u⟩:=I.hit B
 have l:=I.fits x
 have z:¬t.gaveWay=true:=by unfold SetTable.gaveWay;simp[I.ma]
 refine Oe (ND (knd.pyHash p (d _ _ _ n) ?_))
 refine Oe ?_
 refine ND (PP (s:={s with toks:=s.toks+knd.draws k}) m hd l ?_)
 dsimp only
 refine ND ?_
 refine ND (PP (s:={s with toks:=s.toks+knd.draws k}) m hd l ?_)
 dsimp only
 rw[if_neg z]
 split
 ·rename_i met hm
  have v:met=.candidate j i nx:=Option.some.inj (hm.symm.trans r)
  subst v
  dsimp only
  split
  ·refine ND (B8 (knd:=knd) (s:={s with toks:=s.toks+knd.draws k}) d n (λy F=>?_) ?_)
   ·obtain⟨e,c,rfl⟩:=N0.mp F
    exact f e (Pf.mpr (Array.mem_filter.mp (Pf.mp c)).1)
   rw[if_neg (by decide),u]
   refine ND (Oe (knd.eqBool (s:={s with toks:=s.toks+knd.draws k}) p (d _ _ _ g) (d _ _ _ n) ?_))
   refine ND (PP (s:={s with toks:=s.toks+knd.draws k}) m hd l ?_)
   rw[if_pos (by simp)]
   exact NH (NH h)
  ·rw[u]
   refine ND (Oe (knd.eqBool (s:={s with toks:=s.toks+knd.draws k}) p (d _ _ _ g) (d _ _ _ n) ?_))
   refine ND (PP (s:={s with toks:=s.toks+knd.draws k}) m hd l ?_)
   rw[if_pos (by simp)]
   exact NH (NH h)
 ·rename_i hm
  exact(hm _ r).elim
def xQ (a:List Int->Int) (b:Nat->List Int) (c:Nat->Addr) (i:Nat) (h:Heap) (S:Addr):Prop:=∃(o:Obj) (ep:Nat) (es:Array (Int×Value)) (t:SetTable),h.get? S=some o/\o.ExactSet/\o.data=.set es ep t/\TabB.SB t es/\
 (∀e∈es.toList,∃j,j<i/\e=(a (b j),Value.ref (c j)))/\(∀j,j<i->∃e∈es.toList,e.1=a (b j))/\es.size<=i
section
variable {R:Result->Shared->Prop} {I:Addr} {fp wr:List Addr} {G:Array GenState->Array GenState->Prop} {n:Nat} {P:Nat->Value->Prop} {St:Nat->Shared->Prop}
theorem B_ (W:WalksS prog w A.in1 I fp wr G n P St)(S:Addr)(X:S∉fp)(knd:HeapKind prog w (List Int))(E:knd.room A.in1)(T:∀h k b,gP h k b->knd.is h k b)(C:Nat->Addr)(y:Nat->List Int)(Y:∀i v,P i v->v=.ref (C i))
  (ac:∀i,i<n->C i≠S/\C i∉wr) (U:∀i j,i<n->j<n->knd.hash (y i)=knd.hash (y j)->y i=y j) (hn:n<=4):
  ∀(k i:Nat) (s:Shared),n - i=k->i<=n->St i s->(∀j,j<n->gP s.heap (y j) (C j))->xQ knd.hash y C i s.heap S->
   (∀s',Moved (S::wr) G s s'->xQ knd.hash y C n s'.heap S->R (.ok (.ret .none)) s')->
   codeAny (model prog w) A (.builtin "set.update.loop" ⟨[.ref S,.ref I],[]⟩) R s:=by
 have m:S∉wr:=λh=>X (W.sub _ h)
 have more:∀b∈wr,b∈S::wr:=λb N=>NV _ N
 have l:∀{h h':Heap} {k b},gP h k b->(∀o,h.get? b=some o->h'.get? b=some o)->gP h' k b:=λ⟨o,p,c,h1,h2⟩ f=>⟨o,p,c,f o h1,h2⟩
 intro k
 induction k with
 |zero=>
  intro i s hk hi Q ht hS hR
  obtain rfl:i=n:=by lia
  refine codeAny_builtin F.entry_set_update_loop ?_
  refine ND (W.done s _ _ Q λs' J=>NH (hR s' (J.mono more) ?_))
  obtain⟨o,ep,es,t,h1,h2⟩:=hS
  exact⟨o,ep,es,t,J.heap S _ m h1,h2⟩
 |succ k ih=>
  intro i s hk hi Q ht hS hR
  have d:i<n:=by lia
  refine codeAny_builtin F.entry_set_update_loop ?_
  refine ND (W.item i s _ _ d Q λv s' hP K J=>?_)
  obtain rfl:=Y i v hP
  obtain⟨o,ep,es,t,h1,h2,h3,SBt,a⟩:=hS
  have z4:=a.2.2
  have g:∀j,j<n->gP s'.heap (y j) (C j):=λj M=>l (ht j M) λo q=>J.heap _ o (ac j M).2 q
  obtain⟨ob,p,c,g1,g2,g3,g4⟩:=id (g i d)
  refine ND (Oe ?_)
  by_cases hin:∃e∈es.toList,e.1=knd.hash (y i)
  ·obtain⟨e,B,eh⟩:=hin
   obtain⟨j,M,rfl⟩:=a.1 e B
   have u:y j=y i:=U j i (by lia) d eh
   refine rp (knd:=knd) (s:=s') T (b':=C j) E (g i d) (u▸g j (by lia)) (J.heap S _ m h1) h3 SBt (by lia) (by rw[<-eh];exact B) (λe B=>by
    obtain⟨j,M,rfl⟩:=a.1 e B
    exact⟨y j,C j,rfl,g j (by lia)⟩) ?_
   refine NH ⟨plainId_quiet F.plain_set_update_loop _,ih (i+1) _ (by lia) d (W.frame _ s' _ _ K (O0 _ _) λb N o e=>e) g ⟨o,ep,es,t,J.heap S _ m h1,h2,h3,SBt,⟨λe B=>?_,λq hq=>?_,by lia⟩⟩ λO D H=>?_⟩
   ·obtain⟨j',r,Z⟩:=a.1 e B
    exact⟨j',by lia,Z⟩
   ·by_cases z:q=i
    ·exact⟨_,B,by rw[z];exact eh⟩
    ·exact a.2.1 q (by lia)
   ·exact hR O (Moved.trans W.gtrans ((J.mono more).then_heap (O0 _ _) λb o N e=>e) D) H
  obtain⟨jj,ea,SB'⟩:=SBt.add (h:=knd.hash (y i)) (by lia) (λe B z=>hin ⟨e,B,z⟩)
  have x:=TabB.insert_size es (t.put jj).2 (knd.hash (y i),Value.ref (C i))
  have me:∀e,e∈(SetTable.insertAt es (t.put jj).2 (knd.hash (y i),Value.ref (C i))).toList↔e∈es.toList\/e=(knd.hash (y i),Value.ref (C i)):=λe=>by simpa using (SetTable.insertAt_perm es (t.put jj).2 (knd.hash (y i),Value.ref (C i))).mem_iff
  refine qF (knd:=knd) (s:=s') E (T _ _ _ (g i d)) (J.heap S _ m h1) h3 SBt (by lia) (λtk Q' q=>DZ (s:={s' with toks:=tk}) g1 g2 g3 (λv hv=>?_) q) ea (SB' _) λh' a2 sb hg=>?_
  ·exact g4.allInts v (by simpa using hv)
  ·refine NH ⟨plainId_quiet F.plain_set_update_loop _,ih (i+1) _ (by lia) d (W.frame _ s' _ _ K (O0 _ _) λb N o e=>?_) (λj M=>l (g j M) λo q=>?_) ⟨_,_,_,_,hg,h2,rfl,SB' _,⟨λe B=>?_,λq hq=>?_,by lia⟩⟩ λO D H=>?_⟩
   ·rw[sb.2 b (λz=>X (z▸N))];exact e
   ·rw[sb.2 _ (ac j M).1];exact q
   ·rcases(me e).mp B with B|rfl
    ·obtain⟨j',r,Z⟩:=a.1 e B
     exact⟨j',by lia,Z⟩
    ·exact⟨i,by lia,rfl⟩
   ·by_cases z:q=i
    ·exact⟨_,(me _).mpr (.inr rfl),by rw[z]⟩
    ·obtain⟨e,B,Z⟩:=a.2.1 q (by lia)
     exact⟨e,(me _).mpr (.inl B),Z⟩
   ·refine hR O (Moved.trans W.gtrans ((J.mono more).then_heap (O0 _ _) λb o N e=>?_) D) H
    rw[sb.2 b (λz=>N (by rw[z];exact N7))];exact e
end
set_option maxHeartbeats 3200000 in
theorem ou {l:Addr}{as:List Addr}{Q:Value->Shared->Prop}(hh:A.handled=none)(hl:s.heap.IsList l (as.map Value.ref).toArray)
  (knd:HeapKind prog w (List Int)) (W:knd.room A.in1.in1.in1) (ad:∀h k b,gP h k b->knd.is h k b) (M:Nat->List Int) (S:∀j,j<as.length->gP s.heap (M j) (as.getD j 0))
  (X:∀i j,i<as.length->j<as.length->knd.hash (M i)=knd.hash (M j)->M i=M j) (hn:as.length<=4)
  (h:∀(K:Bool) (h':Heap) (tk:Nat),xQ knd.hash M (λi=>as.getD i 0) as.length h' s.heap.objs.size->(∀b o,b<s.heap.objs.size->s.heap.get? b=some o->h'.get? b=some o)->
   Q (.ref s.heap.objs.size) {s with heap:=h',toks:=tk}):wpAny (model prog w) A (call (.type "set") [.ref l]) Q E s:=by
 obtain⟨c0,I,H⟩:=F.called_set.mro
 have made:=F.called_set.made
 have sub:=F.called_set.sub
 have nt:=F.called_set.notType
 have cc:=F.called_set.canCreate
 have ck:=F.typeCall_set_1 (.ref l)
 refine OS (codeAny_of_tree ?_)
 show wpAny _ _ (callAny (.type "set") ⟨[.ref l],[]⟩) _ _ _
 refine NH ⟨Code.quiet_builtin _ (by decide+kernel),codeAny_builtin F.entry_type_call ?_⟩
 rw[Around.under_plain (weight_type_call_type "set" [.ref l] []) rfl]
 repeat (any_goals (first|assumption|wp_step))
 refine codeAny_mono (code_set_new_1 (.ref l) (E:=E) (Q₁:=λv P=>∃K:Bool,v=.ref s.heap.objs.size/\P={s with heap:=s.heap.push (qW K)}) λK=>⟨K,rfl,rfl⟩) λr P N=>?_
 match r,N with
 | .error e,N=>exact N
 | .ok (.ret v),⟨K,ev,es⟩=>
  subst ev es
  have hS:(s.heap.push (qW K)).get? s.heap.objs.size=some (qW K):=NZ _ rfl
  have hT:Shared.TypeIs {s with heap:=s.heap.push (qW K)} (.ref s.heap.objs.size) "set" :=⟨_,hS,rfl⟩
  have li:=F.called_set.init.lookup
  have bi:=F.called_set.init.bind (.ref s.heap.objs.size)
  repeat (any_goals (first|assumption|wp_step))
  refine codeAny_mono (codeAny_call_builtin (R:=wants (λr O=>r=.none/\∃h' tk,O={s with heap:=h',toks:=tk}/\xQ knd.hash M (λi=>as.getD i 0) as.length h' s.heap.objs.size/\
   ∀b o,b<s.heap.objs.size->s.heap.get? b=some o->h'.get? b=some o) E) F.called_set.init.plain F.entry_set_init (check_set_init_1 hT ?_)) λZ O T=>?_
  ·have lt:l<s.heap.objs.size:=by obtain⟨o,ho,_⟩:=hl;exact NO ho
   obtain⟨⟨oc,od,J,u⟩,y,d,nl,f⟩:=id hl
   simp only at d f
   subst d f
   have m:(s.heap.push (qW K)).get? l=some ⟨.type "list",od,.seq (as.map Value.ref).toArray nl,u⟩:=NN _ y
   have n1:=F.sub_list_set
   have n2:=F.sub_list_frozenset
   have n3:(Value.type "list" ==Value.type "dict")=false:=by decide
   have a:(s.heap.push (qW K)).IsList l (as.map Value.ref).toArray:=⟨_,m,rfl,nl,rfl⟩
   unfold Builtin.«set.__init__» noKeywords Builtin.Frozenset.updateFrom
   generalize ai:pyIter=PI
   wp_walk
   subst ai
   refine Pe a (ND (wpAny_runValue ?_))
   have mj:(s.heap.push (qW K)).objs.size=s.heap.objs.size+1:=OH ..
   have p:A.in1.in1.in1.handled=none:=by simp[hh]
   have G:l≠(s.heap.push (qW K)).objs.size:=by rw[mj];exact NS (Qp lt)
   have nS:s.heap.objs.size∉[(s.heap.push (qW K)).objs.size,l]:=by
    rw[mj]
    intro z
    rcases NK.mp z with z|z
    ·exact absurd z (NS (PY _))
    ·exact absurd (NR.mp z) (O7 lt)
   have n:∀j,j<as.length->as.getD j 0<s.heap.objs.size:=λj U=>by obtain⟨o,_,_,h1,_⟩:=S j U;exact NO h1
   refine B_ ((Walks.list p _ l G (as.map Value.ref).toArray).toS) s.heap.objs.size nS knd W ad (λi=>as.getD i 0) M (λi v hv=>?_) (λi hi=>?_) (λi j hi U=>X i j (by simpa using hi) (by simpa using U)) (by simpa using hn)
    ((as.map Value.ref).toArray.size - 0) 0 _ (by lia) (N9 _) ⟨⟨_,NZ _ rfl,rfl,rfl⟩,(a.push _)⟩ (λj U=>?_) ?_ λs' hm af=>?_
   ·have g:(as.map Value.ref).toArray[i]?=some v:=hv
    rw[List.getElem?_toArray,Od] at g
    obtain⟨x,hx,rfl⟩:=P9.mp g
    show _=Value.ref (as.getD i 0)
    rw[OJ,hx];rfl
   ·have C:i<as.length:=by simpa using hi
    have:=n i C
    refine⟨NS this,λz=>?_⟩
    have Y:=NR.mp z
    rw[mj] at Y
    exact absurd Y (NS (Qp this))
   ·obtain⟨o,D,c,q1,q2⟩:=S j (by simpa using U)
    exact⟨o,D,c,NN _ (NN _ q1),q2⟩
   ·exact⟨_,0,#[],.fresh 0 0 K,NN _ hS,⟨rfl,rfl,rfl⟩,rfl,TabB.SB.nil K,(λe he=>by simp at he),(λj U=>absurd U (OZ _)),N9 _⟩
   ·obtain⟨h',g',d',q,B⟩:=s'
    obtain rfl:g'=s.gens:=hm.gens
    obtain rfl:d'=s.drawn:=hm.drawn
    obtain rfl:B=s.os:=hm.os
    refine NH ?_
    show wpAny _ _ (ret Value.none) _ _ _
    refine NH ⟨rfl,h',q,rfl,by simpa using af,λb o hb e=>hm.heap b o (λz=>?_) (NN _ (NN _ e))⟩
    rcases NK.mp z with z|z
    ·exact absurd z (NS hb)
    ·have Y:=NR.mp z
     rw[mj] at Y
     exact absurd Y (NS (Qp hb))
  ·match Z,T with
   | .error e,z=>exact z
   | .ok (.ret v),⟨e1,h',tk,e2,z1,z2⟩=>
    subst e1 e2
    repeat (any_goals (first|assumption|wp_step))
    exact h K h' tk z1 z2
   | .ok .next,z=>exact z.elim
   | .ok .brk,z=>exact z.elim
   | .ok .cont,z=>exact z.elim
 | .ok .next,N=>exact N.elim
 | .ok .brk,N=>exact N.elim
 | .ok .cont,N=>exact N.elim
theorem u5 {d:Type} [DecidableEq d]:∀{xs ys:List d},xs.Nodup->(∀x∈xs,x∈ys)->xs.length<=ys.length
 |[],_,_,_=>N9 _
 |a::l,m,hn,hs=>by
  have c:=hs a N7
  have:=u5 (xs:=l) (ys:=m.erase a) (OT.mp hn).2 λx b=>(List.mem_erase_of_ne (λ(e:x=a)=>(OT.mp hn).1 (e▸b))).mpr (hs x (NV _ b))
  rw[List.length_erase_of_mem c] at this
  have:=List.length_pos_of_mem c
  simp only[NU]
  lia
theorem zC (hc:X.calm=true){k:Nat}(hr:dh k X.A):c_ X (.type "set") (λxs H Q=>∃(l:Addr) (as:List Addr) (cs:List (List Int)),xs=[.ref l]/\bf X.K H l (as.map V.ref)/\dw H as cs/\cs.length<=4/\(∀c∈cs,∀d∈cs,fN c=fN d->c=d)/\
  ∀p n,H p=none->(∀B:List (List Int),B.Nodup->(∀c,c∈B↔c∈cs)->n=B.length)->n<=4->Q (.ref p) (upd H p (Kc p n))):=by
 intro pins s σ H xs us Q I r h
 obtain⟨l,as,cs,rfl,hl,M,z,D,q⟩:=h
 obtain⟨u,rfl,ru⟩:=dY r
 cases ru
 obtain⟨A,rv,pl,hz⟩:=I.list hl
 obtain rfl:=lh rv
 have hu:=hr.units
 have len:as.length=cs.length:=Paired.length M
 have F:∀{j:Nat} (C:j<cs.length),cs.getD j []=cs[j]:=fun{j} C=>by rw[OJ,Ox C];rfl
 have w:∀j,j<as.length->gP s.heap (cs.getD j []) (as.getD j 0):=λj C=>by
  obtain⟨c,h1,h2⟩:=M.at (i:=j) (a:=as.getD j 0) (by rw[OJ,Ox C];rfl)
  rw[OJ,h1]
  exact CC I.hok h2
 refine ou (I.ok.hd hc) pl.isList (tupleKind (intKind X.prog X.w)) (show X.A.units+1+1+1<cLine by lia) (λh k b t=>FW t) (λi=>cs.getD i []) w (λi j hi C e=>?_) (by lia) λU h' tk R hk=>?_
 ·rw[F (by lia),F (by lia)] at e|-
  exact D _ (Qb _) _ (Qb _) e
 obtain⟨o,ep,es,t,h1,h2,S,SBt,N,O,c3⟩:=R
 have f:∀B:List (List Int),B.Nodup->(∀c,c∈B↔c∈cs)->es.size=B.length:=λB Z E=>by
  have y:(B.map fN).Nodup:=Qr.mpr (List.Pairwise.imp_of_mem (fun{a b} T W J e=>J (D a ((E a).mp T) b ((E b).mp W) e)) Z)
  have a1:=u5 SBt.nd (ys:=B.map fN) λx G=>by
   obtain⟨e,he,rfl⟩:=N0.mp G
   obtain⟨j,C,rfl⟩:=N e he
   have g:j<cs.length:=by lia
   refine N0.mpr ⟨cs[j],(E _).mpr (Qb _),?_⟩
   rw[<-F g];rfl
  have a2:=u5 y (ys:=es.toList.map (·.1)) λx G=>by
   obtain⟨d,P,rfl⟩:=N0.mp G
   obtain⟨j,C,e⟩:=List.mem_iff_getElem.mp ((E d).mp P)
   obtain⟨e',v,q'⟩:=O j (by lia)
   refine N0.mpr ⟨e',v,?_⟩
   rw[q']
   show fN (cs.getD j [])=fN d
   rw[F C,e]
  simp only[NG,OW] at a1 a2
  lia
 refine⟨.ref s.heap.objs.size,_,I.laid (a:=s.heap.objs.size) (o:=Kc s.heap.objs.size es.size) (t':=tk) (λb u e=>hk b u (NO e) e) (NI _) ⟨⟨o,_,ep,_,h1,h2,S,SBt.fits (by lia),rfl⟩,⟨o,h1⟩,?_⟩,rfl,q _ es.size (I.hok.fresh (NI _)) f (by lia)⟩
 rintro g1 g2 ⟨o',es,m,t,Y,e2⟩ k'
 exact⟨o',es,m,t,k' _ Y,e2⟩
section
variable {Ex:St->XK} {C:Addr} {k:Nat} {f:Addr} {fd:FuncData} {ps:List Str} {sp:Sp} {x m:Str} {p pos apos:Pos} {e o:Expr} {es:List Expr} {ta:TE} {t:TA}
structure hZ (P:Program) (w:World) (K:NJ) (mg:Str->Option Value) (base:Heap) (C:Addr) (m:Str) (k:Nat) (ps:List Str) (sp:Sp):Prop where
 ex:∃f fd,gr P w K mg base k f fd ps sp/\Mg K C m f/\fg K fd ps
def KA (Ex:St->XK) (sp:Sp) (t:TA):TE:=λσ H Q=>t σ H λvs H1=>sp vs H1 Q (Ex σ)
theorem we {pl:Sem Bool}(p:PE X o (tC (.ref C)))(G:hZ X.prog X.w X.K X.mg X.base C m k ps sp)(z:dh k X.A)(hx:gT X.prog X.w X Ex)(j:PA X (e::es) t)
  (b:starEach (e::es) X.env=(false,eval e X.env)::starEach es X.env:=by rfl) (c:(backTo pos (starEach es X.env)).any (·.1)=false:=by rfl)
  (q:eval (.Call (.Attribute o m apos) (e::es) [] pos) X.env=(do
   let d<-eval o X.env
   standAt apos.atName
   let (f,first)<-holding [d] (getMethod d m pl)
   callWith pos f first (backTo pos (starEach (e::es) X.env)) (backToKw pos (keywordEach [] X.env))):=by rfl):
  PE X (.Call (.Attribute o m apos) (e::es) [] pos) (KA Ex sp t):=by
 obtain⟨f,fd,F,a,y⟩:=G.ex
 obtain⟨E,h1,h2⟩:=a.ex
 intro pins s σ H Q I h
 refine Qw (pl:=pl) (cJ (p pins s σ H (λv H1=>v=.ref C/\H1=H) I ⟨rfl,rfl⟩) λu s1 g=>?_) q
 obtain⟨x,H1,I1,n,ex,B⟩:=g
 subst ex B
 cases(show u=Value.ref C from n)
 refine PySem.W.method_cls I1.kIn a.hg (PySem.W.cls_value I1.kIn h1 h2 a.hh ?_)
 have i:=I1.tok (s1.toks+1)
 refine Ql (first:=[]) (h₀:=X.base) I.ok.mod.kin a.kp (cJ (j pos pins _ σ _ _ i h) λD s2 ⟨vs,H2,I3,r,l⟩=>⟨I3.kIn,?_⟩) b c
 exact mZ F z y hx I3 r l
end
theorem Fx(_hr:dh k X.A)(h:PE X e t):FP X (.FormattedValue e 114 none pos) λσ H=>t σ H λv H'=>H'=H/\∃x:Str,v=.str x/\(∀c∈x.cps.toList,c<16^8)/\x.length<=500:=by
 intro pins σ H s Q I c q
 have a:sizeLine=2^24:=rfl
 refine wpAny_FormattedValue_repr (On (h pins s σ H _ I c) (λv s' d=>?_) λ_ _ z=>z)
 obtain⟨j,H',I',r,rfl,x,rfl,b,f⟩:=d
 obtain⟨t,rfl⟩:=r
 have g:=PySem.StrLaws.reprText_len x b
 refine wpAny_pyReprObj_str ?_ (by lia)
 exact formatField_str (λi tk=>q _ _ _ (I'.tok _) (by lia)) (by lia)
def Cq (C c:Addr) (m:Str) (sp b:Sp) (ta:TE):TE:=λσ H Q=>ta σ H λx H1=>∃a D dx fs,x=.ref a/\H1 a=some (.ins D dx fs)/\fs.lookup m=none/\
 ((D=C/\sp [x] H1 Q E0)\/(D=c/\b [x] H1 Q E0))
section
variable {C C':Addr} {k k':Nat} {ps ps':List Str} {sp sp':Sp} {m:Str} {pos apos:Pos} {o:Expr} {ta:TE}
theorem mQ {pl:Sem Bool}(r:PE X o ta)(c:mF X.K C)(B:mF X.K C')(G:fE X.prog X.w X.K X.mg X.base C m k ps sp)(z:fE X.prog X.w X.K X.mg X.base C' m k' ps' sp')(E:dh k X.A)(g:dh k' X.A)
  (v:eval (.Call (.Attribute o m apos) [] [] pos) X.env=(do
   let n<-eval o X.env
   standAt apos.atName
   let (f,first)<-holding [n] (getMethod n m pl)
   callWith pos f first (backTo pos (starEach [] X.env)) (backToKw pos (keywordEach [] X.env))):=by rfl):
  PE X (.Call (.Attribute o m apos) [] [] pos) (Cq C C' m sp sp' ta):=by
 obtain⟨f,fd,F,j,y⟩:=G.ex
 obtain⟨M,e,F',b,d⟩:=z.ex
 intro pins s σ H Q I h
 refine Qw (pl:=pl) (cJ (r pins s σ H _ I h) λu s1 J=>?_) v
 obtain⟨x,H1,I1,p,a,D,dx,fs,ex,i,l,q⟩:=J
 subst ex
 obtain rfl:u=Value.ref a:=p
 rcases q with ⟨rfl,q⟩|⟨rfl,q⟩
 ·refine jz I1 i c j l ?_
  exact PySem.W.callWith_K0 (first:=[.ref a]) I1.kIn j.kp (mZ (us:=[.ref a]) (vs:=[.ref a]) F E y gM I1 (.cons rfl .nil) q)
 ·refine jz I1 i B b l ?_
  exact PySem.W.callWith_K0 (first:=[.ref a]) I1.kIn b.kp (mZ (us:=[.ref a]) (vs:=[.ref a]) F' g d gM I1 (.cons rfl .nil) q)
end
theorem Ez(h:PE X e t):FP X (.FormattedValue e (-1) none pos) λσ H=>t σ H λv H'=>H'=H/\∃x:Str,v=.str x/\x.length<=6000:=by
 intro pins σ H s Q I c q
 have a:sizeLine=2^24:=rfl
 refine FormattedValue_plain (On (h pins s σ H _ I c) (λv s' d=>?_) λ_ _ z=>z)
 obtain⟨g,H',I',r,rfl,x,rfl,b⟩:=d
 obtain⟨t,rfl⟩:=r
 exact formatField_str (λf tk=>q _ _ _ (I'.tok _) b) (by lia)
theorem vg {K:Type} [DecidableEq K]{xs:List (K×Value)}{k:K}{v:Value}:(stored xs k v).length<=xs.length+1:=by
 unfold stored
 split
 ·rw[NG];lia
 ·simp
noncomputable def xk {K:Type} [DecidableEq K] (a:Nat->K) (b:Nat->Value):Nat->List (K×Value)
 |0=>[]
 |i+1=>stored (xk a b i) (a i) (b i)
theorem oU {K:Type} [DecidableEq K]{a:Nat->K}{b:Nat->Value}:∀(i:Nat),(xk a b i).length<=i
 |0=>NI _
 |i+1=>NP vg (Pu (oU i))
abbrev L7 (H:Hp) (as:List Addr) (kvs:List (dq×V)):Prop:=Paired (λa (kv:dq×V)=>H a=some (.tup [kV kv.1,kv.2])) as kvs
abbrev J7 (kvs:List (dq×V)):List (dq×V):=G3 kvs
theorem lP (hc:X.calm=true):c_ X (.type "dict") (λxs H Q=>∃(l:Addr) (as:List Addr) (kvs:List (dq×V)),xs=[.ref l]/\H l=some (.lst (as.map V.ref))/\L7 H as kvs/\∀p,H p=none->Q (.ref p) (upd H p (.dK (J7 kvs)))):=by
 intro pins s σ H xs us Q I r h
 obtain⟨l,as,kvs,rfl,N,K,q⟩:=h
 obtain⟨u,rfl,R⟩:=dY r
 cases R
 obtain⟨M,y,c,rv,x⟩:=I.hok l _ N
 obtain rfl:=lh rv
 have len:as.length=kvs.length:=Paired.length K
 have ex:∀j,∃(b u:Value),j<as.length->nX s.heap (as.getD j 0) b u/\bo (kV (kvs.getD j (.inl 0,.non)).1) b/\bo (kvs.getD j (.inl 0,.non)).2 u:=λj=>by
  by_cases G:j<as.length
  ·have f:j<kvs.length:=by lia
   obtain⟨a,Z,h1⟩:=g9 K j f
   obtain⟨_,ii,rr,o,F,v,n,A⟩:=I.hok a _ h1
   obtain⟨T,S,rfl,P,r2⟩:=kl rr
   refine⟨T,S,λ_=>?_⟩
   have e1:as.getD j 0=a:=by rw[OJ,Z];rfl
   have D:kvs.getD j (.inl 0,.non)=kvs[j]:=by rw[OJ,Ox f];rfl
   rw[e1,D]
   exact⟨⟨o,n,F,v,A⟩,P,r2⟩
  ·exact⟨.none,.none,λz=>absurd z G⟩
 obtain⟨C,m⟩:∃C:Nat->Value,∀j,∃u:Value,j<as.length->nX s.heap (as.getD j 0) (C j) u/\bo (kV (kvs.getD j (.inl 0,.non)).1) (C j)/\bo (kvs.getD j (.inl 0,.non)).2 u:=⟨λj=>Classical.choose (ex j),λj=>Classical.choose_spec (ex j)⟩
 obtain⟨B,d⟩:∃B:Nat->Value,∀j,j<as.length->nX s.heap (as.getD j 0) (C j) (B j)/\bo (kV (kvs.getD j (.inl 0,.non)).1) (C j)/\bo (kvs.getD j (.inl 0,.non)).2 (B j):=⟨λj=>Classical.choose (m j),λj=>Classical.choose_spec (m j)⟩
 have W:∀i,i<=as.length->KV (J7 (kvs.take i)) (xk (λj=>(kvs.getD j (.inl 0,.non)).1) B i):=by
  intro i
  induction i with
  |zero=>intro _;exact .nil
  |succ i ih=>
   intro hi
   obtain⟨_,_,Y⟩:=d i hi
   have w:i<kvs.length:=by lia
   have D:kvs[i]?=some (kvs.getD i (.inl 0,.non)):=by rw[OJ,Ox w];rfl
   have O:kvs.take (i+1)=kvs.take i++[kvs.getD i (.inl 0,.non)]:=by rw[Pa,D];rfl
   unfold J7;rw[O,nU]
   exact KV.put (ih (by lia)) _ Y
 refine iw (I.ok.hd hc) x C B (DX:=λi h=>h.DictOf (bG X.prog X.w) s.heap.objs.size (xk (λj=>(kvs.getD j (.inl 0,.non)).1) B i)) (KO:=λ_ _=>True) (λj G=>⟨(d j G).1,trivial⟩) (λ_ _ _ _ _ z=>z) (λi hi g g' U ⟨o,es,ep,F,r⟩=>⟨o,es,ep,U _ _ (NI _) F,r⟩) (λi hi s' Q E _ d1 q=>wpAny_dictSet_pairs (yw (d i hi).2.1) d1 (λh' A sb=>q h' _ (O0 _ _) A sb) (NP (oU i) (NP (Py hi) (by simpa using M)))) (λh' e=>⟨_,#[],0,e,⟨rfl,rfl,rfl⟩,rfl,(λe he=>nomatch he),.nil,P1⟩) λh' tk A hk=>?_
 ·have J:=W as.length (NI _)
  rw[len,Ob] at J
  rw[len] at A
  have fr:H s.heap.objs.size=none:=I.hok.fresh (NI _)
  exact⟨.ref s.heap.objs.size,_,I.laid (a:=s.heap.objs.size) (o:=.dK (J7 kvs)) (t':=tk) hk (NI _) ⟨NP yh (by rw[<-len];simpa using M),beq_eq_false_iff_ne.mpr (N6 (NS I.big)),_,J,A⟩,rfl,q _ fr⟩
def Jz (K:NJ) (b:TA):TI:=λσ H R=>b σ H λvs H1=>∃a,vs=[.ref a]/\(∃xs,bf K H1 a xs)/\R (Jj 0 K a) H1
theorem CH(r:Gl X "enumerate")(o:X.mg "enumerate" =none)(A:bootBuiltins "enumerate" =some (.type "enumerate"))(x:PA X [l] ta)
  (y:starEach [l] X.env=[(false,eval l X.env)]:=by rfl):
  PI X (.Tuple elts x1 pt) (.Call (.Name "enumerate" p) [l] [] pos) (Jz X.K ta):=by
 intro pins s σ H R I h
 refine Pj (ig I r o A ?_ (by decide) (by decide))
 have d:=x pos pins s σ H _ I h
 rw[y] at d|-
 refine jq rfl rfl (evalArgs_kwB (rest:=[]) rfl (cJ d λB s1 w=>?_))
 obtain⟨vs,H1,I1,i,z⟩:=w
 obtain⟨a,rfl,⟨xs,n⟩,q⟩:=z
 obtain⟨u,rfl,m⟩:=dY i
 cases m
 refine kws_nil ?_
 obtain⟨e,D,v,C⟩:=I1.list n
 refine call_enumerate_list v.isList λh' f g _ j=>?_
 refine wpAny_pyIter_enum (s:={s1 with heap:=h'}) f ?_
 refine⟨s1.heap.objs.size+1,[s1.heap.objs.size+1,s1.heap.objs.size],_,_,H1,rfl,I1.kept (t':=s1.toks) j,oW 0 a _ _ (Nat.succ_ne_self _),⟨⟨_,f⟩,g⟩,λb hb=>?_,q⟩
 have c:s1.heap.objs.size<=b:=by
  rcases NK.mp hb with rfl|hb
  ·exact Nat.le_succ _
  ·rw[NR.mp hb];exact NI _
 exact I1.fpOk c (I1.hok.fresh c)
theorem yC {a:Addr}{xs:List V}{g:TG}{tb:TS}{D:ez}(b:Nat->St->Hp->Prop)(h0:b 0 σ H)(j:∀i σ H,i<=xs.length->b i σ H->bf K H a xs)
  (l:∀i y p σ H,xs[i]?=some y->H p=none->b i σ H->g (.ref p) σ (upd H p (.tup [.int ((i:Nat):Int),y])) λd H2=>tb {D with nx:=b (i+1),ct:=b (i+1),bk:=D.nx} d H2) (hd:∀σ H,b xs.length σ H->D.nx σ H):
  ∃W:Nat->Nat->St->Hp->Prop,(∃m,W 0 m σ H)/\∀i m σ H,W i m σ H->
   ((Jj 0 K a).stop i H/\D.nx σ H)\/((Jj 0 K a).go i H/\∃N:St->Hp->Prop,(∀c H',N c H'->∃f,f<m/\W (i+1) f c H')/\∀x H',(Jj 0 K a).yld i H x H'->g x σ H' λd H2=>tb {D with nx:=N,ct:=N,bk:=D.nx} d H2):=by
 refine⟨λi m σ H=>m=xs.length - i/\i<=xs.length/\b i σ H,⟨xs.length,by simp,N9 _,h0⟩,?_⟩
 rintro i m σ H ⟨rfl,hi,p⟩
 have q:=j i σ H hi p
 by_cases hlt:i<xs.length
 ·refine .inr ⟨⟨xs,xs[i],q,by simp[hlt]⟩,b (i+1),λc H' o=>⟨xs.length - (i+1),by omega,rfl,hlt,o⟩,λx H' y=>?_⟩
  obtain⟨P,z,h,rfl,rfl,n⟩:=y
  exact l i z P σ _ (n xs q) h p
 ·have e:i=xs.length:=by omega
  subst e
  exact .inl ⟨⟨xs,q,NI _⟩,hd σ H p⟩
noncomputable def uk (a:Addr) (C:Value) (dd:Option Addr):HO:=.ext λh=>∃t,h.get? a=some {cls:=C,dict:=dd,data:=.fields #[.ref t,.none,.none,.none,.bool false,.none]}
theorem uF{dd:Option Addr}(e:h.get? a=some {cls:=C,dict:=dd,data:=.fields #[.ref t,.none,.none,.none,.bool false,.none]}):cg P w H h a (uk a C dd):=
 ⟨⟨t,e⟩,⟨_,e⟩,λ_ _ ⟨t,e⟩ k=>⟨t,k _ e⟩⟩
theorem ot{c:Heap->Prop}(d:H a=some (.ext c))(e:H b=some u)(n:∀c,u≠.ext c):Gj H a b=some u:=by
 have z:b≠a:=λz=>by rw[z,d] at e;cases e;exact n _ rfl
 rw[m_ z];exact e
theorem aM.drop{f:Heap->Prop}(I:aM X pins σ H s)(d:H a=some (.ext f)):aM X pins σ (Gj H a) s:=by
 refine⟨I.ok,I.os,I.bare,⟨I.base.keep,I.base.slot,λb o e n g=>kC (I.base.free b o e n g),I.base.there,λb xs e=>ot d (I.base.tups b xs e) (λ_ z=>nomatch z),λb o u e=>ot d (I.base.frzs b o u e) (λ_ z=>nomatch z),λb ps e=>?_⟩,I.loc,I.cell,kC I.free,λx c e=>kC (I.freeC x c e),
  λp h=>let ⟨p1,p2,p3⟩:=I.pin p h;⟨p1,kC p2,p3⟩,λb u e=>?_,I.len⟩
 ·obtain⟨m,z⟩:=I.base.tbls b ps e
  exact⟨m,ot d z λ_ z=>nomatch z⟩
 ·by_cases hb:b=a
  ·subst hb;rw[mM] at e;cases e
  ·rw[m_ hb] at e
   exact(I.hok b u e).stay (λ_ _ _ z=>z) (λc z=>ot d z (λ_ z=>nomatch z)) λc xs z=>ot d z λ_ z=>nomatch z
section
variable {P:Program} {N:List Str} {qual:Str} {scope:Scope} {f:Addr} {cd:Value} {outer:List Env} {s₀:Shared} {H₀:Hp} {E:XK}
theorem LP {a D:Addr}{C:Value}(I:aM (g0 P w K mg base N qual scope f cd A outer s₀ H₀ E) pins σ H s)(h:H a=some (uk a C (some D)))(l:s₀.heap.get? a=none)
  (q:E C (some D) (Gj H a)):(g0 P w K mg base N qual scope f cd A outer s₀ H₀ E).xe (.ref a) s:=by
 obtain⟨t,d⟩:=(I.hok a _ h).1
 have g:∀{b},H b=none->b≠a:=λe z=>by rw[z,h] at e;cases e
 have i:Nt (g0 P w K mg base N qual scope f cd A outer s₀ H₀ E) pins (Gj H a) a:=⟨mM,l,λp j=>g (I.pin p j).2.1,g I.free,λx c e=>g (I.freeC x c e)⟩
 exact Lc (I.drop h) ⟨rfl,rfl,rfl⟩ i d rfl rfl λs' T I z f=>Jp i (.inr ⟨D,rfl,q⟩) I z f
end
section
variable {h:Heap} {g:Array GenState} {d:Drawn} {t:Nat} {os:OsState}
variable {nm q:Str} {C N:Addr} {bs bm bmB:List Value} {hdct:Bool} {sn:List Str} {sub:List Value} {ab:Bool} {col:Option Bool} {dd:Option Addr} {k0 k1 k2 k3 k5:Option Value} {B newId initId:String}
theorem vf (F:ExcBaseFacts B newId initId bmB)(T:OwnTail h bmB bm){mN:Str->Option Value}{rest:List Value}{s:Addr}{y:Obj}{Q:Fin->Shared->Prop}
  (p:h.get? C=some (excClassObj nm q C N bs bm hdct sn sub ab col dd k0 k1 k2 k3 k5 newId)) (z:h.Ns N mN) (hi:mN "__init__" =some (.ref s)) (u:h.get? s=some y) (v:y.cls=.type "function") (l:rest.length<=sizeLine)
  (D:∀h' e,Heap.MadeExcOf h h' e (.ref C) rest->wpAny (model prog w) A (call (.ref s) (.ref e::rest)) (λr s'=>r=.none/\Q (.done (.ret (.ref e))) s') E ⟨h',g,d,t,os⟩):
  wpAny (model prog w) A (Builtin.«type.__call__» ⟨.ref C::rest,[]⟩) Q E ⟨h,g,d,t,os⟩:=by
 repeat (first|with_reducible refine Qs p ?_|with_reducible refine wpAny_madeBy_exc p ?_|wp_step)
 refine codeAny_call_builtin_code (Code.quiet_builtin _ F.quiet) (wpAny_check_new_subT F T p ?_)
 refine codeAny_exc_new_subT F T p ?_ l
 generalize m:((h.push {cls:=.type "tuple",data:=.seq rest.toArray}).push {cls:=.ref C,data:=.fields #[.ref h.objs.size,.none,.none,.none,.bool false,.none]})=h1
 have n:∀b o,h.get? b=some o->h1.get? b=some o:=λb o I=>by rw[<-m];exact NN _ (NN _ I)
 have c:=n _ _ p
 have f:=n _ _ u
 have i:h1.Ns N mN:=z.keeps n
 have a:h1.get? (h.objs.size+1)=some {cls:=.ref C,data:=.fields #[.ref h.objs.size,.none,.none,.none,.bool false,.none]}:=by rw[<-m];heap_get
 have j:(Value.ref C::bm).contains (.ref C)=true:=by simp
 repeat (first|with_reducible refine Qs a ?_|(with_reducible refine wpAny_isSubtype_exc c ?_;rw[j])|wp_step)
 refine wpAny_typeLookup_tail c i (T.keeps n) F.mroIs F.init.lookup ?_
 rw[hi]
 refine Oe (ND ?_)
 refine ND (PN (T:= "function") ⟨_,f,v⟩ ?_)
 refine NH (ND (On (D h1 (h.objs.size+1) ⟨n,O6 (Nat.le_succ _),h.objs.size,a,O6 (NI _),?_⟩) (λr s' G=>?_) λ_ _ x=>x))
 ·rw[<-m];exact NN _ (Heap.get?_push_at rfl rfl)
 ·obtain⟨rfl,H⟩:=G
  wp_walk
  exact H
theorem Ah (F:ExcBaseFacts B newId initId bmB)(T:OwnTail h bmB bm){mN:Str->Option Value}{rest:List Value}{b:Addr}{j:Obj}{Q:Value->Shared->Prop}
  (c:h.get? C=some (excClassObj nm q C N bs bm hdct sn sub ab col dd k0 k1 k2 k3 k5 newId)) (l:h.Ns N mN) (hi:mN "__init__" =some (.ref b)) (f:h.get? b=some j) (i:j.cls=.type "function") (a:rest.length<=sizeLine)
  (m:∀h' e,Heap.MadeExcOf h h' e (.ref C) rest->wpAny (model prog w) (A.under (.builtin "type.__call__" ⟨.ref C::rest,[]⟩)) (call (.ref b) (.ref e::rest)) (λr s'=>r=.none/\Q (.ref e) s') E ⟨h',g,d,t,os⟩):
  wpAny (model prog w) A (call (.ref C) rest) Q E ⟨h,g,d,t,os⟩:=by
 have o:=tc_lookup
 have p:=tc_bind (.ref C)
 refine OS (codeAny_of_tree ?_)
 repeat (any_goals (first|assumption|with_reducible refine Qs c ?_|wp_step))
 refine⟨rfl,?_⟩
 refine codeAny_call_builtin_at (Code.quiet_builtin _ (by decide+kernel)) entry_typeCall (wpAny_check_type_call_sub c (vf F T c l hi f i a λh' e n=>?_))
 exact m h' e n
theorem vd{Q:Flow->Shared->Prop}(c:bm.contains (.type "BaseException")=true)(i:A.handled=none)
  (h:wpAny (model prog w) A (eval x env) (λv b=>∃e t f,v=.ref e/\b.heap.get? C=some (excClassObj nm q C N bs bm hdct sn sub ab col dd k0 k1 k2 k3 k5 newId)/\
   b.heap.get? e=some {cls:=.ref C,dict:=f,data:=.fields #[.ref t,.none,.none,.none,.bool false,.none]}/\E (.ref e) b) E s):
  wpAny (model prog w) A (exec (.Raise (some x) none pos) env) Q E s:=by
 have a:(Value.ref C::bm).contains (.type "BaseException")=true:=by rw[List.contains_cons,c,Bool.or_true]
 rw[arm_exec_Raise]
 refine ND (PV ?_)
 refine ND (ND (On h (λv b d=>ND (PV (NH ?_))) λ_ _ x=>x))
 obtain⟨e,t,f,rfl,g,j,l⟩:=d
 repeat (first|with_reducible refine Qs j ?_|with_reducible refine Qs g ?_|(with_reducible refine wpAny_isSubtype_exc g ?_;rw[a])|wp_step)
 exact wpAny_raiseNew_none i l
end
abbrev Mu:List Value:=[.type "ValueError",.type "Exception",.type "BaseException",.type "object"]
structure IY (K:NJ) (C f:Addr):Prop where
 sh:qg K C Mu "ValueError.__new__" (some (.ref f))=true
 lk:∃o,K.lookup f=some o/\o.cls=.type "function"
 kp:Oo K (.ref C)=true
structure mP (P:Program) (w:World) (K:NJ) (mg:Str->Option Value) (base:Heap) (x:Str) (C:Addr) (k:Nat) (ps:List Str) (sp:Sp):Prop where
 ex:∃f fd,gr P w K mg base k f fd ps sp/\mg x=some (.ref C)/\IY K C f/\fg K fd ps
def yg (X:Cx) (Ex:St->XK):Prop:=
 ∀(pins:List (Addr×Obj)) (σ:St) (H:Hp) (s:Shared) (a D:Addr) (C:Value),aM X pins σ H s->H a=some (uk a C (some D))->X.s₀.heap.get? a=none->Ex σ C (some D) (Gj H a)->X.xe (.ref a) s
def wY (Ex:St->XK) (C:Addr) (sp:Sp) (t:TA):TS:=λ_ σ H=>t σ H λvs H1=>vs.length<=sizeLine/\∀x,H1 x=none->sp (.ref x::vs) (upd H1 x (uk x (.ref C) none)) (λv H2=>v=.non/\∃D,H2 x=some (uk x (.ref C) (some D))/\Ex σ (.ref C) (some D) (Gj H2 x)) E0
theorem pL {Ex:St->XK}{x:Str}{C:Addr}{k:Nat}{ps:List Str}{sp:Sp}{o:Expr}{rest:List Expr}{t:TA}{np y R:Pos}(G:mP X.prog X.w X.K X.mg X.base x C k ps sp)(hr:dh (k+1) X.A)(hc:X.calm=true)(hg:Gl X x)
  (hx:yg X Ex) (ha:PA X (o::rest) t) (hd:(x==("__debug__" :Str))=false:=by decide) (he:starEach (o::rest) X.env=(false,eval o X.env)::starEach rest X.env:=by rfl)
  (O:(backTo y (starEach rest X.env)).any (·.1)=false:=by rfl) (P:X.ex=[]:=by rfl):PS X (.Raise (some (.Call (.Name x np) (o::rest) [] y)) none R) (wY Ex C sp t):=by
 intro pins s σ H D I h
 obtain⟨f,fd,F,hm,M,hb⟩:=G.ex
 obtain⟨of,g,j⟩:=M.lk
 have U:=Oz
 obtain⟨bm,Nm,nm,q,bs,hdct,sn,sub,ab,col,dd,k0,k1,k2,k3,k5,mN,Z,hN,hi,T⟩:=lV I.ok.mod.kin M.sh
 refine vd (C:=C) (nm:=nm) (q:=q) (N:=Nm) (bs:=bs) (bm:=bm) (hdct:=hdct) (sn:=sn) (sub:=sub) (ab:=ab) (col:=col) (dd:=dd) (k0:=k0) (k1:=k1) (k2:=k2) (k3:=k3) (k5:=k5) (newId:= "ValueError.__new__") (T.hasType U.hasBase) (I.ok.hd hc) ?_
 refine Pj (ij I hg hm ?_ hd)
 refine Ql (h₀:=X.base) I.ok.mod.kin M.kp (cJ (ha y pins s σ H _ I h) λE s1 ⟨vs,H1,I1,r,hz,q1⟩=>⟨I1.kIn,?_⟩) he O
 obtain⟨l,Y,d1,Q,c⟩:=s1
 refine Ah U (T.keeps I1.bk) (I1.bk _ _ Z) (hN.keeps I1.bk) hi (I1.kIn _ _ g) j (show E.length<=sizeLine by rw[<-r.length];exact hz) λh' e p=>?_
 obtain⟨t0,ht,_,_⟩:=p.there
 have a:H1 e=none:=I1.hok.none_of p.new
 have J:aM X pins σ (upd H1 e (uk e (.ref C) none)) ⟨h',Y,d1,Q,c⟩:=I1.laidN (t':=Q) (λb u _ z=>p.keeps b u z) (λm z=>z.keeps p.keeps) p.new (uF ht)
 have S:=q1 e a
 have W:bH (V.ref e::vs) (Value.ref e::E):=.cons rfl r
 have hl:(Value.ref e::E).length=ps.length:=by rw[<-W.length];exact F.len _ _ _ _ S
 have i:=hb ⟨h',Y,d1,Q,c⟩ (Value.ref e::E) J.kIn hl
 refine OS (codeAny_mono (F.run _ X.stack _ _ ⟨Value.ref e::E,[]⟩ (Value.ref e::E) _ _ E0 (hr.make C E []) (J.env0.make C E []) i W S) λr s' B=>?_)
 cases r with
 |error e=>exact(Mq B).elim
 |ok fl=>
  cases fl with
  |ret u=>
   obtain⟨v,H',I3,rv,ev,D2,hD,q3⟩:=J.after B
   subst ev
   obtain⟨t3,d⟩:=(I3.hok e _ hD).1
   exact⟨rv,e,t3,some D2,rfl,I3.bk _ _ Z,d,hx pins σ H' s' e D2 _ I3 hD (I1.nt P p.new a).n q3⟩
  |next=>exact False.elim B
  |brk=>exact False.elim B
  |cont=>exact False.elim B
section
variable {P:Program}
theorem wO {N:List Str}{e:Str}{scope:Scope}{f:Addr}{g:Value}{b:List Env}{d:Shared}{c:Hp}{E:XK}:yg (g0 P w K mg base N e scope f g A b d c E) λ_=>E:=λpins σ H s a D C I h n q=>LP I h n q
end
structure GH (K:NJ) (W:Addr):Prop where
 ex:∃mc,PySem.W.readsIn K W mc=true/\PySem.W.findCls K (.ref W) mc "__init__" =some (.val (.builtin "ValueError.__init__"))
 hg:Qj K (.ref W) "__getattribute__" =some (some (.builtin "type.__getattribute__"))
def LM (K:NJ) (t:TA):TE:=λσ H Q=>t σ H λvs H1=>∃x y C f dd,vs=[.ref x,y]/\H1 x=some (uk x (.ref C) dd)/\IY K C f/\Q .non H1
theorem C9(e:H a=some o):upd H a o=H:=by
 funext b
 by_cases hb:b=a
 ·subst hb;rw[ah,e]
 ·rw[ay hb]
theorem zf {x C f:Addr}{u:Value}{dd:Option Addr}{Q:Value->Shared->Prop}(I:aM X pins σ H s)(hx:H x=some (uk x (.ref C) dd))(M:IY X.K C f)
  (h:∀s',aM X pins σ H s'->Q .none s'):wpAny (model X.prog X.w) X.A (call (.builtin "ValueError.__init__") [.ref x,u]) Q X.xe s:=by
 have p:=Oz
 obtain⟨bm,Nm,nm,q,bs,i,sn,m,ab,l,j,k0,k1,k2,k3,k5,E,y,D,hi,T⟩:=lV I.kIn M.sh
 obtain⟨t0,a⟩:=(I.hok x _ hx).1
 obtain⟨r,g,d,t,os⟩:=s
 refine OS (codeAny_call_builtin p.init.plain p.initEntry (wpAny_check_init_subT p T y a rfl ?_))
 wp_walk
 refine h _ ?_
 generalize n:Heap.update (Heap.push r _) x _=h'
 have c:∃t,h'.get? x=some {cls:=.ref C,dict:=dd,data:=.fields #[.ref t,.none,.none,.none,.bool false,.none]}:=by
  refine⟨r.objs.size,?_⟩
  rw[<-n,OR _ (NN _ a) rfl]
  rfl
 have v:=I.write (x:=x) (e:=x) (o:=uk x (.ref C) dd) (t':=t) (h':=h') (by rw[hx];exact True.intro) (.inl rfl) (λb o B z=>by rw[<-n,PD _ _ (N6 B)];exact NN _ z) (let ⟨t,e⟩:=c;⟨_,e⟩) (let ⟨t,e⟩:=c;uF e)
 rw[C9 hx] at v
 exact v
theorem EL {pl:Sem Bool}(n:PE X o (tC (.ref W)))(B:GH X.K W)(D:PA X (e::es) t)
  (c:starEach (e::es) X.env=(false,eval e X.env)::starEach es X.env:=by rfl) (b:(backTo pos (starEach es X.env)).any (·.1)=false:=by rfl)
  (p:eval (.Call (.Attribute o "__init__" apos) (e::es) [] pos) X.env=(do
   let i<-eval o X.env
   standAt apos.atName
   let (f,first)<-holding [i] (getMethod i "__init__" pl)
   callWith pos f first (backTo pos (starEach (e::es) X.env)) (backToKw pos (keywordEach [] X.env))):=by rfl):
  PE X (.Call (.Attribute o "__init__" apos) (e::es) [] pos) (LM X.K t):=by
 obtain⟨E,h1,h2⟩:=B.ex
 intro pins s σ H Q I h
 refine Qw (pl:=pl) (cJ (n pins s σ H (λv H1=>v=.ref W/\H1=H) I ⟨rfl,rfl⟩) λu s1 d=>?_) p
 obtain⟨x,H1,I1,l,ex,z⟩:=d
 subst ex z
 cases(show u=Value.ref W from l)
 refine PySem.W.method_cls I1.kIn B.hg (PySem.W.cls_value I1.kIn h1 h2 (by decide+kernel) ?_)
 have A:=I1.tok (s1.toks+1)
 have g:=D pos pins _ σ _ _ A h
 rw[c] at g|-
 refine Calls.callWith_builtin (by show(false||(backTo pos (starEach es X.env)).any (·.1))=false;rw[b];rfl) (Calls.evalArgs_plain ?_)
 refine cJ g λF s2 d=>?_
 obtain⟨vs,H2,I3,m,x,y,C,f,dd,q,w,M,j⟩:=d
 subst q
 obtain⟨r,J,rfl,a,G⟩:=kl m
 cases(show r=Value.ref x from a)
 exact zf I3 w M λs' I'=>⟨.non,H2,I',rfl,j⟩
structure mO (K:NJ) (C:Addr) (name:Str):Prop where
 sa:Oh K (.ref C) "__setattr__" =some (some (.builtin "object.__setattr__"))
 ob:Qk K C (.type "object")=some true
 be:Qk K C (.type "BaseException")=some true
 na:Oh K (.ref C) name=some none
 hd:Qi K C=true
 ga:Oh K (.ref C) "__getattribute__" =some (some (.builtin "BaseException.__getattribute__"))
 gn:Oh K (.ref C) "__getattr__" =some none
theorem ue(T:OwnTail h bmB tl)(b:Value)(a:Str):refuseLoop b a tl=refuseLoop b a bmB:=by
 induction T with
 |base=>rfl
 |own _ _ _ _ ih=>rw[refuseLoop_ref,ih]
theorem Ec {x C f:Addr}{name:Str}{y:V}{u:Value}{Q:Unit->Shared->Prop}(I:aM X pins σ H s)(hx:H x=some (uk x (.ref C) none))(M:IY X.K C f)(R:mO X.K C name)(ry:bo y u)
  (h:∀D s',H D=none->D≠x->aM X pins σ (upd (upd H x (uk x (.ref C) (some D))) D (.xd [(name,y)])) s'->Q () s'):wpAny (model X.prog X.w) A (setAttr (.ref x) name u) Q E s:=by
 obtain⟨bm,Nm,nm,q,bs,P,sn,Z,ab,W,U,k0,k1,k2,k3,k5,mN,hC,hN,hi,T⟩:=lV I.kIn M.sh
 obtain⟨t0,d⟩:=(I.hok x _ hx).1
 have J:PySem.W.InstAt s.heap x _ C none:=⟨d,rfl,rfl,True.intro⟩
 have SF:=PySem.F.store_object
 have SV:=PySem.F.store_ValueError
 obtain⟨cd,N,B⟩:=PySem.W.any_some R.hd
 refine PySem.W.set_plain I.kIn J R.sa ?_
 refine codeAny_call_builtin SF.slot.plain SF.entry (@PySem.W.check_slot (model X.prog X.w) _ _ {s with toks:=s.toks+1} "object.__setattr__" "object" "__setattr__" (.ref x) [.str name s.toks,u] [] _ SF.kind SF.split (J.type.andThen (Qx I.kIn R.ob)) (SF.args (.ref x) (.str name s.toks) u) ?_)
 rw[PySem.W.osa_eq,refuse_eq]
 refine ND (ND (OQ.here (s:={s with toks:=s.toks+1}) J.type (ND (wpAny_mroOf_exc hC ?_))))
 rw[refuseLoop_ref,ue T,SV.passes]
 refine NH (ND (OQ.here (s:={s with toks:=s.toks+1}) J.type (ND (OQ.here (s:={s with toks:=s.toks+1}) (PX I.kIn R.na) (ND (NH ?_))))))
 refine ND (NH (ND (ND (wpAny_loadPart d (ND (OQ.here (s:={s with toks:=s.toks+1}) (PySem.W.looks_clsIn I.kIn N) ?_))))))
 rw[B]
 have m:x<s.heap.objs.size:=NO d
 have a:x≠s.heap.objs.size:=NS m
 have l:(s.heap.push {cls:=.type "dict",data:=.dict #[]}).get? x=some _:=NN _ d
 refine ND (wpAny_alloc' (ND (wpAny_update' l (ND (NH ?_)))))
 generalize ac:(Heap.update (Heap.push s.heap _) x _)=h2
 have O:h2.get? x=some {cls:=.ref C,dict:=some s.heap.objs.size,data:=.fields #[.ref t0,.none,.none,.none,.bool false,.none]}:=by
  rw[<-ac];exact OR _ l rfl
 have K:h2.get? s.heap.objs.size=some {cls:=.type "dict",data:=.dict #[]}:=by
  rw[<-ac];exact(Heap.get?_update_ne _ _ _ _ a.symm).trans (Heap.get?_push_at rfl rfl)
 have r:∀b o,b≠x->s.heap.get? b=some o->h2.get? b=some o:=λb o hb z=>by
  rw[<-ac];exact(Heap.get?_update_ne _ _ _ _ hb).trans (NN _ z)
 have F:h2.Ns s.heap.objs.size (λ_=>none):=⟨_,#[],_,K,rfl,λe he=>absurd he (by simp),λ_=>rfl⟩
 refine NH ?_
 refine ND (NH (ND (wpAny_nsSet1 (Heap.Ns1.of_empty F) λh' ad hs=>?_)))
 obtain⟨oD,Y,S,G,w,n⟩:=ad.count (Within.cons name u Within.nil)
 refine ND (wpAny_lookBehind G (by rw[w];exact pastItsLine_dict (NP n (by rw[NU,Qn,sizeLine_eq];lia))) ?_)
 have i:H s.heap.objs.size=none:=I.hok.fresh (NI _)
 have j:h'.get? x=some {cls:=.ref C,dict:=some s.heap.objs.size,data:=.fields #[.ref t0,.none,.none,.none,.bool false,.none]}:=(hs.2 x a).trans O
 refine NH (h s.heap.objs.size _ i a.symm ?_)
 have I2:=I.write (x:=x) (e:=x) (o:=uk x (.ref C) (some s.heap.objs.size)) (t':=s.toks+1+1) (h':=h') (by rw[hx];exact True.intro) (.inl rfl) (λb o hb z=>(hs.2 b (NS (NO z))).trans (r b o hb z)) ⟨_,j⟩ (uF j)
 refine I2.track ⟨by rw[ay a.symm];exact i,O6 I.sz,λp hp=>NS (NO (I.pin p hp).1),NS I.lt,λz c e=>?_⟩ ⟨_,ad,λg=>?_⟩
 ·obtain⟨v,o,e',_⟩:=I.cell z c e
  exact NS (NO e')
 ·show iP (OM g [(name,y)]) (if g=name then some u else none)
  by_cases hg:g=name
  ·subst hg;simp only[List.lookup_cons_self,if_true];exact ry
  ·rw[if_neg hg]
   have:OM g [(name,y)]=none:=by simp[OM,beq_eq_false_iff_ne.mpr hg]
   rw[this];exact True.intro
def LB (K:NJ) (ta a:TE) (f:Str):TS:=λD σ H=>a σ H λy H1=>ta σ H1 λv H2=>∃x C g,v=.ref x/\H2 x=some (uk x (.ref C) none)/\IY K C g/\mO K C f/\∀d,H2 d=none->d≠x->D.nx σ (upd (upd H2 x (uk x (.ref C) (some d))) d (.xd [(f,y)]))
theorem EU(n:PE X o ta)(l:PE X value tv)(e:swapsWith value (some (.Attribute o f pos')) pos.line X.env=pure false):PS X (.Assign [.Attribute o f pos'] value pos) (LB X.K ta tv f):=by
 intro pins s σ H D I h
 refine plainObj_wpAny_Assign_Attribute (cJ (l pins s σ H _ I h) λu s1 ⟨y,H1,I1,j,q⟩=>cJ (n pins s1 σ H1 _ I1 q) λi s2 m=>?_) e
 obtain⟨v,H2,I2,c,x,C,g,p,b,M,R,a⟩:=m
 subst p
 obtain rfl:i=Value.ref x:=c
 exact Ec I2 b M R j λd s3 h1 h2 I3=>⟨σ,_,I3,a d h1 h2⟩
noncomputable def Ll (a:Addr) (C:Value) (D:Addr):HO:=.ext λh=>∃o vs,h.get? a=some o/\o.cls=C/\o.dict=some D/\o.data=.fields vs
theorem Fn{fs:List (Str×V)}(I:aM X pins σ H s)(O:H a=some (Ll a (.ref C) D))(G:H D=some (.xd fs))(R:mO X.K C name)
  (l:fs.lookup name=some v) (h:∀u s',aM X pins σ H s'->bo v u->Q u s'):wpAny (model X.prog X.w) A (getAttr (.ref a) name b) Q E s:=by
 obtain⟨B,vs,n,i,g,m⟩:=(I.hok a _ O).1
 obtain⟨mA,j,c⟩:=(show∃mA,s.heap.Ns1 D mA/\∀f,iP (fs.lookup f) (mA f) from I.hok D _ G)
 obtain⟨u,S,p⟩:=iP.some_of (v:=v) (o:=mA name) (by rw[<-l];exact c name)
 obtain⟨P,y,q⟩:=pA j
 have J:PySem.W.InstAt s.heap a B C (some P):=⟨n,i,by unfold PySem.W.notCls;rw[m],by rw[g];exact y⟩
 have x:=PySem.F.excAttr_ValueError
 have z:=PySem.W.looks_find (M:=model X.prog X.w) I.kIn J (PySem.W.findObj_own R.hd R.na rfl (by rw[q,S]))
 have N:builtinKind "BaseException.__getattribute__" =some .slot:=by decide+kernel
 have d:splitId "BaseException.__getattribute__" =some ("BaseException", "__getattribute__"):=by decide+kernel
 refine ND (wpAny_mkText (Oe (ND (J.type _ _ _ _ (λ_ _ e=>e) (ND (PX I.kIn R.ga _ _ _ _ (λ_ _ e=>e) ?_))))))
 dsimp only
 refine ND (PySem.W.looks_hook (mc:=.ref C) I.kIn (r:=none) (by rw[if_pos (show onTheHeap (Value.ref C)=true from rfl)];exact R.gn) _ _ _ _ (λ_ _ e=>e) (ND (ON (Oe ?_))))
 unfold callGetattribute
 rw[show(b&&onTheHeap (Value.builtin "BaseException.__getattribute__"))=false from Om _,if_neg (by decide)]
 unfold boundAndCalled
 refine OS (codeAny_call_builtin x.ga.plain PySem.F.entry_bexc_ga ?_)
 refine @PySem.W.check_slot (model X.prog X.w) _ _ {s with toks:=s.toks+1} "BaseException.__getattribute__" "BaseException" "__getattribute__" (.ref a) [.str name s.toks] [] _ N d (J.type.andThen (Qx I.kIn R.be)) (PySem.F.args_bexc_ga (.ref a) (.str name s.toks)) ?_
 refine ND (NH (ND (NH (ND (OQ.here (s:={s with toks:=s.toks+1}) J.type (ND (OQ.here (s:={s with toks:=s.toks+1}) z ?_)))))))
 refine NH ?_
 show wpAny _ _ (handedOut u) _ _ _
 rw[PySem.W.handedOut_of (o8 p)]
 exact NH (h u _ (I.tok _) p)
def K_ (K:NJ) (ta:TE) (f:Str):TE:=λσ H Q=>ta σ H λx H1=>∃a C D fs v,x=.ref a/\H1 a=some (Ll a (.ref C) D)/\H1 D=some (.xd fs)/\mO K C f/\fs.lookup f=some v/\Q v H1
theorem v_(c:PE X e ta)(i:attributeBase e f X.env (eval e X.env)=eval e X.env):PE X (.Attribute e f pos) (K_ X.K ta f):=by
 intro pins s σ H Q I h
 refine xK i (cJ (c pins s σ H _ I h) λu s1 g=>?_)
 obtain⟨x,H1,I1,b,a,C,D,fs,v,ex,m,j,R,l,q⟩:=g
 subst ex
 obtain rfl:u=Value.ref a:=b
 exact Fn I1 m j R l λn s2 I2 d=>⟨v,H1,I2,d,q⟩
theorem zX(a:bH xs us)(h:u∈us):∃x∈xs,bo x u:=by
 induction a with
 |nil=>cases h
 |cons r _ ih=>
  rcases NK.mp h with rfl|h
  ·exact⟨_,N7,r⟩
  ·obtain⟨x,h1,h2⟩:=ih h
   exact⟨x,NV _ h1,h2⟩
noncomputable def NT (K:NJ) (H:Hp):V->Prop
 | .non=>True
 | .ref a=>∃ys,bY K H a ys
 |_=>False
def Fc:Value->Bool| .none=>true|_=>false
theorem Ij {xs:List V}{us:List Value}(a:bH xs us)(h:∀x∈xs,NT K H x):us.any Fc=xs.any (λx=>decide (x=.non)):=by
 induction a with
 |nil=>rfl
 | @cons x u xs us r _ ih=>
  rw[OY,OY,ih λy b=>h y (NV _ b)]
  have z:=h x N7
  cases x with
  |non=>cases r;rfl
  |ref a=>cases r;rfl
  |_=>exact z.elim
theorem HI(g:dh k X.A):ji X (compareOp .In) (λx y H Q=>∃p xs,x=.non/\y=.ref p/\bf X.K H p xs/\(∀z∈xs,NT X.K H z)/\Q (.bl (xs.any λx=>decide (x=.non))) H):=by
 intro pins s σ H x y v u Q I f i h
 obtain⟨p,xs,rfl,rfl,j,c,q⟩:=h
 cases f;cases i
 have B:=g.units
 obtain⟨b,r,l,d⟩:=I.list j
 refine SeqAt.in_listAt Fc l.isList (λw m=>?_) ⟨.bl _,H,I,rfl,?_⟩
 ·obtain⟨z,d,e⟩:=zX r (by simpa using m)
  have:=c z d
  cases z with
  |non=>cases e;exact SeqAt.EqAt.same _
  |ref a=>
   cases e
   obtain⟨ys,n⟩:=this
   obtain⟨o,_,p2,_⟩:=I.tuple n
   exact SeqAt.EqAt.tuple_none p2 (show X.A.units+1<cLine by lia)
  |_=>exact this.elim
 ·rw[show b.toArray.any Fc=b.any Fc by simp,Ij r c]
  exact q
structure Mh (K:NJ) (mg:Str->Option Value) (x:Str) (C:Addr) (f:Str):Prop where
 bd:mg x=some (.ref C)
 cl:gI K C
 at_:mO K C f
structure Mr (K:NJ) (mg:Str->Option Value) (x:Str) (C:Addr):Prop where
 bd:mg x=some (.ref C)
 ba:GH K C
section
open PySem
theorem JA(h:K.lookup f=some o)(e:OX K (.ref f)=true):o.cls=.type "function" :=by
 have e:((K.lookup f).map (·.cls)==some (.type "function"))=true:=e
 rw[h] at e
 exact Option.some.inj (beq_iff_eq.mp e)
end
def JL (y:Str):Value->Bool
 | .str x _=>x==y
 |_=>false
theorem rf {xs:List Str}{its:List Value}(r:bH (xs.map V.str) its):∃ts:List Tok,ts.length=xs.length/\its=(xs.zip ts).map λp=>Value.str p.1 p.2:=by
 induction xs generalizing its with
 |nil=>cases r;exact⟨[],rfl,rfl⟩
 |cons x xs ih=>
  cases r with
  |cons h r=>
   obtain⟨t,rfl⟩:=h
   obtain⟨ts,h1,rfl⟩:=ih r
   exact⟨t::ts,by simp[h1],rfl⟩
theorem BO {xs:List Str}{its:List Value}{y:Str}{t:Tok}(r:bH (xs.map V.str) its):∀z,z∈its.toArray->SeqAt.EqAt A s z (.str y t) (JL y z):=λz a=>by
 obtain⟨ts,_,rfl⟩:=rf r
 have a:z∈(xs.zip ts).map λp=>Value.str p.1 p.2:=by simpa using a
 obtain⟨q,_,rfl⟩:=N0.mp a
 exact SeqAt.EqAt.str_str _ _ _ _
theorem y9:JN X "list.count" (λx vs H Q=>∃(p:Addr) (xs:List Str) (y:Str),x=.ref p/\vs=[.str y]/\H p=some (.lst (xs.map V.str))/\Q (.int (xs.count y:Nat)) H):=by
 intro pins s σ H x vs v f Q I b d h
 obtain⟨p,xs,y,rfl,rfl,c,q⟩:=h
 cases b
 obtain⟨u,rfl,t,rfl⟩:=dY d
 obtain⟨z,a,n,r,g,e⟩:=I.lstM c
 refine call_meets PySem.F.slot_list_count ⟨_,e,rfl⟩ PySem.F.entry_list_count (PySem.F.args_list_count_2 _ _) (SeqAt.list_countAt p a.toArray n none #[] (.str y t) (JL y))
  ⟨e,BO r,⟨.int (xs.count y:Nat),H,I.tok _,⟨s.toks,?_⟩,q⟩⟩
 obtain⟨ts,h1,rfl⟩:=rf r
 have:∀(xs:List Str) (ts:List Tok),ts.length=xs.length->(((xs.zip ts).map λp=>Value.str p.1 p.2).countP (JL y))=xs.count y:=by
  intro xs
  induction xs with
  |nil=>intro ts _;simp
  |cons x xs ih=>
   intro ts h
   cases ts with
   |nil=>simp at h
   |cons t' ts=>
    rw[List.zip_cons_cons,NQ,List.countP_cons,Qt,ih ts (by simpa using h)]
    rfl
 rw[this xs ts h1]
theorem zu:JN X "list.index" (λx vs H Q=>∃(p:Addr) (a b:List Str) (y:Str),x=.ref p/\vs=[.str y]/\H p=some (.lst ((a++y::b).map V.str))/\y∉a/\a.length<1000/\Q (.int (a.length:Nat)) H):=by
 intro pins s σ H x vs v B Q I i w h
 obtain⟨p,a,b,y,rfl,rfl,j,o,C,q⟩:=h
 cases i
 obtain⟨u,rfl,t,rfl⟩:=dY w
 obtain⟨z,f,n,r,d,e⟩:=I.lstM j
 have l:=BO (A:=X.A.in1) (s:=s) (y:=y) (t:=t) r
 obtain⟨ts,h1,rfl⟩:=rf r
 have c:∀m (g:m<(((a++y::b).zip ts).map λp=>Value.str p.1 p.2).toArray.size),JL y (((a++y::b).zip ts).map λp=>Value.str p.1 p.2).toArray[m]=((a++y::b)[m]'(by simp at g;rw[NM,NU];lia)==y):=λm g=>by simp[JL]
 refine call_meets PySem.F.slot_list_index ⟨_,e,rfl⟩ PySem.F.entry_list_index (PySem.F.args_list_index_2 _ _) (SeqAt.list_indexAt p _ n none #[] (.str y t) (JL y) a.length (by simp[h1]) (by lia) (by rw[c];simp) (λm g h2=>by
  rw[c,beq_eq_false_iff_ne]
  rw[List.getElem_append_left h2]
  exact λz=>o (z▸Qb h2)))
  ⟨e,l,⟨.int (a.length:Nat),H,I.tok _,⟨s.toks,rfl⟩,q⟩⟩
theorem eL {c:Type}:∀{b:List c},b.length=n+1->∃a r,b=a::r/\r.length=n
 |[],h=>nomatch h
 |a::r,h=>⟨a,r,rfl,Nat.succ.inj h⟩
theorem pC {a:Type}{us:List a}(h:us.length=0):us=[]:=QK h
theorem K5 {b:Type}{us:List b}(h:us.length=1):∃a,us=[a]:=by
 obtain⟨a,d,rfl,c⟩:=eL h
 cases pC c
 exact⟨a,rfl⟩
theorem Ms {c:Type}{us:List c}(h:us.length=2):∃b a,us=[b,a]:=by
 obtain⟨b,f,rfl,d⟩:=eL h
 obtain⟨a,e,rfl,h1⟩:=eL d
 cases pC h1
 exact⟨b,a,rfl⟩
theorem MV {d:Type}{us:List d}(h:us.length=3):∃c a b,us=[c,a,b]:=by
 obtain⟨c,i,rfl,e⟩:=eL h
 obtain⟨a,g,rfl,h1⟩:=eL e
 obtain⟨b,f,rfl,h2⟩:=eL h1
 cases pC h2
 exact⟨c,a,b,rfl⟩
theorem Nh {f:Type}{us:List f}(h:us.length=4):∃d a b c,us=[d,a,b,c]:=by
 obtain⟨d,l,rfl,g⟩:=eL h
 obtain⟨a,j,rfl,h1⟩:=eL g
 obtain⟨b,i,rfl,h2⟩:=eL h1
 obtain⟨c,r3,rfl,e⟩:=eL h2
 cases pC e
 exact⟨d,a,b,c,rfl⟩
theorem M0 {f:Type}{us:List f}(h:us.length=5):∃d a b c e,us=[d,a,b,c,e]:=by
 obtain⟨d,o,rfl,i⟩:=eL h
 obtain⟨a,n,rfl,h1⟩:=eL i
 obtain⟨b,m,rfl,h2⟩:=eL h1
 obtain⟨c,r3,rfl,j⟩:=eL h2
 obtain⟨e,l,rfl,g⟩:=eL j
 cases pC g
 exact⟨d,a,b,c,e,rfl⟩
theorem Ng {g:Type}{us:List g}(h:us.length=6):∃d a b c e f,us=[d,a,b,c,e,f]:=by
 obtain⟨d,r,rfl,j⟩:=eL h
 obtain⟨a,p,rfl,h1⟩:=eL j
 obtain⟨b,o,rfl,h2⟩:=eL h1
 obtain⟨c,r3,rfl,l⟩:=eL h2
 obtain⟨e,n,rfl,i⟩:=eL l
 obtain⟨f,q,rfl,m⟩:=eL i
 cases pC m
 exact⟨d,a,b,c,e,f,rfl⟩
section
variable {P:Program} {h:Heap} {x q:Str} {f C:Addr} {st:Stmt} {k:Nat} {ps N:List Str} {sp:Sp} {fd:FuncData}
noncomputable def Al (p:List Value->Prop):Nat->Prop
 |0=>p []
 |n+1=>∀a,Al (λl=>p (a::l)) n
theorem al {p:List Value->Prop}(h:us.length=n)(g:Al p n):p us:=by
 subst h
 induction us generalizing p with
 |nil=>exact g
 |cons a l ih=>exact ih (p:=λl=>p (a::l)) (g a)
def Bd (x q:Str) (st:Stmt) (ps:List Str):Prop:=∀(kV b f:Value) (e:Option Addr) (a d:Value),Al (λc=>bindArgs (Oj x q (cE st) (bW st) (aS st) .none kV b f e a d) ⟨c,[]⟩=pure (ps.zip c)) ps.length
def yZ (P:Program) (w:World) (K:NJ) (a:Str->Option Value) (base:Heap) (k:Nat) (x q:Str) (st:Stmt) (ps:List Str) (sp:Sp):Prop:=Bd x q st ps/\∀{f fd},Bz K x q st f fd->gr P w K a base k f fd ps sp
abbrev fK (P:Program) (w:World) (K:NJ) (mg:Str->Option Value) (base:Heap) (k:Nat) (x:Str) (st:Stmt) (ps:List Str) (sp:Sp):Prop:=yZ P w K mg base k x x st ps sp
theorem rd (N:List Str)(c:N.Nodup->∀{f:Addr} {a:Value} {A:Around} {outer:List Env} {s:Shared} (H:Hp) (vs:List V) (Q:VK) (E:XK),dh k (A.deeper (envOfC q (aS st) s.heap.objs.size f a))->sp vs H Q E->
   ∃t,uj (g0 P w K mg base N q (aS st) f a A outer s H E) (bW st) t/\t {nx:=λ_ H'=>Q .non H',rt:=Q} (jt N vs) H)
  (S:eP N ps (aS st):=by constructor<;>decide+kernel) (len:∀vs H Q E,sp vs H Q E->vs.length=ps.length:=by intro _ _ _ _ h;cases h;subst_vars;rfl)
  (b:Bd x q st ps:=by(repeat intro _);exact rfl):yZ P w K mg base (k+1) x q st ps sp:=⟨b,λF=>F.ok S len λ_ _ _ _=>c S.nd⟩
def uU (K:NJ) (f:Addr) (x q:Str) (st:Stmt):Prop:=∃(c:Value) (g:Option Addr) (kV b e:Value) (d:Option Addr) (cd a:Value) (h:Array (Option Value)),K.lookup f=some ⟨c,g,.func (Oj x q (cE st) (bW st) (aS st) .none kV b e d cd a),h⟩/\OE K cd q=true/\Oo K (.ref f)=true
theorem fnat{kV:Value}{a:Array (Option Value)}(l:K.lookup f=some ⟨oc,od,.func (Oj x q (cE st) (bW st) (aS st) .none kV dc pm an cd ct),a⟩)(c:OE K cd q=true)(k:Oo K (.ref f)=true):uU K f x q st:=⟨_,_,_,_,_,_,_,_,_,l,c,k⟩
def eV (K:NJ) (x:Str) (st:Stmt):Prop:=∃f,Po K mainGlobals x=some (some (.ref f))/\uU K f x x st
def Ap (K:NJ) (C:Addr) (x q:Str) (st:Stmt):Prop:=∃f,Oh K (.ref C) x=some (some (.ref f))/\OX K (.ref f)=true/\uU K f x q st
theorem fng (a:Po K mainGlobals x=some (some (.ref f)))(l:uU K f x x st):eV K x st:=⟨f,a,l⟩
theorem meg (a:Oh K (.ref C) x=some (some (.ref f)))(i:OX K (.ref f)=true)(l:uU K f x q st):Ap K C x q st:=⟨f,a,i,l⟩
structure ClG (K:NJ) (C:Addr) (x:Str):Prop where
 n:Po K mainGlobals x=some (some (.ref C))
 pg:Qh K C Str.empty=true
 hd:Qi K C=true
 po:PySem.W.plainOver K C=true
 sa:Oh K (.ref C) "__setattr__" =some (some (.builtin "object.__setattr__"))
 mi:PySem.W.makesIn K C=true
 kc:Oo K (.ref C)=true
theorem ClG.cl (g:ClG K C x):mF K C:=⟨g.pg,g.hd,g.po,g.sa⟩
theorem uU.go (l:uU K f x q st)(r:yZ P w K mg base k x q st ps sp):∃fd,gr P w K mg base k f fd ps sp/\Oo K (.ref f)=true/\fg K fd ps:=by
 obtain⟨_,_,_,_,_,_,_,_,_,l,c,i⟩:=l
 have F:=kW (st:=st) l c i
 exact⟨_,r.2 F,i,F.binds λa b c d e g j h=>al h (r.1 a b c d e g)⟩
theorem eV.go (X:K.In h)(G:h.Ns mainGlobals mg)(l:eV K x st)(r:yZ P w K mg base k x x st ps sp):aG P w K mg base x k ps sp:=by
 obtain⟨f,a,l⟩:=l
 obtain⟨fd,o,c,b⟩:=l.go r
 exact⟨f,fd,o,Px X G a,c,b⟩
theorem Ap.go (l:Ap K C x q st)(r:yZ P w K mg base k x q st ps sp):fE P w K mg base C x k ps sp:=by
 obtain⟨f,a,i,l⟩:=l
 obtain⟨fd,o,c,b⟩:=l.go r
 exact⟨f,fd,o,⟨a,i,c⟩,b⟩
theorem eV.law (X:K.In h)(G:h.Ns mainGlobals mg)(l:eV K x st)(hf:mg x=some (.ref f)):∃fd,Bz K x x st f fd/\∃kV b e d cd ct,fd=Oj x x (cE st) (bW st) (aS st) .none kV b e d cd ct:=by
 obtain⟨f,a,_,_,_,_,_,_,_,_,_,l,c,k⟩:=l
 cases hf.symm.trans (Px X G a)
 exact⟨_,kW l c k,_,_,_,_,_,_,rfl⟩
end
section
variable {x:Str} {pos pos' p:Pos} {e a b tg iter elt:Expr} {es ifs:List Expr} {te ta tb:TE} {t:TA} {r:R2} {k j:Nat} {ps:List Str} {sp:Sp} {id:String} {rl:List V->Hp->VK->Prop} {wi:TI} {g:TG} {ts:TS} {tt:TT} {body:List Stmt} {scope:Scope}
def ns:Expr->Bool
 | .Starred .. =>false
 |_=>true
theorem rM(h:ns e=true):starEach (e::es) env=(false,eval e env)::starEach es env:=by
 cases e<;>first|rfl|cases h
theorem IR(h:es.all ns=true):(backTo pos (starEach es env)).any (·.1)=false:=by
 induction es with
 |nil=>rfl
 |cons e l ih=>
  rw[PL,N8] at h
  rw[rM h.1]
  exact ih h.2
theorem b2(h:(m&&n)=true):m=true/\n=true:=by simpa using h
noncomputable def cb (X:Cx) (x:Str) (es:List Expr):Bool:=decide (X.env.kindOf x=some .globalImplicit)&&(!(x==("__debug__" :Str))&&es.all ns)
theorem A5 (h:cb X x es=true):Gl X x/\(x==("__debug__" :Str))=false/\es.all ns=true:=by simpa[cb,Gl] using h
noncomputable def vb (X:Cx) (i:Nat) (x:Str):Bool:=decide (X.N[i]?=some x)&&(!(x==("__debug__" :Str))&&(!(x==("__classdict__" :Str))&&(decide (X.env.scope.names.lookup x=some .local)||(decide (X.env.scope.names.lookup x=some .cell)||decide (X.env.scope.names.lookup x=some .free)))))
theorem aw (i:Nat)(h:vb X i x=true:=by exact Eq.refl true):PE X (.Name x pos) (cV i):=by
 simp only[vb,N8,Qq,decide_eq_true_eq,Pp] at h
 exact IK h.1 h.2.2.2 h.2.1 h.2.2.1
noncomputable def sb (X:Cx) (i:Nat) (x:Str):Bool:=decide (X.N[i]?=some x)&&((decide (X.env.scope.names.lookup x=some .local)||decide (X.env.scope.names.lookup x=some .cell))&&(X.fn x||decide (X.env.scope.names.lookup x=some .local)))
theorem AZ (h:sb X i x=true):X.N[i]?=some x/\JO X.env.scope x/\(X.fn x=true\/X.env.scope.names.lookup x=some .local):=by
 simp only[sb,N8,Qq,decide_eq_true_eq] at h
 exact h
theorem cq (i:Nat)(a:X.N.Nodup)(h:sb X i x=true:=by exact Eq.refl true):PG X (.Name x pos) (dr i):=let ⟨hi,hx,hf⟩:=AZ h;Fg a hi hx hf
theorem dU (i:Nat)(h:(decide X.N.Nodup&&sb X i x)=true:=by exact Eq.refl true):PG X (.Name x pos) (dr i):=let ⟨n,h⟩:=b2 h;cq i (of_decide_eq_true n) h
theorem aX (i:Nat)(a:X.N.Nodup)(b:PE X e te)(h:sb X i x=true:=by exact Eq.refl true)(c:swapsWith e (some (.Name x pos')) pos.line X.env=pure false:=by rfl):PS X (.Assign [.Name x pos'] e pos) (jI te (dr i)):=let ⟨hi,hx,hf⟩:=AZ h;JD a hi hx b c hf
theorem aR (c:JJ X r)(d:PE X a ta)(e:PE X b tb)(f:w6 b:=by exact λ_ _=>rfl):PE X (.Subscript a b pos) (gb r ta tb):=LG c d e f
theorem fF {Ex:St->XK}(C:aG X.prog X.w X.K X.mg X.base x k ps sp)(a:dh j X.A)(hx:gT X.prog X.w X Ex)(b:PA X (e::es) t)(c:k<=j:=by first|decide|exact NI _)(h:cb X x (e::es)=true:=by exact Eq.refl true):PE X (.Call (.Name x p) (e::es) [] pos) (xr Ex sp t):=let ⟨g,d,s⟩:=A5 h;let ⟨u,v⟩:=b2 s;Gk C (a.mono c) g hx b d (rM u) (IR v)
theorem bt (C:aG X.prog X.w X.K X.mg X.base x k ps sp)(a:dh j X.A)(c:PA X (e::es) t)(b:k<=j:=by first|decide|exact NI _)(h:cb X x (e::es)=true:=by exact Eq.refl true):PE X (.Call (.Name x p) (e::es) [] pos) (jo sp t):=fF C a gM c b h
theorem dn (a:c_ X (.builtin id) rl)(b:X.mg x=none)(c:PA X (e::es) t)(f:bootBuiltins x=some (.builtin id):=by decide+kernel)(h:(!(x==("__name__" :Str))&&cb X x (e::es))=true:=by exact Eq.refl true):PE X (.Call (.Name x p) (e::es) [] pos) (xS rl t):=let ⟨n,h⟩:=b2 h;let ⟨g,d,s⟩:=A5 h;let ⟨u,v⟩:=b2 s;A1 a g b f c (by simpa using n) d (rM u) (IR v)
theorem dW(a:c_ X (.type T) rl)(b:X.mg x=none)(c:PA X (e::es) t)(f:bootBuiltins x=some (.type T):=by decide+kernel)(h:(!(x==("__name__" :Str))&&cb X x (e::es))=true:=by exact Eq.refl true):PE X (.Call (.Name x p) (e::es) [] pos) (xS rl t):=let ⟨n,h⟩:=b2 h;let ⟨g,d,s⟩:=A5 h;let ⟨u,v⟩:=b2 s;z_ a g b f c (by simpa using n) d (rM u) (IR v)
theorem bP(e:ji X (compareOp op) r)(d:PE X a ta)(f:PE X b tb)(c:behindInMarks op b=false:=by exact Ax _):PT X (.Compare a [op] [b] pos) (jr (gb r ta tb)):=j_ e d f c
theorem AU(e:ji X (compareOp op) r)(d:PE X a ta)(f:PE X b tb)(c:behindInMarks op b=false:=by exact Ax _):PE X (.Compare a [op] [b] pos) (gb r ta tb):=mD e d f c
theorem D5 (b:X.mg "range" =none)(c:PA X [a] t)(d:Gl X "range" :=by rfl)(e:starEach [a] X.env=[(false,eval a X.env)]:=by rfl):PI X tg (.Call (.Name "range" p) [a] [] pos) (qb t):=zv d b c e
theorem cL{st:Stmt}(a:PT X c tt)(h:PS X st ts):PS X (.If c [st] [] pos) (jP tt ts m9):=ju a (aO h) gB
theorem aY {s u:Stmt}{a:TS}(h:PS X s ts)(h':PS X u a):uj X [s,u] (e_ ts a):=aj h (aO h')
theorem aE (b:PE X a ta)(h:ns a=true:=by exact Eq.refl true):PA X [a] (b9 ta dv):=ax b kG (rM h)
theorem aJ (c:PE X a ta)(d:PE X b tb)(h:(ns a&&ns b)=true:=by exact Eq.refl true):PA X [a,b] (b9 ta (b9 tb dv)):=let ⟨h,i⟩:=b2 h;ax c (ax d kG (rM i)) (rM h)
theorem oG (hi:PI X tg iter wi)(b:PG X tg g)(d:uj X body ts)(a:PassesOwn (model X.prog X.w) X.A X.env X.xe:=by exact PassesOwn.leaving)(c:X.calm=true:=by rfl)(e:∀x,foldedSetIterable iter X.env x=pure x:=by intro _;rfl):PS X (.For tg iter body [] pos) (jC wi g ts):=fz a c hi b d e
noncomputable def kb (X:Cx) (scope:Scope) (ys:List Str) (ix:List Nat):Bool:=X.calm&&(decide (scope.kind=.function)&&((scope.names.all λy=>y.2 !=.cell)&&((scope.names.all λy=>y.2 !=.local||scope.names.lookup y.1==some .local)&&((scope.names.all λy=>y.2 !=.free||X.env.kindOf y.1==some .cell)&&((ys.all λy=>scope.names.lookup y==some .free)&&decide (ix.map (λj=>X.N[j]?)=ys.map some))))))
theorem GW (ls:List Str){ys:List Str}{ix:List Nat}(h:kb X scope ys ix=true):X.calm=true/\fA X scope ls ys ix:=
 let ⟨a,h⟩:=b2 h;let ⟨b,h⟩:=b2 h;let ⟨c,h⟩:=b2 h;let ⟨d,h⟩:=b2 h;let ⟨e,h⟩:=b2 h;let ⟨f,h⟩:=b2 h
 ⟨a,of_decide_eq_true b,c,d,e,f,of_decide_eq_true h⟩
theorem gU (ls ys:List Str)(ix:List Nat)(hi:PI X tg iter wi)(d:∀{cl C s H fp xe},PG (cj xe X (ls++ys) scope cl C s H fp) tg g)(a:∀{cl C s H fp xe},PF (cj xe X (ls++ys) scope cl C s H fp) ifs tt)(e:∀{cl C s H fp xe},PE (cj xe X (ls++ys) scope cl C s H fp) elt te)(k:kb X scope ys ix=true:=by exact Eq.refl true)(b:∀x,foldedSetIterable iter X.env x=pure x:=by intro _;rfl):PE X (.ListComp elt [⟨tg,iter,ifs,0⟩] scope pos) (Jn wi ls.length ix g tt te):=let ⟨c,o⟩:=GW ls k;Kb c o hi (λ_ _ _ _ _ _=>d) (λ_ _ _ _ _ _=>a) (λ_ _ _ _ _ _=>e) b
theorem pU(hX:A4 X/\Lp X Ex\/∀C dd H,¬EG Ex C dd H)(hc:X.calm=true)(hN:X.N.Nodup)(af:X.N[i]?=some x)(hx:JO X.env.scope x)(ok:fA X scope ls ys ix)(hi:PI X tg iter wi)
  (hg:∀cl C s H fp K,PG (cj K X (ls++ys) scope cl C s H fp) tg g) (ht:∀cl C s H fp K,PF (cj K X (ls++ys) scope cl C s H fp) ifs tt)
  (he:∀cl C s H fp K,gT X.prog X.w (cj K X (ls++ys) scope cl C s H fp) (λ_=>Ex)->PE (cj K X (ls++ys) scope cl C s H fp) elt te)
  (hs:∀x,foldedSetIterable iter X.env x=pure x:=by intro _;rfl) (S:swapsWith (.ListComp elt [⟨tg,iter,ifs,0⟩] scope pos) (some (.Name x px)) spos.line X.env=pure true:=by rfl)
  (hf:X.fn x=true\/X.env.scope.names.lookup x=some .local):
  PS X (.Assign [.Name x px] (.ListComp elt [⟨tg,iter,ifs,0⟩] scope pos) spos) (rC wi ls.length ix g tt te i):=by
 intro pins s σ H D I h
 obtain⟨cl,f,p,n⟩:=m4 (scope:=scope) (env:=X.env) λy hy hf=>I.ok.has y.1 (.inl (ok.free y hy hf))
 rw[exec_Assign_Name_used _ _ _ _ S]
 refine ND (PV (ND ?_))
 refine ND (On (wpAny_comprehension_free (use:=some (assign (.Name x px) X.env)) (Q:=λ_ s'=>∃G H',aM X pins G H' s'/\D.nx G H') rfl hs f ok.kind ok.loc
  (cJ (hi pins s σ H _ I h) λv s1 h1=>cJ h1 λbr s2 h2=>?_)) (λ_ s' hq=>NH (NH hq)) λ_ _ e=>e)
 obtain⟨it,fp,tn,J,H2,rfl,I2,T,A,f2,hJ⟩:=h2
 refine rW (Ex:=Ex) (R:=λac C=>compPost (model X.prog X.w) X.A X.xe (some (assign (.Name x px) X.env)) (λ_ s'=>∃G H',aM X pins G H' s'/\D.nx G H') ac C) (hX.imp_left (·.1.1)) hc ok I2 T A f2 p n hg ht he hJ (λDa C H' s' q I' Y E U=>?_) λD C H' s' a T Cv dd q I' Y E U za zT fl=>?_
 ·obtain⟨m,O⟩:=U
  refine wpAny_assign_Name (qa (v:=.ref Da) I' hN af hx rfl (λs2 I3 hz=>?_) hf)
  obtain⟨a,sb,ha⟩:=hz
  have B:C≠a:=by
   rcases ha with ha|ha
   ·rw[ha];exact E.2.1
   ·exact N6 (E.2.2.2.2.1 x a ha)
  refine⟨m,O.sameBut sb B,λh' F=>⟨_,H',?_,q⟩⟩
  exact I3.turned (t':=s2.toks) (λb o Z e=>(F.2 b Z).trans e) Y E.2.1 E.2.2.2.1 E.2.2.2.2.1 E.2.2.2.2.2
 ·obtain⟨t,L⟩:=hX.resolve_right λh=>h _ _ _ q
  obtain⟨m,O⟩:=U
  refine BV I' t za zT fl λh4 T' I4 z4 P M=>?_
  obtain⟨oe,vs,oT,ts,ge,gc,r,W,g1,w,gt,l,g3⟩:=P
  refine⟨m,M.ns O,λh' F am a0=>?_⟩
  obtain⟨oC,es,ep,d,c,_⟩:=M.ns O
  have aC:a≠C:=λz=>by rw[<-z,ge] at d;cases d;rw[W] at c;cases c
  have tC:T'≠C:=λz=>by rw[<-z,gt] at d;cases d;rw[l] at c;cases c
  have I5:=I4.turned (t':=s'.toks) (h':=h') (λb o Z e=>(F.2 b Z).trans e) Y E.2.1 E.2.2.2.1 E.2.2.2.2.1 E.2.2.2.2.2
  have j:=(F.2 a aC).trans ge
  have u:=(F.2 T' tC).trans gt
  refine ND (Oq (o:=oe) (vs:=vs) (x:=.ref T') j W g1 ?_)
  exact ND (tI I5 t za z4 ⟨oe,vs,oT,ts,j,gc,r,W,g1,w,u,l,g3⟩ λs6 I6 f6=>wpAny_throw (L pins σ H' _ a T' Cv _ dd I6 za z4 f6 q))
theorem s_ (i:Nat)(ls ys:List Str)(ix:List Nat)(l:X.N.Nodup)(hi:PI X tg iter wi)(m:∀{cl C s H fp xe},PG (cj xe X (ls++ys) scope cl C s H fp) tg g)(e:∀{cl C s H fp xe},PF (cj xe X (ls++ys) scope cl C s H fp) ifs tt)(n:∀{cl C s H fp xe},PE (cj xe X (ls++ys) scope cl C s H fp) elt te)(k:kb X scope ys ix=true:=by exact Eq.refl true)(h:sb X i x=true:=by exact Eq.refl true)(j:∀x,foldedSetIterable iter X.env x=pure x:=by intro _;rfl)(f:swapsWith (.ListComp elt [⟨tg,iter,ifs,0⟩] scope pos) (some (.Name x p)) pos'.line X.env=pure true:=by rfl):PS X (.Assign [.Name x p] (.ListComp elt [⟨tg,iter,ifs,0⟩] scope pos) pos') (rC wi ls.length ix g tt te i):=let ⟨a,b,c⟩:=AZ h;let ⟨d,o⟩:=GW ls k;pU (Ex:=E0) (.inr L0) d l a b o hi (λ_ _ _ _ _ _=>m) (λ_ _ _ _ _ _=>e) (λ_ _ _ _ _ _ _=>n) j f c
end
noncomputable def Bh (a:Addr) (C:Value) (dd:Option Addr):HO:=.ext λh=>∃o vs,h.get? a=some o/\o.cls=C/\o.dict=dd/\o.data=.fields vs
structure NF (X:Cx) (pins:List (Addr×Obj)) (H:Hp) (s:Shared) (a T:Addr) (C:Value) (dd:Option Addr):Prop where
 za:Nt X pins H a
 zt:Nt X pins H T
 fl:um s.heap a T C dd .none
def PH (X:Cx) (b:List ExceptHandler) (th:Value->Option Addr->Addr->TS):Prop:=∀(pins:List (Addr×Obj)) (s:Shared) (σ:St) (H:Hp) (D:ez) (a T:Addr) (C:Value) (dd:Option Addr),aM X pins σ H s->NF X pins H s a T C dd->th C dd a D σ H->wpAny (model X.prog X.w) X.A (handleBy (.ref a) X.env b) (SP X pins D) X.xe s
theorem uV:PH X [] λ_ _ _ _ _ _=>False:=λ_ _ _ _ _ _ _ _ _ _ _ h=>h.elim
noncomputable def Md (i:Nat) (D:ez):ez:={nx:=λσ H=>D.nx (σ.set i none) H,rt:=D.rt,bk:=λσ H=>D.bk (σ.set i none) H,ct:=λσ H=>D.ct (σ.set i none) H}
noncomputable def MD (K:NJ) (c:Value) (d:Addr->TS) (i:Nat) (tr:Value->Option Addr->Addr->TS):Value->Option Addr->Addr->TS:=λC dd a D σ H=>∃b,NL K C c=some b/\if b=true then d a (Md i D) (σ.set i (some (.ref a))) (upd H a (Bh a C dd)) else tr C dd a D σ H
noncomputable def MJ (K:NJ) (c:Value) (d:Addr->TS) (tr:Value->Option Addr->Addr->TS):Value->Option Addr->Addr->TS:=λC dd a D σ H=>∃b,NL K C c=some b/\if b=true then d a D σ H else tr C dd a D σ H
theorem Bb{I:Addr->TS}{r:List ExceptHandler}{tr:Value->Option Addr->Addr->TS}(B:X.N.Nodup)(hi:X.N[i]?=some n)(A:X.env.kindOf n=some .local)
  (t:A4 X) (T:Gl X cx) (R:X.mg cx=some (.ref CW)) (J:∀a,uj (cxH X a) (b₀::suite) (I a)) (S:PH X r tr) (hd:(cx==("__debug__" :Str))=false:=by decide):
  PH X (.ExceptHandler (some (.Name cx np)) (some n) (b₀::suite) hpos::r) (MD X.K (.ref CW) I i tr):=by
 intro pins s3 E H2 D a T3 C dd I3 Z h
 obtain⟨b,g,d⟩:=h
 refine wpAny_handleBy_cons ?_ (by intro z;cases z)
 refine codeAny_handlers_test ?_
 refine ij (X:=cxH X a) (mh I3) T R ?_ hd
 obtain⟨oe,vs,oT,w,O,l,_,s,_⟩:=Z.fl
 have P:OQ (model X.prog X.w) s3.heap (typeOf (.ref a)) C:=l▸(OQ.ld O).andThen .now
 refine(PySem.W.exm_one I3.kIn P g).here ?_
 cases b with
 |false=>exact S pins s3 E H2 D a T3 C dd I3 Z (by simpa using d)
 |true=>
  refine codeAny_handlers_suite_as ?_
  refine tI I3 t Z.za Z.zt Z.fl λs4 I4 G=>?_
  obtain⟨c,m,_,_,e,p,j,q,_⟩:=G
  have Y:aM X pins E (upd H2 a (Bh a C dd)) s4:=I4.track Z.za
   ⟨⟨c,m,e,p,j,q⟩,⟨c,e⟩,λh1 h2 ⟨o,v,Q,M⟩ k=>⟨o,v,k o Q,M⟩⟩
  refine nz (v:=.ref a) Y B hi (.inl A) rfl (λs5 I6=>?_) (.inr A)
  refine On (J a pins s5 _ _ _ (mh I6) (by simpa using d)) (λf s6 F=>?_) λ_ _ z=>z.elim
  cases f with
  |next=>
   obtain⟨y,H6,I7,x⟩:=F
   exact mw (gD I7 I3.ok.hd) B hi A λH I8=>⟨_,_,I8,x⟩
  |brk=>
   obtain⟨y,H6,I7,x⟩:=F
   exact mw (gD I7 I3.ok.hd) B hi A λH I8=>⟨_,_,I8,x⟩
  |cont=>
   obtain⟨y,H6,I7,x⟩:=F
   exact mw (gD I7 I3.ok.hd) B hi A λH I8=>⟨_,_,I8,x⟩
  |ret u=>
   obtain⟨v,y,H6,I7,U,x⟩:=F
   exact mw (gD I7 I3.ok.hd) B hi A λH I8=>⟨v,_,_,I8,U,x⟩
theorem gE{o:Addr->TS}{r:List ExceptHandler}{tr:Value->Option Addr->Addr->TS}
  (t:A4 X) (B:Gl X cx) (y:X.mg cx=some (.ref CW)) (p:∀a,uj (cxH X a) (b₀::suite) (o a)) (A:PH X r tr) (hd:(cx==("__debug__" :Str))=false:=by decide):
  PH X (.ExceptHandler (some (.Name cx np)) none (b₀::suite) hpos::r) (MJ X.K (.ref CW) o tr):=by
 intro pins s3 n H2 D a T3 C dd I3 Z h
 obtain⟨b,d,c⟩:=h
 refine wpAny_handleBy_cons ?_ (by intro z;cases z)
 refine codeAny_handlers_test ?_
 refine ij (X:=cxH X a) (mh I3) B y ?_ hd
 obtain⟨oe,vs,F,i,q,e,_,g,_⟩:=Z.fl
 have x:OQ (model X.prog X.w) s3.heap (typeOf (.ref a)) C:=e▸(OQ.ld q).andThen .now
 refine(PySem.W.exm_one I3.kIn x d).here ?_
 cases b with
 |false=>exact A pins s3 n H2 D a T3 C dd I3 Z (by simpa using c)
 |true=>
  refine codeAny_handlers_suite ?_
  refine tI I3 t Z.za Z.zt Z.fl λs I4 _=>?_
  refine On (p a pins s _ _ _ (mh I4) (by simpa using c)) (λf G m=>?_) λ_ _ z=>z.elim
  cases f with
  |next=>
   obtain⟨l,H6,I7,j⟩:=m
   exact⟨_,_,gD I7 I3.ok.hd,j⟩
  |brk=>
   obtain⟨l,H6,I7,j⟩:=m
   exact⟨_,_,gD I7 I3.ok.hd,j⟩
  |cont=>
   obtain⟨l,H6,I7,j⟩:=m
   exact⟨_,_,gD I7 I3.ok.hd,j⟩
  |ret u=>
   obtain⟨v,l,H6,I7,E,j⟩:=m
   exact⟨v,_,_,gD I7 I3.ok.hd,E,j⟩
def KZ (tb:(St->XK)->(Value->Shared->Prop)->List (Addr×Obj)->TS) (th:Value->Option Addr->Addr->TS):TS:=λD σ H=>∃Ex:St->XK,(∀e c,tb Ex e c D σ H)/\(∀b C H',Ex b C none H'->∀dd a,H' a=none->th C dd a D b H')/\∀b C d H',Ex b C (some d) H'->∀a,H' a=none->th C (some d) a D b H'
theorem qK{tb:(St->XK)->(Value->Shared->Prop)->List (Addr×Obj)->TS}{h₀:ExceptHandler}{r:List ExceptHandler}{th:Value->Option Addr->Addr->TS}
  (t:A4 X) (F:∀Ex i z,gT X.prog X.w (tryB X i z) Ex->uj (tryB X i z) body (tb Ex i z)) (J:PH X (h₀::r) th):
  PS X (.Try body (h₀::r) [] [] pos) (KZ tb th):=by
 intro pins s σ H D I h
 obtain⟨Ex,b,h1,h2⟩:=h
 refine wpAny_Try_except ?_
 generalize hxe:(λ(e:Value) (l:Shared)=>wpAny (model X.prog X.w) X.A (noteFrame e X.env) (λ_ n=>wpAny (model X.prog X.w) X.A (setFlight e none) (λ_ j=>
   wpAny (model X.prog X.w) X.A (handleBy e X.env (h₀::r)) (SP X pins D) X.xe j) X.xe n) X.xe l)=i
 have E:gT X.prog X.w (tryB X i (X.pn++pins)) Ex:=by
  intro x m H1 s1 e s2 I1 G
  rw[<-hxe]
  obtain⟨a,T,dd,C,H2,rfl,I2,p,M,fl,q⟩:=(show aM X pins m H1 s1 from jU I1).came t.1 G
  refine G1 I2 t p M fl λs3 T3 I3 K y=>?_
  refine J pins s3 m H2 D a T3 C dd I3 ⟨p,K,y⟩ ?_
  rcases q with q|⟨d,rfl,q⟩
  ·exact h1 _ _ _ q _ _ p.h
  ·exact h2 _ _ _ _ q _ p.h
 refine cJ (F Ex i (X.pn++pins) E [] s σ H D (Di I) (b _ _)) λf s1 o=>?_
 cases f with
 |next=>
  obtain⟨c,H1,I1,g⟩:=o
  exact wpAny_execs_nil ⟨c,H1,jU I1,g⟩
 |brk=>
  obtain⟨c,H1,I1,g⟩:=o
  exact⟨c,H1,jU I1,g⟩
 |cont=>
  obtain⟨c,H1,I1,g⟩:=o
  exact⟨c,H1,jU I1,g⟩
 |ret u=>
  obtain⟨v,c,H1,I1,B,g⟩:=o
  exact⟨v,c,H1,jU I1,B,g⟩
theorem qz:c_ X (.builtin "isinstance") (λxs H Q=>∃a C dd y c b,xs=[.ref a,y]/\Ge y c/\H a=some (Bh a (.ref C) dd)/\gI X.K C/\OD X.K (.ref C) c=some b/\Q (.bl b) H):=by
 intro pins s σ H xs m Q I r h
 obtain⟨a,C,D,y,c,b,rfl,l,i,Z,e,q⟩:=h
 obtain⟨u,g,rfl,j,f⟩:=kl r
 cases(show u=Value.ref a from j)
 have d:=(I.hok a _ i).1
 have d:∃o vs,s.heap.get? a=some o/\o.cls=.ref C/\o.data=.fields vs:=let ⟨o,vs,e1,e2,_,e3⟩:=d;⟨o,vs,e1,e2,e3⟩
 cases l with
 |ty n=>
  cases(show g=Value.type n from f)
  exact OI (xU Z) I.kIn d e (λz=>nomatch z) λtk=>⟨.bl b,H,I.tok _,rfl,q⟩
 |ref D=>
  cases(show g=Value.ref D from f)
  exact OI (xU Z) I.kIn d e (λz=>nomatch z) λtk=>⟨.bl b,H,I.tok _,rfl,q⟩
section
variable {P:Program} {h:Heap} {x q:Str} {f C:Addr} {st:Stmt} {k:Nat} {ps:List Str} {sp:Sp}
theorem Ap.ix (X:K.In h)(G:h.Ns mainGlobals mg){n:Str}(c:ClG K C n)(l:Ap K C "__init__" q st)(r:yZ P w K mg base k "__init__" q st ps sp):fW P w K mg base C n k ps sp:=by
 obtain⟨f,a,i,l⟩:=l
 obtain⟨fd,o,d,b⟩:=l.go r
 exact⟨f,fd,o,⟨c.mi,a,i,c.kc⟩,Px X G c.n,b⟩
end
section
variable {d e:Expr} {t:TA} {apos cpos p:Pos} {x:Str} {k:Nat}
theorem jg (a:d=.Call (.Attribute (.Constant (.str x) k p) "join" apos) [e] [] cpos)(b:PA X [e] t)(h:(ns e&&(apos.endLine==cpos.line))=true:=by exact Eq.refl true):PE X d (D4 X.K "str" (λx vs H Q=>∃z p ts,x=.str z/\vs=[.ref p]/\bf X.K H p (ts.map V.str)/\JoinOk z ts=true/\Q (.str (Txt.join z ts)) H) (tC (.str x)) t):=by
 subst a
 obtain⟨h,l⟩:=b2 h
 have s:=rM (es:=[]) (env:=X.env) h
 exact bI Qu PySem.F.slot_str_join PySem.F.type_str_join Fz ar b rfl (by rw[s];rfl) l s rfl
end
end L2
namespace K19
open PySem L2
abbrev T3:=List Int
def iK (x:T3):List dq:=x.map Sum.inl
theorem IB(h:iK x=iK y):x=y:=by
 have:=congrArg (List.map kV) h
 unfold iK at this
 rw[i7,i7] at this
 exact lJ this
theorem GM {H:Hp}{b:Addr}{x:T3}(h:H b=some (.tup (x.map V.int))):H b=some (.tup ((iK x).map kV)):=by unfold iK;rw[i7];exact h
theorem wc {b:Type} [DecidableEq b]{a:List (b×V)}{k:b}:(fD a k).isSome=true↔k∈a.map (·.1):=by
 rw[<-gQ]
 simp[Qc]
theorem sy {b:Type}{P:List b->Prop}(h0:P [])(h1:∀xs x,P xs->P (xs++[x]))(l:List b):P l:=by
 have:∀n (xs:List b),xs.length=n->P xs:=by
  intro n
  induction n with
  |zero=>intro xs e;rw[List.length_eq_zero_iff.mp e];exact h0
  |succ n ih=>
   intro xs e
   have a:xs≠[]:=λz=>by rw[z] at e;simp at e
   rw[(List.dropLast_concat_getLast a).symm]
   exact h1 _ _ (ih _ (by simp[e]))
 exact this _ l rfl
theorem dI(s:au H0 H')(a:H0 D=none):au H0 (upd H' D y):=λb u e=>by
 rw[ay (aD e a)];exact s _ _ e
section
variable {tc:TT} {t u:TS} {te ta tb td ty:TE} {D:ez} {σ:St} {H:Hp} {a d:Addr} {y v:V} {o:Option V} {K:NJ}
theorem fO(h:iB tc σ H b)(e:b=c):iB tc σ H c:=e▸h
theorem aU(h:Ev te σ H v)(e:v=c):Ev te σ H c:=e▸h
theorem xD(c:Ev tv σ H v)(hd:Ev td σ H (.ref a))(b:Ev ty σ H y)(p:qJ H a y v H4)(q:D.nx σ H4):Az td ty tv D σ H:=c _ (hd _ (b _ ⟨a,H4,rfl,p,q⟩))
theorem mK(h:lH tl σ H vs)(a:vs.length<=sizeLine)(q:∀p,H p=none->Q (.ref p) (upd H p (.tup vs))):vK tl σ H Q:=h _ ⟨a,q⟩
theorem ox(h:lH tl σ H vs)(a:vs.length<=sizeLine)(q:∀p,H p=none->Q (.ref p) (upd H p (.lst vs))):mU tl σ H Q:=h _ ⟨a,q⟩
theorem vB(h:lH tl σ H vs)(a:vs.length<=sizeLine)(q:∀p,H p=none->D.rt (.ref p) (upd H p (.tup vs))):vU (vK tl) D σ H:=h _ ⟨a,q⟩
theorem bF(h:lH tl σ H vs)(q:sp vs H Q E0):jo sp tl σ H Q:=h _ q
end
theorem nk(h:dw H as cs)(t:dw H bs ds):dw H (as++bs) (cs++ds):=jA h t
theorem xV(b:Ev ta σ H x)(a:Ev tb σ H .non):Ev (gb (λx y H Q=>y=.non/\Q (.bl (!decide (x=.non))) H) ta tb) σ H (.bl (!decide (x=.non))):=λ_ z=>b _ (a _ ⟨rfl,z⟩)
theorem EF(h:lH ta σ H [.int j])(h1: -(2^62)<=j)(a:j<2^62)(q:jC (λ_ H R=>R (AO 0 j.toNat) H) g tb {D with nx:=u D} σ H):e_ (jC (qb ta) g tb) u D σ H:=h _ ⟨j,rfl,h1,a,q⟩
theorem EM(h:lH tl σ H vs)(q:sp vs H (λx H1=>∃a,x=.ref a/\(∃xs,bf K H1 a xs)/\jC (λ_ H R=>R (zw K a) H) g tb {D with nx:=u D} σ H1) E0):e_ (jC (r8 K (jo sp tl)) g tb) u D σ H:=h _ q
theorem yq(h:lH tl σ H vs)(q:sp vs H (λx H1=>∃a,x=.ref a/\(∃xs,bf K H1 a xs)/\jC (λ_ H R=>R (zw K a) H) g tb D σ H1) E0):jC (r8 K (jo sp tl)) g tb D σ H:=h _ q
theorem dH(h:ta σ H λx H1=>tb σ H1 λy H2=>r x y H2 Q):gb r ta tb σ H Q:=h
def Sb (l:Addr) (H H':Hp):Prop:=∀b o,b≠l->H b=some o->H' b=some o
theorem Sb.refl (l:Addr)(H:Hp):Sb l H H:=λ_ _ _ h=>h
theorem Sb.trans(a:Sb l H H1)(b:Sb l H1 H2):Sb l H H2:=λc o n h=>b c o n (a c o n h)
theorem Sb.of(s:au H H'):Sb l H H':=λb o _ h=>s b o h
theorem Sb.set(s:Sb l H H'):Sb l H (upd H' l y):=λb o n h=>by rw[ay n];exact s b o n h
theorem Sb.same(s:Sb l H H')(n:H l=none):au H H':=λb o h=>s b o (aD h n) h
theorem Sb.tups(s:Sb l H H')(a:H l=some (.lst zs)){bs:List Addr}{cs:List T3}(h:dw H bs cs):dw H' bs cs:=
 Paired.mapP h λb c z=>s b _ (lO z a (by intro e;cases e)) z
theorem bO {a:Type}{xs:List a}{x:a}(h:xs[i]?=some x):xs.take (i+1)=xs.take i++[x]:=by rw[Pa,h];rfl
theorem KQ(h:iB t σ H a)(e:a=false)(q:u σ H Q):Ja t u σ H Q:=by
 subst e
 exact h _ q
theorem Kp(h:iB t σ H false)(q:tb σ H Q):Na t ta tb σ H Q:=h _ (iC q)
theorem o6(e:H d=some u):au H (upd (upd H d (.frz o u)) d u):=λb v z=>by
 by_cases hb:b=d
 ·subst hb;rw[ah,<-e,z]
 ·rw[ay hb,ay hb];exact z
theorem u7(h:iB t1 σ H false)(a:iB t2 σ H b):iB (Ja t1 t2) σ H b:=λQ q=>h _ (iC (a _ q))
theorem Ew(h:iB tc σ H true):iB (Iy tc) σ H false:=λ_ q=>h _ q
theorem dA{fs:List (Str×V)}(h:Ev ta σ H (.ref p))(e:H p=some (.ins C dx fs))(c:mF K C)(n:bL K C f)(l:fs.lookup f=some v):Ev (FR K ta f) σ H v:=λ_ q=>h _ ⟨p,C,dx,fs,v,rfl,e,c,n,l,q⟩
theorem i_(c:H p=none)(a:H dx=none):au H (upd (upd H dx (.own p)) p (.ins C dx [])):=λb o e=>by
 rw[ay (aD e c),ay (aD e a)];exact e
theorem fm {as:List Addr}{i:Nat}{x:V}(h:(as.map V.ref)[i]?=some x):∃a,as[i]?=some a/\x=.ref a:=by
 rw[Od] at h
 obtain⟨a,e,z⟩:=P9.mp h
 exact⟨a,e,z.symm⟩
theorem EI{cs ds:List (List dq×V)}(h:FJ H as cs)(g:FJ H bs ds):FJ H (as++bs) (cs++ds):=by
 induction h with
 |nil=>exact g
 |cons r _ ih=>exact .cons r ih
theorem FJ.mono{cs:List (List dq×V)}(h:FJ H as cs)(s:∀b xs,H b=some (.tup xs)->H' b=some (.tup xs)):FJ H' as cs:=Paired.mapP h λa c ⟨b,d,e⟩=>⟨b,s _ _ d,s _ _ e⟩
theorem Hn(b:Ev ty σ H y)(c:Ev td σ H (.ref a))(g:qQ H a y o):Ev (KG ty td) σ H (.bl o.isSome):=λ_ q=>b _ (c _ ⟨a,o,rfl,g,q⟩)
def bQ (H H':Hp) (p:Addr):Prop:=∀b o,b≠p->H b=some o->H' b=some o
theorem bQ.same(s:au H H1)(n:H p=none)(b:bQ H1 H2 p):au H H2:=λa o e=>b a o (aD e n) (s a o e)
theorem bQ.st(b:bQ H H1 p)(s:au H1 H2):bQ H H2 p:=λa o n e=>s _ _ (b a o n e)
theorem bQ.up(b:bQ H H1 p):bQ H (upd H1 p o) p:=λa u n e=>by rw[ay n];exact b a u n e
theorem bQ.of(s:au H H1):bQ H H1 p:=λa o _ e=>s _ _ e
theorem xE(h:dw H as cs):∀{i:Nat} {a:Addr},as[i]?=some a->∃c,cs[i]?=some c/\H a=some (.tup (c.map V.int)):=by
 induction h with
 |nil=>intro i a e;simp at e
 |cons r _ ih=>
  intro i a e
  cases i with
  |zero=>simp at e;subst e;exact⟨_,by simp,r⟩
  |succ i=>simp at e;obtain⟨p,h1,h2⟩:=ih e;exact⟨p,by simpa using h1,h2⟩
theorem eX(h:te σ H D.rt):vU te D σ H:=h
theorem jM(s:au H H')(n:H' t=none):H t=none:=by
 cases e:H t with
 |none=>rfl
 |some o=>rw[s _ _ e] at n;cases n
section
variable {K:NJ} {σ σ0:St} {H H1:Hp} {D a:Addr} {g:TG} {tt:TT} {te t0:TE} {ta:TA} {n:Nat} {ix:List Nat} {as:List Addr} {cs:List T3}
theorem HK(h:lH ta σ H [.int j])(h1: -(2^62)<=j)(a:j<2^62)(q:∀D,H D=none->Aj (oJ n ix σ) g tt te (AO 0 j.toNat) H D λH'=>Q (.ref D) H'):Jn (qb ta) n ix g tt te σ H Q:=h _ ⟨j,rfl,h1,a,q⟩
theorem kx(a:H' D=some (.lst zs))(nt:H' t=none):∀b xs,H' b=some (.tup xs)->upd (upd H' t o) D (.lst y) b=some (.tup xs):=λb xs e=>by
 rw[ay (lO e a (λz=>nomatch z)),ay (aD e nt)];exact e
theorem jc(h:dw H as cs)(s:∀b xs,H b=some (.tup xs)->H' b=some (.tup xs)):dw H' as cs:=Paired.mapP h λa c e=>s _ _ e
end
theorem wo(P:V->Hp->Prop)(h:∀Q:VK,(∀v H1,P v H1->Q v H1)->te σ H Q)(q:∀v H1,P v H1->u D (σ.set n (some v)) H1):e_ (jI te (dr n)) u D σ H:=h _ q
theorem rT(h:Dp K H v d):(!PyData.eqv d d)=false:=by rw[h.lay.2];rfl
theorem K1 (i j:Int):(if j<i then j else i)=min i j:=by simp only[Int.min_def];split<;>split<;>lia
theorem Kq (i j:Int):(if j>i then j else i)=max i j:=by simp only[Int.max_def];split<;>split<;>omega
noncomputable def eT (i:Nat):Stmt:=PySem.Challenge.pw_wirefloor_k19_pages_refused.main.body.getD i (.Pass ⟨0,0,0,0⟩)
abbrev kO:Stmt:=fU (eT 10) 0
abbrev wD:Stmt:=eT 12
abbrev BW:Stmt:=eT 13
abbrev wg:Stmt:=eT 14
abbrev xt:Stmt:=eT 28
abbrev wJ:Stmt:=eT 29
abbrev so:Stmt:=eT 30
abbrev ud:Stmt:=eT 31
abbrev h_:Stmt:=fU (eT 32) 0
abbrev yt:Stmt:=fU (eT 32) 5
abbrev Gu:Stmt:=eT 45
abbrev xH:Stmt:=eT 46
abbrev kQ:Stmt:=fU (eT 47) 0
abbrev ik:Stmt:=fU (eT 48) 0
abbrev A0:Stmt:=fU (eT 48) 1
abbrev hU:Stmt:=fU (eT 49) 0
abbrev AI:Stmt:=fU (eT 49) 1
abbrev Gr:Stmt:=eT 16
abbrev Bt:Stmt:=eT 17
abbrev DE:Stmt:=eT 18
abbrev wM:Stmt:=eT 19
abbrev xB:Stmt:=eT 21
abbrev D1:Stmt:=eT 22
abbrev rR:Stmt:=eT 23
abbrev yf:Stmt:=fU (eT 24) 0
abbrev Ku:Stmt:=eT 34
abbrev Lz:Stmt:=eT 35
abbrev tN:Stmt:=eT 52
abbrev xn:Stmt:=eT 53
abbrev BQ:Stmt:=eT 54
abbrev ye:Stmt:=eT 55
abbrev tW:Stmt:=eT 57
abbrev wN:Stmt:=eT 58
abbrev tP:Stmt:=eT 59
abbrev BL:Stmt:=eT 60
abbrev G5:Stmt:=eT 61
abbrev G4:Stmt:=eT 62
abbrev GD:Stmt:=eT 63
abbrev lA:Stmt:=eT 64
abbrev yk:Stmt:=eT 65
abbrev vX:Stmt:=eT 66
abbrev xg:Stmt:=eT 67
abbrev xu:Stmt:=eT 68
abbrev pE:Stmt:=eT 69
abbrev Hf:Stmt:=eT 71
abbrev B7:Stmt:=eT 72
abbrev yc:Stmt:=eT 73
abbrev uf:Stmt:=eT 74
abbrev G6:Stmt:=eT 75
abbrev D3:Stmt:=eT 76
abbrev CA:Stmt:=eT 77
abbrev CX:Stmt:=eT 78
abbrev yy:Stmt:=eT 79
abbrev G2:Stmt:=eT 80
abbrev xc:Stmt:=eT 81
abbrev wx:Stmt:=eT 82
abbrev GL:Stmt:=eT 83
abbrev xh:Stmt:=eT 84
abbrev D7:Stmt:=eT 85
abbrev BS:Stmt:=eT 86
abbrev GZ:Stmt:=eT 87
abbrev yp:Stmt:=eT 88
abbrev KJ:Stmt:=eT 89
structure Txt (K:NJ) (mg:Str->Option Value) (cThing cNet cBundle cFloor cBoard cWireError cBadSize cBadPrice cOutOfFloor cBadThing cTwice cNoFit cCrowded cBadRow cMS:Addr):Prop where
 len_:mg "len" =none
 range_:mg "range" =none
 isinstance_:mg "isinstance" =none
 int_:mg "int" =none
 bool_:mg "bool" =none
 tuple_:mg "tuple" =none
 set_:mg "set" =none
 list_:mg "list" =none
 dict_:mg "dict" =none
 str_:mg "str" =none
 all_:mg "all" =none
 any_:mg "any" =none
 zip_:mg "zip" =none
 min_:mg "min" =none
 max_:mg "max" =none
 abs_:mg "abs" =none
 enumerate_:mg "enumerate" =none
 ValueError_:mg "ValueError" =none
 cl_Thing:mF K cThing
 mg_Thing:mg "Thing" =some (.ref cThing)
 cl_Net:mF K cNet
 mg_Net:mg "Net" =some (.ref cNet)
 na_Net_name:bL K cNet "name"
 na_Net_half:bL K cNet "half"
 na_Net_room:bL K cNet "room"
 na_Net_pins:bL K cNet "pins"
 cl_Bundle:mF K cBundle
 mg_Bundle:mg "Bundle" =some (.ref cBundle)
 na_Bundle_name:bL K cBundle "name"
 na_Bundle_half:bL K cBundle "half"
 na_Bundle_room:bL K cBundle "room"
 na_Bundle_starts:bL K cBundle "starts"
 na_Bundle_goals:bL K cBundle "goals"
 cl_Floor:mF K cFloor
 mg_Floor:mg "Floor" =some (.ref cFloor)
 na_Floor_sizes:bL K cFloor "sizes"
 na_Floor_prices:bL K cFloor "prices"
 na_Floor_vias:bL K cFloor "vias"
 na_Floor_rocks:bL K cFloor "rocks"
 na_Floor_tolls:bL K cFloor "tolls"
 cl_Board:mF K cBoard
 mg_Board:mg "Board" =some (.ref cBoard)
 na_Board_floor:bL K cBoard "floor"
 na_Board_by_name:bL K cBoard "by_name"
 eWireError:Mr K mg "WireError" cWireError
 eBadSize:uM K mg "BadSize" cBadSize
 eBadPrice:uM K mg "BadPrice" cBadPrice
 eOutOfFloor:uM K mg "OutOfFloor" cOutOfFloor
 eBadThing:uM K mg "BadThing" cBadThing
 eTwice:uM K mg "Twice" cTwice
 eNoFit:uM K mg "NoFit" cNoFit
 eCrowded:uM K mg "Crowded" cCrowded
 eBadRow:Mh K mg "BadRow" cBadRow "row"
 g_MOST_PRICE:∃u,mg "MOST_PRICE" =some u/\bo (.int 1000000000000) u
 g_LETTERS:∃u,mg "LETTERS" =some u/\bo (.str (Str.ofString "abcdefghijklmnopqrstuvwxyz")) u
 g_FIGURES:∃u,mg "FIGURES" =some u/\bo (.str (Str.ofString "0123456789")) u
 g_MOST_SIGNS:∃u,mg "MOST_SIGNS" =some u/\bo (.int 12) u
 g_MOST_HALF:∃u,mg "MOST_HALF" =some u/\bo (.int 2) u
 g_MOST_ROOM:∃u,mg "MOST_ROOM" =some u/\bo (.int 3) u
 g_MOST_PINS:∃u,mg "MOST_PINS" =some u/\bo (.int 6) u
 g_MOST_STARTS:∃u,mg "MOST_STARTS" =some u/\bo (.int 6) u
 g_MOST_GOALS:∃u,mg "MOST_GOALS" =some u/\bo (.int 12) u
 g_MOST_FIGURES:∃u,mg "MOST_FIGURES" =some u/\bo (.int 18) u
 g_MOST_SIZES:∃u,mg "MOST_SIZES" =some u/\bo (.ref cMS) u
 t_MOST_SIZES:∀H:Hp,bY K H cMS [.int 4,.int 16,.int 16]
 kii:OD K (.type "int") (.type "int")=some true
 kib:OD K (.type "int") (.type "bool")=some false
 vBadRow:OD K (.ref cBadRow) (.type "ValueError")=some true
 vBadSize:OD K (.ref cBadSize) (.type "ValueError")=some true
 vBadPrice:OD K (.ref cBadPrice) (.type "ValueError")=some true
 vOutOfFloor:OD K (.ref cOutOfFloor) (.type "ValueError")=some true
 vBadThing:OD K (.ref cBadThing) (.type "ValueError")=some true
 vTwice:OD K (.ref cTwice) (.type "ValueError")=some true
 vNoFit:OD K (.ref cNoFit) (.type "ValueError")=some true
 vCrowded:OD K (.ref cCrowded) (.type "ValueError")=some true
 wBadRow:NL K (.ref cBadRow) (.ref cWireError)=some true
 wBadSize:NL K (.ref cBadSize) (.ref cWireError)=some true
 wBadPrice:NL K (.ref cBadPrice) (.ref cWireError)=some true
 wOutOfFloor:NL K (.ref cOutOfFloor) (.ref cWireError)=some true
 wBadThing:NL K (.ref cBadThing) (.ref cWireError)=some true
 wTwice:NL K (.ref cTwice) (.ref cWireError)=some true
 wNoFit:NL K (.ref cNoFit) (.ref cWireError)=some true
 wCrowded:NL K (.ref cCrowded) (.ref cWireError)=some true
 x00:NL K (.ref cBadRow) (.ref cBadRow)=some true
 x01:NL K (.ref cBadRow) (.ref cBadSize)=some false
 x02:NL K (.ref cBadRow) (.ref cBadPrice)=some false
 x03:NL K (.ref cBadRow) (.ref cOutOfFloor)=some false
 x04:NL K (.ref cBadRow) (.ref cBadThing)=some false
 x05:NL K (.ref cBadRow) (.ref cTwice)=some false
 x06:NL K (.ref cBadRow) (.ref cNoFit)=some false
 x07:NL K (.ref cBadRow) (.ref cCrowded)=some false
 x10:NL K (.ref cBadSize) (.ref cBadRow)=some false
 x11:NL K (.ref cBadSize) (.ref cBadSize)=some true
 x12:NL K (.ref cBadSize) (.ref cBadPrice)=some false
 x13:NL K (.ref cBadSize) (.ref cOutOfFloor)=some false
 x14:NL K (.ref cBadSize) (.ref cBadThing)=some false
 x15:NL K (.ref cBadSize) (.ref cTwice)=some false
 x16:NL K (.ref cBadSize) (.ref cNoFit)=some false
 x17:NL K (.ref cBadSize) (.ref cCrowded)=some false
 x20:NL K (.ref cBadPrice) (.ref cBadRow)=some false
 x21:NL K (.ref cBadPrice) (.ref cBadSize)=some false
 x22:NL K (.ref cBadPrice) (.ref cBadPrice)=some true
 x23:NL K (.ref cBadPrice) (.ref cOutOfFloor)=some false
 x24:NL K (.ref cBadPrice) (.ref cBadThing)=some false
 x25:NL K (.ref cBadPrice) (.ref cTwice)=some false
 x26:NL K (.ref cBadPrice) (.ref cNoFit)=some false
 x27:NL K (.ref cBadPrice) (.ref cCrowded)=some false
 x30:NL K (.ref cOutOfFloor) (.ref cBadRow)=some false
 x31:NL K (.ref cOutOfFloor) (.ref cBadSize)=some false
 x32:NL K (.ref cOutOfFloor) (.ref cBadPrice)=some false
 x33:NL K (.ref cOutOfFloor) (.ref cOutOfFloor)=some true
 x34:NL K (.ref cOutOfFloor) (.ref cBadThing)=some false
 x35:NL K (.ref cOutOfFloor) (.ref cTwice)=some false
 x36:NL K (.ref cOutOfFloor) (.ref cNoFit)=some false
 x37:NL K (.ref cOutOfFloor) (.ref cCrowded)=some false
 x40:NL K (.ref cBadThing) (.ref cBadRow)=some false
 x41:NL K (.ref cBadThing) (.ref cBadSize)=some false
 x42:NL K (.ref cBadThing) (.ref cBadPrice)=some false
 x43:NL K (.ref cBadThing) (.ref cOutOfFloor)=some false
 x44:NL K (.ref cBadThing) (.ref cBadThing)=some true
 x45:NL K (.ref cBadThing) (.ref cTwice)=some false
 x46:NL K (.ref cBadThing) (.ref cNoFit)=some false
 x47:NL K (.ref cBadThing) (.ref cCrowded)=some false
 x50:NL K (.ref cTwice) (.ref cBadRow)=some false
 x51:NL K (.ref cTwice) (.ref cBadSize)=some false
 x52:NL K (.ref cTwice) (.ref cBadPrice)=some false
 x53:NL K (.ref cTwice) (.ref cOutOfFloor)=some false
 x54:NL K (.ref cTwice) (.ref cBadThing)=some false
 x55:NL K (.ref cTwice) (.ref cTwice)=some true
 x56:NL K (.ref cTwice) (.ref cNoFit)=some false
 x57:NL K (.ref cTwice) (.ref cCrowded)=some false
 x60:NL K (.ref cNoFit) (.ref cBadRow)=some false
 x61:NL K (.ref cNoFit) (.ref cBadSize)=some false
 x62:NL K (.ref cNoFit) (.ref cBadPrice)=some false
 x63:NL K (.ref cNoFit) (.ref cOutOfFloor)=some false
 x64:NL K (.ref cNoFit) (.ref cBadThing)=some false
 x65:NL K (.ref cNoFit) (.ref cTwice)=some false
 x66:NL K (.ref cNoFit) (.ref cNoFit)=some true
 x67:NL K (.ref cNoFit) (.ref cCrowded)=some false
 x70:NL K (.ref cCrowded) (.ref cBadRow)=some false
 x71:NL K (.ref cCrowded) (.ref cBadSize)=some false
 x72:NL K (.ref cCrowded) (.ref cBadPrice)=some false
 x73:NL K (.ref cCrowded) (.ref cOutOfFloor)=some false
 x74:NL K (.ref cCrowded) (.ref cBadThing)=some false
 x75:NL K (.ref cCrowded) (.ref cTwice)=some false
 x76:NL K (.ref cCrowded) (.ref cNoFit)=some false
 x77:NL K (.ref cCrowded) (.ref cCrowded)=some true
theorem Bv (xs:List V)(k:Nat)(h:k<=xs.length):fT xs none (some (k:Int))=xs.take k:=by
 unfold fT
 rw[HT.sIx_none,HT.sIx_nat,O4 h,List.drop_zero,Nat.sub_zero]
theorem Do (xs:List V)(k:Nat)(h:k<=xs.length):fT xs (some (k:Int)) none=xs.drop k:=by
 unfold fT
 rw[HT.sIx_none,HT.sIx_nat,O4 h,O3 (by rw[OC];lia)]
theorem ip{Q:List V->Hp->Prop}(h:Ev te σ H v)(q:tr σ H λxs H2=>Q (v::xs) H2):b9 te tr σ H Q:=h _ q
theorem cA(h:∀R:VK,(∀v H1,u D (σ.set n (some v)) H1->R v H1)->te σ H R):e_ (jI te (dr n)) u D σ H:=h _ λ_ _ z=>z
theorem x_(h:∀R:St->Hp->Prop,(∀σ H,u D σ H->R σ H)->t {D with nx:=R} σ H):e_ t u D σ H:=h _ λ_ _ z=>z
theorem eJ {X:St->Hp->Prop}{σ σ':St}{H:Hp}(e:σ=σ')(h:X σ' H):X σ H:=e▸h
theorem bB(h:Ev te σ H v)(q:Q v H):te σ H Q:=h _ q
theorem eI{Q:List V->Hp->Prop}(h:te σ H λx H1=>tr σ H1 λxs H2=>Q (x::xs) H2):b9 te tr σ H Q:=h
theorem iD(h:iB tc σ H b)(q:Q b H):tc σ H Q:=h _ q
theorem mT(h:Ev to σ H x)(a:L_ K T x H)(q:ta σ H λxs H2=>r x xs H2 Q):D4 K T r to ta σ H Q:=h _ ⟨a,q⟩
theorem FS(J:St->Hp->Prop)(h:∀R:St->Hp->Prop,(∀σ H,J σ H->R σ H)->t {D with nx:=R} σ H)(k:∀σ H,J σ H->u D σ H):e_ t u D σ H:=h _ k
theorem Hz(h:lH ta σ H vs)(q:r vs H Q):xS r ta σ H Q:=h _ q
theorem q9(h:te σ H λx H1=>r [x] H1 Q):xS r (b9 te dv) σ H Q:=h
theorem nb(h:(!b)=true):b=false:=by cases b<;>simp_all
theorem fH(h:ta σ H λvs H1=>sp vs H1 Q E0):jo sp ta σ H Q:=h
theorem jJ {a:Type}{l:List a}{f:a->Bool}{x:a}(h:x∈l)(e:f x=false):l.all f=false:=Bool.eq_false_iff.mpr λz=>by
 have:=Oa.mp z x h
 rw[e] at this;cases this
theorem gR {a:Type}{l:List a}{f:a->Bool}{x:a}(h:(l.take i).all f=true)(hx:l[i]?=some x)(e:f x=true):(l.take (i+1)).all f=true:=by
 rw[bO hx,List.all_append,h,PL,e];rfl
theorem xY(h:te σ H λx H1=>∃a,x=.ref a/\(∃xs,bf K H1 a xs)/\jC (λ_ H R=>R (zw K a) H) g tb {D with nx:=u D} σ H1):e_ (jC (r8 K te) g tb) u D σ H:=h
theorem xi(b:Ev ta σ H (.str x))(a:x.length<=sizeLine):Ev (xS (λxs H Q=>∃z:Str,xs=[.str z]/\z.length<=sizeLine/\Q (.int (z.length:Nat)) H) (b9 ta dv)) σ H (.int (x.length:Nat)):=λ_ q=>b _ ⟨x,rfl,a,q⟩
def mx (i j:Int):Int:=if j>i then j else i
theorem yi(h:te σ H λx H1=>∃a,x=.ref a/\(∃xs,bf K H1 a xs)/\jC (λ_ H R=>R (zw K a) H) g tb D σ H1):jC (r8 K te) g tb D σ H:=h
theorem HZ{ta:L2.TA}(h:ta σ H λvs H1=>sp vs H1 (λv H2=>∃b,v=.bl b/\Q b H2) E0):tB (jo sp ta) σ H Q:=h
theorem Dj(a:Ev ta σ H (.ref l))(b:Ev tb σ H (.int i))(c:bf K H l xs)(q:∀p,H p=none->Q (.ref p) (upd H p (.lst (fT xs (some i) none)))):FH (qt K) ta (jv tb) gz σ H Q:=a _ (b _ ⟨i,rfl,l,_,rfl,c,q⟩)
theorem DP(a:Ev ta σ H (.ref l))(b:Ev tb σ H (.int i))(c:bf K H l xs)(q:∀p,H p=none->Q (.ref p) (upd H p (.lst (fT xs none (some i))))):FH (qt K) ta gz (jv tb) σ H Q:=a _ (b _ ⟨i,rfl,l,_,rfl,c,q⟩)
theorem DD {a:Type}{l:List a}{f:a->Bool}{x:a}(h:(l.take i).any f=false)(hx:l[i]?=some x)(e:f x=false):(l.take (i+1)).any f=false:=by
 rw[bO hx,List.any_append,h,OY,e];rfl
theorem bU {a:Type}{l:List a}{x:a}(h:l[i]?=some x):i<l.length:=(Ov.mp h).1
theorem fe(h:te σ H λ_ H1=>D.nx σ H1):lF te D σ H:=h
theorem vy(h:te σ H λv H1=>∃b,v=.bl b/\Q b H1):jr te σ H Q:=h
theorem JW(h:iB t σ H a)(e:a=false)(q:u σ H Q):Ja t u σ H Q:=KQ h e q
theorem HQ(h:te σ H λx H1=>∃j:Int,[x]=[.int j]/\ -(2^62)<=j/\j<2^62/\∀D,H1 D=none->Aj (oJ n ix σ) g tt te' (AO 0 j.toNat) H1 D λH'=>u E (σ.set i (some (.ref D))) H'):e_ (rC (qb (b9 te dv)) n ix g tt te' i) u E σ H:=h
theorem iT(h:te σ H λ_ H1=>u D σ H1):e_ (lF te) u D σ H:=h
theorem dy {c d:Type}{R:c->d->Prop}{a:c}{b:d}(r:R a b){as:List c}{bs:List d}(h:Paired R as bs):Paired R (as++[a]) (bs++[b]):=jA h (.cons r .nil)
theorem bK {c d:Type}{R:c->d->Prop}{as:List c}{bs:List d}(h:Paired R as bs){i:Nat}{a:c}(e:as[i]?=some a):∃b,bs[i]?=some b/\R a b:=A6 h e
def dg (n:Nat):List Nat:=(Nat.toDigits 10 n).map Char.toNat
theorem f9(h:n<10):dg n=[48+n]:=by
 exact(show∀n<10,dg n=[48+n] by decide+kernel) n h
theorem kz(h:10<=n):dg n=dg (n/10)++[48+n%10]:=by
 have a:n%10<10:=Nat.mod_lt n (by decide)
 have t:Nat.toDigits 10 (n/10)++Nat.toDigits 10 (n%10)=Nat.toDigits 10 (10*(n/10)+n%10):=Nat.toDigits_append_toDigits (by decide) (by lia) a
 rw[Nat.div_add_mod] at t
 have e:=f9 a
 unfold dg at e|-
 rw[<-t,NW,e]
theorem qZ (n:Nat):∀c∈dg n,48<=c/\c<=57:=by
 induction n using Nat.strongRecOn with
 |_ n ih=>
  by_cases h:n<10
  ·rw[f9 h];intro c hc;rw[NR.mp hc];lia
  ·rw[kz (by lia)]
   intro c hc
   rcases Ot.mp hc with hc|hc
   ·exact ih (n/10) (by lia) c hc
   ·rw[NR.mp hc];lia
theorem D6 (n:Nat):dg n≠[]:=by
 by_cases h:n<10
 ·rw[f9 h];simp
 ·rw[kz (by lia)];simp
theorem Gf(h:0<n):(dg n)[0]?≠some 48:=by
 induction n using Nat.strongRecOn with
 |_ n ih=>
  by_cases hn:n<10
  ·rw[f9 hn];simp;omega
  ·rw[kz (by omega)]
   have b:=D6 (n/10)
   cases e:dg (n/10) with
   |nil=>exact absurd e b
   |cons a r=>
    have z:=ih (n/10) (by omega) (by omega)
    rw[e] at z
    simpa using z
theorem bR:∀{k n:Nat},1<=k->n<10^k->(dg n).length<=k
 |0,_,h,_=>absurd h (by decide)
 |k+1,n,_,h=>by
  by_cases hn:n<10
  ·rw[f9 hn];simp
  ·rw[kz (by lia),NM]
   have a:1<=k:=by
    rcases Qd k with z|z
    ·subst z;lia
    ·exact z
   have:=bR (k:=k) (n:=n/10) a (by rw[Nat.pow_succ] at h;lia)
   simp only[NU,Qn];lia
theorem pJ:∀{k n:Nat},10^k<=n->k<(dg n).length
 |0,n,_=>by
  have:=D6 n
  rcases Qd (dg n).length with z|z
  ·exact absurd (QK z) this
  ·exact z
 |k+1,n,h=>by
  have a:10<=n:=by
   have:10^1<=10^(k+1):=Nat.pow_le_pow_right (by decide) (by lia)
   lia
  rw[kz a,NM]
  have:=pJ (k:=k) (n:=n/10) (by rw[Nat.pow_succ] at h;lia)
  simp only[NU,Qn];lia
theorem Js (n:Nat):NumText.digitsVal (dg n)=n:=PySem.W.KIN.val_back n
theorem Iz (n:Nat):cp (toString ((n:Nat):Int))=dg n:=PySem.W.KIN.signs_num n
theorem IJ (x:String):cp (Str.ofString x)=x.toList.map Char.toNat:=PyProof.Rows.signs_ofString x
def qx (l:List Nat):Prop:=l.length=0\/18<l.length\/(∃c∈l,¬(48<=c/\c<=57))\/(l[0]?=some 48/\1<l.length)
def nE (l:List Nat):Prop:=1<=l.length/\l.length<=18/\(∀c∈l,48<=c/\c<=57)/\(l[0]?=some 48->l.length=1)
theorem FE(h:n<10^18):nE (dg n):=by
 refine⟨?_,bR (by decide) h,qZ n,λe=>?_⟩
 ·have:=pJ (k:=0) (n:=n)
  rcases Qd n with z|z
  ·subst z;rw[f9 (by decide)];simp
  ·have:=this (by lia);lia
 ·rcases Qd n with z|z
  ·subst z;rw[f9 (by decide)];rfl
  ·exact absurd e (Gf z)
structure Pl (z:Str):Prop where
 as:z.cps.all (· <128)=true
 ln:z.length<=1000
theorem Pl.of(h:∀c∈cp z,c<128)(a:(cp z).length<=1000):Pl z:=⟨by rw[Array.all_eq_true];intro i hi;exact decide_eq_true (h _ (by simp[cp])),by rw[<-dS];exact a⟩
theorem Pl.sz(h:Pl z):z.length<=sizeLine:=NP h.ln (by decide)
def ku:List Nat:=[48,49,50,51,52,53,54,55,56,57]
theorem DJ:cp (Str.ofString "0123456789")=ku:=by decide+kernel
theorem pj:c∈ku↔(48<=c/\c<=57):=by
 rw[show ku=List.range' 48 10 from rfl,List.mem_range'_1];lia
theorem G0 {n:Nat}(h:n<10^20):((n:Int)).natAbs.log2<1920:=lg (by lia) (by lia)
theorem xx (l:List Nat):nE l\/qx l:=by
 rcases Classical.em (qx l) with h|h
 ·exact .inr h
 ·refine .inl ?_
  unfold qx at h
  refine⟨Nat.pos_of_ne_zero λz=>h (.inl z),Nat.le_of_not_lt λz=>h (.inr (.inl z)),λc b=>?_,λe=>?_⟩
  ·rcases Classical.em (48<=c/\c<=57) with g|g
   ·exact g
   ·exact absurd (.inr (.inr (.inl ⟨c,b,g⟩))) h
  ·have h1:¬1<l.length:=λz=>h (.inr (.inr (.inr ⟨e,z⟩)))
   have h2:0<l.length:=by
    cases l with
    |nil=>cases e
    |cons a r=>simp
   omega
theorem BE(g:nE l)(b:qx l):False:=by
 obtain⟨j,i,d,h⟩:=g
 rcases b with b|b|⟨c,f,a⟩|⟨e,b2⟩
 ·lia
 ·lia
 ·exact a (d c f)
 ·have:=h e;lia
theorem Nr:Str.ofString "." =⟨#[46]⟩:=by decide+kernel
theorem HU (n:Nat):46∉dg n:=λh=>by have:=qZ n 46 h;omega
theorem vm:∀{P:List (List Nat)},d∈jl c P->d=c\/∃p∈P,d∈p
 |[],h=>nomatch h
 |[p],h=> .inr ⟨p,N7,h⟩
 |p::q::r,h=>by
  rw[d_ (by simp)] at h
  rcases Ot.mp h with h|h
  ·exact .inr ⟨p,N7,h⟩
  ·rcases NK.mp h with h|h
   ·exact .inl h
   ·rcases vm h with h|⟨x,a,b⟩
    ·exact .inl h
    ·exact .inr ⟨x,NV _ a,b⟩
noncomputable def gS (c:Nat):List Nat->List (List Nat)
 |[]=>[[]]
 |a::r=>if a=c then []::gS c r else (a::(gS c r).headD [])::(gS c r).tail
theorem qB (c:Nat)(l:List Nat):gS c l≠[]:=by
 cases l with
 |nil=>simp[gS]
 |cons a r=>unfold gS;split<;>simp
set_option tactic.hygienic true in
theorem ny (c:Nat):∀l,jl c (gS c l)=l
 |[]=>rfl
 |a::r=>by
  have f:=ny c r
  have d:=qB c r
  unfold gS
  split
  ·rename_i h
   rw[d_ d,f,h];rfl
  ·cases e:gS c r with
   |nil=>exact absurd e d
   |cons p q=>
    rw[e] at f
    show jl c ((a::p)::q)=a::r
    rw[<-f]
    cases q with
    |nil=>rfl
    |cons b t=>rfl
set_option tactic.hygienic true in
theorem sM (c:Nat):∀l,∀p∈gS c l,c∉p
 |[],p,h=>by rw[NR.mp h];exact N3
 |a::r,p,h=>by
  have b:=sM c r
  have d:=qB c r
  unfold gS at h
  split at h
  ·rcases NK.mp h with rfl|h
   ·exact N3
   ·exact b p h
  ·rename_i hac
   cases e:gS c r with
   |nil=>exact absurd e d
   |cons q t=>
    rw[e] at h b
    rcases NK.mp h with rfl|h
    ·intro z
     rcases NK.mp z with z|z
     ·exact hac z.symm
     ·exact b q N7 z
    ·exact b p (NV _ h)
theorem yv (c:Nat)(y:List Nat):∀x,gS c (x++c::y)=gS c x++gS c y
 |[]=>by show gS c (c::y)=_;simp[gS]
 |a::r=>by
  have d:=yv c y r
  have b:=qB c r
  rw[Pn]
  simp only[gS]
  by_cases h:a=c
  ·rw[if_pos h,if_pos h,d];rfl
  ·rw[if_neg h,if_neg h,d]
   cases e:gS c r with
   |nil=>exact absurd e b
   |cons p q=>rfl
theorem ng:∀{x:List Nat},c∉x->gS c x=[x]
 |[],_=>rfl
 |a::r,h=>by
  have b:=ng (x:=r) λz=>h (NV _ z)
  unfold gS
  rw[if_neg λz=>h (by rw[z];exact N7),b];rfl
theorem rY (x:Str)(c:Nat):(Txt.split x ⟨#[c]⟩).map cp=gS c (cp x):=sO x c (qB c _) (sM c _) (ny c _).symm
def oP (p:List Nat):Bool:=!p.isEmpty
def wf (x:List Nat):List (List Nat):=(gS 32 x).filter oP
theorem vE:StrLaws.At x ⟨#[c]⟩ x.length i↔(cp x)[i]?=some c:=StrLaws.subAt_one x c i
theorem Et(e:cp x=y++z)(h:c∉y)(hz:z=[]\/z.head?=some c):cp (Txt.partition x ⟨#[c]⟩).1=y:=by
 rcases PyProof.Rows.partition_head x ⟨#[c]⟩ with ⟨h1,h2⟩|⟨i,h1,h2,b⟩
 ·rw[h1,e]
  rcases hz with rfl|hz
  ·simp
  ·refine absurd (vE.mpr ?_) (h2 y.length)
   rw[e,OU (NI _),Nat.sub_self,<-List.head?_eq_getElem?,hz]
 ·have a:=vE.mp h2
  have d:∀k,k<i->(cp x)[k]?≠some c:=λk f z=>b k f (vE.mpr z)
  have g:i=y.length:=by
   rcases Nat.lt_trichotomy i y.length with hl|hl|hl
   ·rw[e,Pk hl] at a
    exact absurd (Oi a) h
   ·exact hl
   ·rcases hz with rfl|hz
    ·rw[e,Os,List.getElem?_eq_none (by lia)] at a;cases a
    ·refine absurd ?_ (d y.length hl)
     rw[e,OU (NI _),Nat.sub_self,<-List.head?_eq_getElem?,hz]
  rw[h1]
  show(x.cps.extract 0 i).toList=y
  rw[Array.toList_extract,g]
  show((cp x).drop 0).take (y.length - 0)=y
  rw[e];simp
theorem nl:Str.ofString "\n" =⟨#[10]⟩:=by decide+kernel
theorem Ml:Str.ofString ";" =⟨#[59]⟩:=by decide+kernel
theorem J8:Str.ofString " " =⟨#[32]⟩:=by decide+kernel
theorem AJ:Str.ofString "" =⟨#[]⟩:=by decide+kernel
theorem mW:∀{a b:List Str},a.map cp=b.map cp->a=b
 |[],[],_=>rfl
 |[],_::_,h=>by cases h
 |_::_,[],h=>by cases h
 |x::r,y::t,h=>by
  obtain⟨h1,h2⟩:=List.cons.inj h
  rw[yz h1,mW h2]
theorem G7 {b:Bool}{A B:Prop}(h1:b=true->A)(a:b=false->B):if b=true then A else B:=by
 cases b with
 |true=>rw[if_pos rfl];exact h1 rfl
 |false=>rw[if_neg NY];exact a rfl
theorem vP:∀{P:List (List Nat)},P≠[]->(∀p∈P,c∉p)->gS c (jl c P)=P
 |[],h,_=>absurd rfl h
 |[p],_,hf=>ng (hf p N7)
 |p::q::r,_,hf=>by
  rw[d_ (by simp),yv,ng (hf p N7),vP (by simp) λz a=>hf z (NV _ a)]
  rfl
theorem MK (c:Nat)(a b d:List Nat):jl c [a,b,d]=a++c::(b++c::d):=rfl
theorem t9(h:∀t∈ts,t.length<=1000)(e:z.length<=10)(d:ts.length<=1000):JoinOk z ts=true:=by
 have a:∀(l:List Str) (n:Nat),(∀t∈l,t.length<=1000)->l.foldl (· + ·.length+z.length) n<=n+1010*l.length:=by
  intro l
  induction l with
  |nil=>intro n _;simp
  |cons x r ih=>
   intro n b
   have h1:=b x N7
   have h2:=ih (n+x.length+z.length) λt c=>b t (NV _ c)
   rw[List.foldl_cons,NU]
   lia
 unfold JoinOk
 have h1:=a ts 0 h
 rw[List.foldl_toArray]
 generalize ts.foldl (· + ·.length+z.length) 0=n at h1
 have h2:n<=1010000:=by lia
 unfold Builtin.Str.tooLong
 rw[Pp,decide_eq_false_iff_not,sizeLine_eq]
 lia
theorem iL {a b:Type}{f:a->b}{l:List a}{i:Nat}{y:b}(h:(l.map f)[i]?=some y):∃x,l[i]?=some x/\y=f x:=by
 rw[Od] at h
 cases e:l[i]? with
 |none=>rw[e] at h;cases h
 |some z=>rw[e] at h;exact⟨z,rfl,(Option.some.inj h).symm⟩
theorem tS {H:Hp}{x y:Addr}{o:HO}(hx:H x=some o)(a:H y=none):x≠y:=λz=>by rw[z,a] at hx;cases hx
theorem ER {H:Hp}{x y:Addr}{o p:HO}(hx:H x=some o)(a:H y=some p)(h:o≠p):x≠y:=λz=>by rw[z,a] at hx;exact h (Option.some.inj hx).symm
theorem yj {A B:Prop}{b:Bool}(h1:b=true->A)(a:b=false->B):if b=true then A else B:=by cases b with|true=>exact gZ (h1 rfl)|false=>exact iC (a rfl)
theorem jG (h:Ev ta σ H (.ref p))(e:H p=some (.lst xs)):Ev (xS (λxs H Q=>∃x n,xs=[x]/\EN K x H n/\Q (.int n) H) (b9 ta dv)) σ H (.int (xs.length:Nat)):=dB (ag h az) λ_ a=>⟨_,_,rfl,.inl ⟨_,bf.of e,rfl⟩,a⟩
theorem DY(h:cp x=cp y):x=y:=by
 have:=mW (a:=[x]) (b:=[y]) (by simp[h])
 exact(List.cons.inj this).1
theorem Mn {a:Type}{x:a}{r:List a}:oN (x::r) 0=some x:=eg (j:=0) rfl
def L (s:String):List Nat:=s.toList.map Char.toNat
theorem KU (s:String):cp (Str.ofString s)=L s:=IJ s
def Mb (a:TT) (σ:St) (H:Hp) (b:Bool):Prop:=∀H1,au H H1->∀Q:Bool->Hp->Prop,(∀H2,au H1 H2->Q b H2)->a σ H1 Q
theorem JU(h1:Mb t σ H a)(c:Mb u σ H b):Mb (Ja t u) σ H (a||b):=λH1 s Q q=>h1 H1 s _ λH2 s2=>by
 cases a with
 |true=>exact gZ (q H2 s2)
 |false=>exact iC (c H2 (s.trans s2) _ λH3 s3=>q H3 (s2.trans s3))
theorem Ji(h:Mb tc σ H b)(h1:b=true->∀H1,au H H1->t D σ H1)(a:b=false->∀H1,au H H1->u D σ H1):jP tc t u D σ H:=h H (au.refl H) _ λH2 s2=>yj (λe=>h1 e H2 s2) λe=>a e H2 s2
theorem nw(h:upd H l o z=none):z≠l/\H z=none:=by
 by_cases e:z=l
 ·rw[e,ah] at h;cases h
 ·rw[ay e] at h;exact⟨e,h⟩
theorem HV(h:ta σ H λx H1=>tb σ H1 λy H2=>∃i,y=.int i/\∃a xs,x=.ref a/\bf K H2 a xs/\∀p,H2 p=none->Q (.ref p) (upd H2 p (.lst (fT xs none (some i))))):FH (qt K) ta gz (jv tb) σ H Q:=h
theorem mV(s:au H H')(e:H' z=none):H z=none:=by
 cases h:H z with
 |none=>rfl
 |some o=>rw[s _ _ h] at e;cases e
theorem AB (ns:List Int)(lo hi:Option Int):∃cs:List Int,fT (ns.map V.int) lo hi=cs.map V.int/\cs.length<=ns.length:=⟨(ns.drop _).take _,by unfold fT;rw[List.map_take,List.map_drop],by rw[N_,OC];omega⟩
theorem Gn(h:lH ta σ H [.int i,.int j,.int k])(h1: -(2^60)<=i/\i<2^60/\ -(2^60)<=j/\j<2^60/\0<k/\k<1000000)(q:jC (λ_ H R=>R (yY i k (qS i j k)) H) g tb {D with nx:=u D} σ H):e_ (jC (Hj ta) g tb) u D σ H:=h _ ⟨i,j,k,rfl,h1,q⟩
def k_:List Nat:=cp (Str.ofString "abcdefghijklmnopqrstuvwxyz")
def Fu:List Nat:=cp (Str.ofString "0123456789")
noncomputable def GY:List Nat->Bool
 |[]=>false
 |c::r=>decide (r.length<=11)&&decide (c∈k_)&&r.all λd=>decide (d∈k_)||decide (d∈Fu)
theorem pX (c:Nat)(r:List Nat):GY (c::r)=(decide (r.length<=11)&&decide (c∈k_)&&r.all λd=>decide (d∈k_)||decide (d∈Fu)):=rfl
def K9 (x:Str):Prop:=x.cps.all (· <128)=true/\x.length<=400
def kh (x:Str):Bool:=GY (cp x)
def fS (d:Nat):Bool:=decide (d∈k_)||decide (d∈Fu)
theorem oR(h:¬(1<=x.length/\x.length<=12)):kh x=false:=by
 unfold kh
 have a:=dS x
 cases e:cp x with
 |nil=>rfl
 |cons c r=>
  rw[e,NU] at a
  rw[pX,decide_eq_false (by lia)]
  rfl
theorem rN(e:cp x=c::r)(h:x.length<=12):kh x=(decide (c∈k_)&&(cp x).all fS):=by
 have a:=dS x
 rw[e,NU] at a
 unfold kh
 rw[e,pX,decide_eq_true (by lia),PL]
 show(true&&decide (c∈k_)&&r.all fS)=(decide (c∈k_)&&((decide (c∈k_)||decide (c∈Fu))&&r.all fS))
 cases decide (c∈k_)<;>simp
theorem fv {a:Nat}(h:a<16):hashInt (a:Int)=a:=by
 have:∀a<16,hashInt ((a:Nat):Int)=a:=by decide+kernel
 exact this a h
theorem Fp(x:List Int):tupleKeyHash (bG P w) (iK x)=reduceHash (Builtin.Tuple.tupleHashOf (x.map hashInt)):=by
 unfold tupleKeyHash iK
 rw[Ol]
 rfl
theorem AH (l r c:Nat)(e:r<16)(f:c<16):GR (256*l+16*r+c)=reduceHash (Builtin.Tuple.tupleHashOf [(l:Int),(r:Int),(c:Int)]):=by
 have b:(256*l+16*r+c)/256=l:=by omega
 have a:(256*l+16*r+c)/16%16=r:=by omega
 have d:(256*l+16*r+c)%16=c:=by omega
 unfold GR
 rw[b,a,d]
theorem LL(l r c:Nat)(d:l<16)(a:r<16)(b:c<16):tupleKeyHash (bG P w) (iK [(l:Int),(r:Int),(c:Int)])=GR (256*l+16*r+c):=by
 rw[Fp,AH l r c a b,NQ,NQ,NQ,OA,fv d,fv a,fv b]
abbrev P3:=Nat×Nat×Nat
def t3 (p:P3):T3:=[(p.1:Int),(p.2.1:Int),(p.2.2:Int)]
theorem DW(h:t3 p=t3 q):p=q:=by
 obtain⟨a,b,c⟩:=p
 obtain⟨d,e,f⟩:=q
 unfold t3 at h
 simp only[List.cons.injEq,and_true] at h
 obtain⟨h1,h2,g⟩:=h
 have h1:a=d:=Int.ofNat.inj h1
 have h2:b=e:=Int.ofNat.inj h2
 have g:c=f:=Int.ofNat.inj g
 rw[h1,h2,g]
abbrev A3 (H:Hp) (a:Addr) (p:P3):Prop:=H a=some (.tup ((t3 p).map V.int))
def AL (H:Hp) (l:Addr) (ps:List P3):Prop:=∃as:List Addr,H l=some (.lst (as.map V.ref))/\dw H as (ps.map t3)
theorem AL.same(h:AL H l ps)(s:au H H'):AL H' l ps:=by
 obtain⟨as,h1,h2⟩:=h
 exact⟨as,s _ _ h1,dw.same h2 s⟩
def In (z p:P3):Prop:=p.1<z.1/\p.2.1<z.2.1/\p.2.2<z.2.2
instance (z p : P3) : Decidable (In z p) := by unfold In; infer_instance
def Sz (z:P3):Prop:=(1<=z.1/\z.1<=4)/\(1<=z.2.1/\z.2.1<=16)/\(1<=z.2.2/\z.2.2<=16)
def ss (l:List Nat):Str:=⟨l.toArray⟩
theorem cU (l:List Nat):cp (ss l)=l:=by unfold ss cp;simp
theorem wH (x:Str):ss (cp x)=x:=DY (cU _)
theorem nM(h:cp x=l):x=ss l:=by rw[<-h,wH]
def cu (p:P3):List Nat:=jl 46 [dg p.1,dg p.2.1,dg p.2.2]
def sv (w:List Nat):V:=.str (ss w)
abbrev WL (H:Hp) (l:Addr) (ws:List (List Nat)):Prop:=H l=some (.lst (ws.map sv))
noncomputable def sf (l:List Nat):Bool:=decide (1<=l.length)&&decide (l.length<=18)&&l.all (λc=>decide (48<=c)&&decide (c<=57))&&(!decide (l[0]?=some 48)||decide (l.length=1))
theorem kZ:sf l=true↔nE l:=by
 unfold sf nE
 simp only[N8,Qq,Pp,decide_eq_true_iff,decide_eq_false_iff_not,Oa]
 constructor
 ·rintro⟨⟨⟨h1,h2⟩,a⟩,b⟩
  exact⟨h1,h2,a,λe=>b.resolve_left λz=>z e⟩
 ·rintro⟨h1,h2,a,b⟩
  refine⟨⟨⟨h1,h2⟩,a⟩,?_⟩
  by_cases e:l[0]?=some 48
  ·exact .inr (b e)
  ·exact .inl e
theorem Cb:sf l=false↔qx l:=by
 constructor
 ·intro h
  rcases xx l with g|b
  ·rw[kZ.mpr g] at h;cases h
  ·exact b
 ·intro b
  cases h:sf l with
  |false=>rfl
  |true=>exact(BE (kZ.mp h) b).elim
noncomputable def iN (l:List Nat):Option Nat:=if sf l then some (NumText.digitsVal l) else none
def sX (ws:List Str) (x:Str):Prop:=∃y z,cp x=y++z/\wf y=ws.map cp/\59∉y/\(z=[]\/z.head?=some 59)/\(∀c∈cp x,c≠10/\c<128)/\(cp x).length<=100
noncomputable def iz (W:List (List Str)):List (List Str×Nat):=W.zipIdx.filter λp=>!p.1.isEmpty
theorem Ag (W:List (List Str))(ws:List Str):iz (W++[ws])=iz W++(if ws.isEmpty then [] else [(ws,W.length)]):=by
 unfold iz
 rw[List.zipIdx_append,Qe]
 congr 1
 cases ws<;>simp
def Hb (H:Hp) (c:List Addr) (p:List Str×Nat) (v:V):Prop:=∃a b,v=.ref a/\H a=some (.tup [.int ((p.2+1:Nat):Int),.ref b])/\H b=some (.lst (p.1.map V.str))/\b∉c
def fG (H:Hp) (a:List Addr) (ps:List (List Str×Nat)) (vs:List V):Prop:=vs.length=ps.length/\∀(i:Nat) p,ps[i]?=some p->∃v,vs[i]?=some v/\Hb H a p v
inductive oY (vs:List V) (H:Hp) (Q:VK) (E:XK):Prop
 |mk (x:Str) (ws:List Str) (_:vs=[.str x]) (_:sX ws x) (_:∀l H',au H H'->H l=none->H' l=some (.lst (ws.map V.str))->Q (.ref l) H')
inductive rL (vs:List V) (H:Hp) (Q:VK) (E:XK):Prop
 |mk (x:Str) (rs:List (List Str×Str)) (_:vs=[.str x]) (_:rs≠[]) (_:rs.length<=100) (_:cp x=jl 10 (rs.map λp=>cp p.2)) (_:(∀p∈rs,sX p.1 p.2)) (_:(cp x).length<=20000) (_:∀l vs H',au H H'->H' l=some (.lst vs)->fG H' [l] (iz (rs.map (·.1))) vs->Q (.ref l) H')
theorem fG.nil (H:Hp)(a:List Addr):fG H a [] []:=⟨rfl,λi p h=>by cases h⟩
theorem fG.kept{ps:List (List Str×Nat)}(h:fG H av ps vs)(k:∀b o,b∉av->H b=some o->H' b=some o)(f:∀b xs,H b=some (.tup xs)->H' b=some (.tup xs))(kv:∀b o,H b=some o->b∉av->b∉av'):fG H' av' ps vs:=
 ⟨h.1,λi p e=>by
  obtain⟨v,j,a,b,rfl,g,c,d⟩:=h.2 i p e
  exact⟨_,j,a,b,rfl,f _ _ g,k _ _ d c,kv _ _ c d⟩⟩
theorem fG.snoc{ps:List (List Str×Nat)}{p:List Str×Nat}(h:fG H av ps vs)(b:Hb H av p v):fG H av (ps++[p]) (vs++[v]):=
 ⟨by rw[NM,NM,h.1];rfl,λi q e=>by
  by_cases hi:i<ps.length
  ·rw[Pk hi] at e
   obtain⟨u,d,c⟩:=h.2 i q e
   exact⟨u,by rw[Pk (by rw[h.1];exact hi)];exact d,c⟩
  ·have f:=e
   rw[OU (by lia)] at e
   have a:i - ps.length=0:=by
    rcases Qd (i - ps.length) with z|z
    ·exact z
    ·rw[List.getElem?_eq_none (by show 1<=_;exact z)] at e;cases e
   rw[a] at e
   cases e
   exact⟨v,by rw[OU (by rw[h.1];lia),h.1,a];rfl,b⟩⟩
def Cl (y:List Nat):Prop:=∀d∈y,d<128/\d≠59/\d≠10
theorem Cl.no(h:Cl y):59∉y:=λz=>(h 59 z).2.1 rfl
theorem sX.plain(h:wf (cp y)=ws.map cp)(c:Cl (cp y))(b:(cp y).length<=100):sX ws y:=⟨cp y,[],by simp,h,c.no,.inl rfl,λd a=>⟨(c d a).2.2,(c d a).1⟩,b⟩
theorem sX.tail(e:cp x=y++59::z)(h:wf y=ws.map cp)(c:Cl y)(b:∀d∈z,d≠10/\d<128)(a:(cp x).length<=100):sX ws x:=
 ⟨y,59::z,e,h,c.no,.inr rfl,λd hd=>by
  rw[e] at hd
  rcases Ot.mp hd with hd|hd
  ·exact⟨(c d hd).2.2,(c d hd).1⟩
  ·rcases NK.mp hd with rfl|hd
   ·decide
   ·exact b d hd,a⟩
theorem EB:oP (cp (Str.ofString ""))=false:=by rw[AJ];rfl
theorem Bu(h:s≠Str.ofString ""):oP (cp s)=true:=by
 cases e:cp s with
 |nil=>exact absurd (yz (by rw[e,AJ])) h
 |cons a r=>rfl
theorem DN {W:List (List Str)}(h:W[i]?=some ws):(W.take (i+1)).zipIdx=(W.take i).zipIdx++[(ws,i)]:=by
 have hi:i<W.length:=(Ov.mp h).1
 rw[Pa,h,List.zipIdx_append,N_,O4 (by lia)]
 simp
theorem pN {W:List (List Str)}(h:W[i]?=some ws):iz (W.take (i+1))=iz (W.take i)++(if ws.isEmpty then [] else [(ws,i)]):=by
 have hi:i<W.length:=(Ov.mp h).1
 rw[Pa,h]
 show iz (W.take i++[ws])=_
 rw[Ag,N_,O4 (by lia)]
theorem fG.more{tp:Addr}{ps:List (List Str×Nat)}(h:fG H [D] ps vs)(m:H D=some (.lst us))(l:au H H6)(d:H6 tp=none)(g:H6 wl=some (.lst (ws.map V.str)))(f:wl≠D)(p:n=((i+1:Nat):Int)){o:HO}:
  fG (upd (upd H6 tp (.tup [.int n,.ref wl])) D o) [D] (ps++[(ws,i)]) (vs++[.ref tp]):=by
 have a:tp≠D:=λz=>by rw[z,l _ _ m] at d;cases d
 have c:wl≠tp:=λz=>by rw[z,d] at g;cases g
 have up:∀b u,b≠D->H6 b=some u->upd (upd H6 tp (.tup [.int n,.ref wl])) D o b=some u:=λb u j e=>by rw[ay j,ay (aD e d)];exact e
 refine(h.kept (λb u j e=>up b u (λz=>j (by simp[z])) (l _ _ e)) (λb xs e=>up b _ (λz=>by rw[z,m] at e;cases e) (l _ _ e)) (λ_ _ _ z=>z)).snoc ⟨tp,wl,rfl,?_,up _ _ f g,by simpa using f⟩
 rw[ay a,ah,p]
theorem CF:∀{P:List (List Nat)},(∀p∈P,p.length<=100)->(jl c P).length<=101*P.length
 |[],_=>by show 0<=_;exact N9 _
 |[p],h=>by have:=h p N7;show p.length<=101*1;lia
 |p::q::r,h=>by
  have h1:=h p N7
  have h2:=CF (c:=c) (P:=q::r) λx a=>h x (NV _ a)
  rw[d_ (by simp),NM,NU]
  simp only[NU] at h2|-
  lia
theorem sX.len(h:sX ws x):x.length<=1000:=by
 obtain⟨_,_,_,_,_,_,_,h⟩:=h
 rw[dS] at h;lia
theorem AF {W:List (List Str)}{p:List Str×Nat}(h:p∈iz W):p.1∈W:=by
 have h1:=(Pd.mp h).1
 obtain⟨i,hi⟩:=List.getElem?_of_mem h1
 rw[List.getElem?_zipIdx] at hi
 cases e:W[i]? with
 |none=>rw[e] at hi;cases hi
 |some w=>
  rw[e] at hi
  have:(w,0+i)=p:=Option.some.inj hi
  rw[<-this];exact Oi e
theorem xf (W:List (List Str)):(iz W).length<=W.length:=by
 have h:=Qf (λp:List Str×Nat=>!p.1.isEmpty) W.zipIdx
 rw[List.length_zipIdx] at h
 exact h
def kE (L R C l r c:Int):Prop:=0<=l/\l<L/\0<=r/\r<R/\0<=c/\c<C
instance {L R C l r c : Int} : Decidable (kE L R C l r c) := by unfold kE; infer_instance
theorem Ln{L:Int}:(decide (0<=l)&&decide (l<L)&&(decide (0<=r)&&decide (r<R)&&(decide (0<=c)&&decide (c<C))))=decide (kE L R C l r c):=by
 rw[PB]
 simp only[N8,decide_eq_true_eq]
 unfold kE
 constructor<;>intro h<;>omega
def L8 (H:Hp) (a:Addr) (x y w:Int):Prop:=H a=some (.tup [.int x,.int y,.int w])
noncomputable def dd:List (List Int)->List (List Int)
 |[]=>[]
 |c::r=>if c∈dd r then dd r else c::dd r
set_option tactic.hygienic true in
theorem qC:∀(cs:List (List Int)) (c:List Int),c∈dd cs↔c∈cs
 |[],_=>Iff.rfl
 |a::r,c=>by
  have h:=qC r c
  have b:=qC r a
  unfold dd
  split
  ·rename_i hh
   rw[h,NK]
   exact⟨.inr,λx=>x.elim (λe=>e▸b.mp hh) id⟩
  ·rw[NK,NK,h]
set_option tactic.hygienic true in
theorem nJ:∀cs:List (List Int),(dd cs).Nodup
 |[]=>P1
 |a::r=>by
  unfold dd
  split
  ·exact nJ r
  ·rename_i hh
   exact OT.mpr ⟨hh,nJ r⟩
theorem Hc:∀cs:List (List Int),(dd cs).length<=cs.length
 |[]=>NI _
 |a::r=>by
  have:=Hc r
  unfold dd
  split<;>simp only[NU]<;>lia
set_option tactic.hygienic true in
theorem uN:∀cs:List (List Int),(dd cs).length=cs.length↔cs.Nodup
 |[]=>⟨λ_=>P1,λ_=>rfl⟩
 |a::r=>by
  have h:=uN r
  have h2:=Hc r
  have b:=qC r a
  unfold dd
  rw[OT]
  split
  ·rename_i hh
   simp only[NU]
   exact⟨λe=>by lia,λe=>absurd (b.mp hh) e.1⟩
  ·rename_i hh
   simp only[NU]
   exact⟨λe=>⟨λx=>hh (b.mpr x),h.mp (by lia)⟩,λe=>by rw[h.mpr e.2]⟩
abbrev Kv:=List (List dq×V)
structure Fd where
 z:P3
 ps:List (Nat×Nat)
 vs:List Nat
 rs:List P3
 ts:List (P3×Nat)
def Pr (n:Nat):Prop:=1<=n/\n<=1000000000000
structure Ht (g:Fd):Prop where
 z:Sz g.z
 pl:g.ps.length=g.z.1
 pp:∀p∈g.ps,Pr p.1/\Pr p.2
 vl:g.vs.length+1=g.z.1
 vv:∀v∈g.vs,Pr v
 ri:∀p∈g.rs,In g.z p
 rn:g.rs.Nodup
 ti:∀p∈g.ts,In g.z p.1/\p.2<=1000000000000
 tn:(g.ts.map (·.1)).Nodup
def Ib (a:List P3):Kv:=a.map λp=>(iK (t3 p),.bl true)
noncomputable def yR (a:List (P3×Nat)):Kv:=a.map λp=>(iK (t3 p.1),.int (p.2:Nat))
abbrev ni (ns:List Nat):List V:=ns.map λn=> .int (n:Nat)
def P2 (H:Hp) (a:Addr) (p:Nat×Nat):Prop:=H a=some (.tup [.int (p.1:Nat),.int (p.2:Nat)])
def wt (H:Hp) (l:Addr) (ps:List (Nat×Nat)):Prop:=∃as:List Addr,H l=some (.lst (as.map V.ref))/\Paired (P2 H) as ps
theorem wt.up{ps:List (Nat×Nat)}(h:wt H l ps)(u:∀xs,H l=some (.lst xs)->H' l=some (.lst xs))(s:∀b xs,H b=some (.tup xs)->H' b=some (.tup xs)):wt H' l ps:=by
 obtain⟨as,h1,h2⟩:=h
 exact⟨as,u _ h1,Paired.mapP h2 λ_ _ e=>s _ _ e⟩
noncomputable def M5:List Str:=["layer_prices", "via_prices", "rocks_told", "tolls_told", "is_rock"]
structure Nd (cF:Addr) (H:Hp) (p:Addr) (g:Fd) (dx:Addr) (fs:List (Str×V)) (a b c d e:Addr):Prop where
 ha:H p=some (.ins cF dx fs)
 f1:fs.lookup ("sizes" :Str)=some (.ref a)
 f2:fs.lookup ("prices" :Str)=some (.ref b)
 f3:fs.lookup ("vias" :Str)=some (.ref c)
 f4:fs.lookup ("rocks" :Str)=some (.ref d)
 f5:fs.lookup ("tolls" :Str)=some (.ref e)
 no:∀m∈M5,fs.lookup m=none
 z:A3 H a g.z
 pr:wt H b g.ps
 vi:H c=some (.lst (ni g.vs))
 rd:H d=some (.dT (Ib g.rs))
 td:H e=some (.dT (yR g.ts))
def MN (f:Addr) (H:Hp) (p:Addr) (g:Fd):Prop:=∃dx fs a b c d e,Nd f H p g dx fs a b c d e
inductive Rw
 |floor (z:P3)
 |layer (a b:Nat)
 |via (a:Nat)
 |rock (p q:P3)
 |toll (n:Nat) (p q:P3)
 |net (x:List Nat) (h r:Nat) (cs:List P3)
 |bun (x:List Nat) (r:Nat) (cs ds:List P3)
noncomputable def kd:Rw->Nat
 | .floor _=>0
 | .layer _ _=>1
 | .via _=>2
 | .rock _ _=>3
 | .toll _ _ _=>4
 | .net _ _ _ _=>5
 | .bun _ _ _ _=>6
noncomputable def kS (k:Nat):Str:=if k=0 then Str.ofString "floor" else if k=1 then Str.ofString "layer" else if k=2 then Str.ofString "via" else if k=3 then Str.ofString "rock" else if k=4 then Str.ofString "toll" else if k=5 then Str.ofString "net" else Str.ofString "bundle"
theorem Dy:∀k,k<=6->∀j,j<=6->decide (kS k=kS j)=decide (k=j):=by decide+kernel
theorem Dh (r:Rw):kd r<=6:=by cases r<;>simp[kd]
def Wd (w:List Nat):Prop:=(∀c∈w,c<128)/\w.length<=100
def jB (ws:List (List Nat)):Prop:=(∀w∈ws,Wd w)/\ws.length<=200
noncomputable def fu {c d:Type} (f:c->Option d):List c->Option (List d)
 |[]=>some []
 |a::l=>match f a,fu f l with
  |some b,some bs=>some (b::bs)
  |_,_=>none
noncomputable def dN (w:List Nat):Option P3:=match gS 46 w with
 |[a,b,c]=>match iN a,iN b,iN c with
  |some x,some y,some z=>some (x,y,z)
  |_,_,_=>none
 |_=>none
noncomputable def dC (ws:List (List Nat)) (k:Nat):Option (List Nat):=if ws.length=k then fu iN ws else none
noncomputable def sZ:List P3->Option (P3×P3)
 |[p]=>some (p,p)
 |[p,q]=>some (p,q)
 |_=>none
noncomputable def lL (ws:List (List Nat)):Option (P3×P3):=match fu dN ws with
 |some ps=>sZ ps
 |none=>none
noncomputable def sI (ws:List (List Nat)):Option Rw:=match dC (ws.take 1) 1,lL (ws.drop 1) with
 |some [n],some (p,q)=>some (.toll n p q)
 |_,_=>none
noncomputable def Dz (ws:List (List Nat)):Option Rw:=match dC ((ws.drop 1).take 2) 2,fu dN (ws.drop 3) with
 |some [h,r],some cs=>some (.net (ws.headD []) h r cs)
 |_,_=>none
def il:List Nat:=[116,111]
noncomputable def AX (ws:List (List Nat)):Option Rw:=match dC ((ws.drop 1).take 1) 1 with
 |some [r]=>if (ws.drop 2).count il=1 then (match fu dN ((ws.drop 2).takeWhile (· !=il)),fu dN (((ws.drop 2).dropWhile (· !=il)).drop 1) with
  |some cs,some ds=>some (.bun (ws.headD []) r cs ds)
  |_,_=>none) else none
 |_=>none
noncomputable def gK (k:List Nat) (ws:List (List Nat)):Option Rw:=
 if k=cp (kS 0) then (match dC ws 3 with|some [a,b,c]=>some (.floor (a,b,c))|_=>none)
 else if k=cp (kS 1) then (match dC ws 2 with|some [a,b]=>some (.layer a b)|_=>none)
 else if k=cp (kS 2) then (match dC ws 1 with|some [a]=>some (.via a)|_=>none)
 else if k=cp (kS 3) then (match lL ws with|some (p,q)=>some (.rock p q)|none=>none)
 else if k=cp (kS 4) then sI ws
 else if k=cp (kS 5) then Dz ws
 else if k=cp (kS 6) then AX ws
 else none
noncomputable def EJ {b:Type} (R:V->b->Prop) (v:V):Option b->Prop
 |none=>v=.non
 |some a=>v≠.non/\R v a
def LY (H:Hp) (v:V) (p:P3):Prop:=∃t,v=.ref t/\A3 H t p
def NC (H:Hp) (v:V) (ns:List Nat):Prop:=∃t,v=.ref t/\H t=some (.tup (ns.map λn=> .int (n:Nat)))
def Nc (H0 H:Hp) (v:V) (ps:List P3):Prop:=∃l,v=.ref l/\H0 l=none/\AL H l ps
def M8 (H:Hp) (v:V) (c:P3×P3):Prop:=∃t a b,v=.ref t/\H t=some (.tup [.ref a,.ref b])/\A3 H a c.1/\A3 H b c.2
noncomputable def Pt (A:Addr->Prop) (H:Hp) (v:V):Rw->Prop
 | .floor z=>LY H v z
 | .layer a b=>∃t,v=.ref t/\H t=some (.tup [.int (a:Nat),.int (b:Nat)])
 | .via a=>∃t,v=.ref t/\H t=some (.tup [.int (a:Nat)])
 | .rock p q=>M8 H v (p,q)
 | .toll n p q=>∃t a b,v=.ref t/\H t=some (.tup [.int (n:Nat),.ref a,.ref b])/\A3 H a p/\A3 H b q
 | .net x h r cs=>∃t l,v=.ref t/\H t=some (.tup [sv x,.int (h:Nat),.int (r:Nat),.ref l])/\AL H l cs/\A l
 | .bun x r cs ds=>∃t l m,v=.ref t/\H t=some (.tup [sv x,.int (r:Nat),.ref l,.ref m])/\AL H l cs/\AL H m ds/\A l/\A m
theorem Pt.up {A B:Addr->Prop}(h:Pt A H v r)(s:∀b xs,H b=some (.tup xs)->H' b=some (.tup xs))(u:∀b xs,A b->H b=some (.lst xs)->H' b=some (.lst xs))(i:∀b xs,A b->H b=some (.lst xs)->B b):Pt B H' v r:=by
 have al:∀{l cs},AL H l cs->A l->AL H' l cs/\B l:=λ⟨as,h1,h2⟩ a=>⟨⟨as,u _ _ a h1,Paired.mapP h2 λ_ _ e=>s _ _ e⟩,i _ _ a h1⟩
 cases r with
 |floor z=>obtain⟨t,e,h⟩:=h;exact⟨t,e,s _ _ h⟩
 |layer a b=>obtain⟨t,e,h⟩:=h;exact⟨t,e,s _ _ h⟩
 |via a=>obtain⟨t,e,h⟩:=h;exact⟨t,e,s _ _ h⟩
 |rock p q=>obtain⟨t,a,b,e,h,h1,h2⟩:=h;exact⟨t,a,b,e,s _ _ h,s _ _ h1,s _ _ h2⟩
 |toll n p q=>obtain⟨t,a,b,e,h,h1,h2⟩:=h;exact⟨t,a,b,e,s _ _ h,s _ _ h1,s _ _ h2⟩
 |net x g r cs=>obtain⟨t,l,e,h,h1,h2⟩:=h;exact⟨t,l,e,s _ _ h,al h1 h2⟩
 |bun x r cs ds=>obtain⟨t,l,m,e,h,h1,h2,d,c⟩:=h;exact⟨t,l,m,e,s _ _ h,(al h1 d).1,(al h2 c).1,(al h1 d).2,(al h2 c).2⟩
theorem Pt.same {A:Addr->Prop}(h:Pt A H v r)(s:au H H'):Pt A H' v r:=h.up (λ_ _ e=>s _ _ e) (λ_ _ _ e=>s _ _ e) λ_ _ a _=>a
def TD (A:Addr->Prop) (H:Hp) (v:V) (r:Rw):Prop:=∃t u,v=.ref t/\H t=some (.tup [.str (kS (kd r)),u])/\Pt A H u r
theorem TD.up {A B:Addr->Prop}(h:TD A H v r)(s:∀b xs,H b=some (.tup xs)->H' b=some (.tup xs))(u:∀b xs,A b->H b=some (.lst xs)->H' b=some (.lst xs))(i:∀b xs,A b->H b=some (.lst xs)->B b):TD B H' v r:=by
 obtain⟨t,w,e,h1,h2⟩:=h
 exact⟨t,w,e,s _ _ h1,h2.up s u i⟩
theorem TD.same {A:Addr->Prop}(h:TD A H v r)(s:au H H'):TD A H' v r:=h.up (λ_ _ e=>s _ _ e) (λ_ _ _ e=>s _ _ e) λ_ _ a _=>a
def F5:Option Nat->V
 |none=> .non
 |some n=> .int (n:Nat)
inductive AV (K:NJ) (vs:List V) (H:Hp) (Q:VK) (E:XK):Prop
 |mk (a:Addr) (ns:List Int) (i:Int) (_:vs=[.ref a,.int i]) (_:bf K H a (ns.map V.int)) (_:0<=i) (_:∀v:Int,Q (.int v) H)
inductive mv (vs:List V) (H:Hp) (Q:VK) (E:XK):Prop
 |mk (w:Str) (_:vs=[.str w]) (_:Pl w) (_:(nE (cp w)/\∀H',au H H'->Q (.int (NumText.digitsVal (cp w):Nat)) H')\/(qx (cp w)/\∀H',au H H'->Q .non H'))
inductive rQ (vs:List V) (H:Hp) (Q:VK) (E:XK):Prop
 |mk (w:List Nat) (_:vs=[sv w]) (_:Wd w) (_:∀v H',au H H'->EJ (LY H') v (dN w)->Q v H')
inductive gW (K:NJ) (vs:List V) (H:Hp) (Q:VK) (E:XK):Prop
 |mk (l:Addr) (ws:List (List Nat)) (k:Nat) (_:vs=[.ref l,.int (k:Nat)]) (_:WL H l ws) (_:jB ws) (_:∀v H',au H H'->EJ (NC H') v (dC ws k)->Q v H')
inductive jW (K:NJ) (vs:List V) (H:Hp) (Q:VK) (E:XK):Prop
 |mk (l:Addr) (ws:List (List Nat)) (_:vs=[.ref l]) (_:WL H l ws) (_:jB ws) (_:∀v H',au H H'->EJ (Nc H H') v (fu dN ws)->Q v H')
inductive kK (vs:List V) (H:Hp) (Q:VK) (E:XK):Prop
 |mk (l:Addr) (ws:List (List Nat)) (_:vs=[.ref l]) (_:WL H l ws) (_:jB ws) (_:∀v H',au H H'->EJ (M8 H') v (lL ws)->Q v H')
inductive HF (f:List (List Nat)->Option Rw) (vs:List V) (H:Hp) (Q:VK) (E:XK):Prop
 |mk (l:Addr) (ws:List (List Nat)) (_:vs=[.ref l]) (_:WL H l ws) (_:jB ws) (_:∀v H',au H H'->EJ (Pt (λl=>H l=none) H') v (f ws)->Q v H')
def w8:Sp:=HF sI
def DG:Sp:=HF Dz
def AS:Sp:=HF AX
inductive C5 (vs:List V) (H:Hp) (Q:VK) (E:XK):Prop
 |mk (l:Addr) (k:List Nat) (ws:List (List Nat)) (_:vs=[sv k,.ref l]) (_:WL H l ws) (_:jB ws) (_:∀v H',au H H'->EJ (Pt (λl=>H l=none) H') v (gK k ws)->Q v H')
noncomputable def jh (ws:List (List Nat)):Option Rw:=gK (ws.headD []) ws.tail
noncomputable def gC:Bool->List (List Str×Nat)->Except Nat (List Rw)
 |_,[]=> .ok []
 |b,p::r=>match jh (p.1.map cp) with
  |none=> .error (p.2+1)
  |some w=>if decide (kd w=0)=b then (match gC false r with| .ok W=> .ok (w::W)| .error n=> .error n) else .error (p.2+1)
noncomputable def gv (W:List (List Str)):Except Nat (List Rw):=if iz W=[] then .error 1 else gC true (iz W)
def Pg (x:Str) (W:List (List Str)):Prop:=∃a:List (List Str×Str),W=a.map (·.1)/\a≠[]/\a.length<=100/\cp x=jl 10 (a.map λp=>cp p.2)/\(∀p∈a,sX p.1 p.2)/\(cp x).length<=20000
inductive mr (K:NJ) (vs:List V) (H:Hp) (Q:VK) (E:XK):Prop
 |mk (x C f:Addr) (i:Nat) (_:vs=[.ref x,.int (i:Nat)]) (_:i<1000) (_:H x=some (uk x (.ref C) none)) (_:IY K C f) (_:mO K C "row") (_:∀d,H d=none->d≠x->Q .non (upd (upd H x (uk x (.ref C) (some d))) d (.xd [("row",.int (i:Nat))])))
inductive qI (cB:Addr) (vs:List V) (H:Hp) (Q:VK) (E:XK):Prop
 |mk (x:Str) (W:List (List Str)) (_:vs=[.str x]) (_:Pg x W) (_:∀n,gv W=.error n->∀d H',au H H'->H' d=some (.xd [("row",.int (n:Nat))])->E (.ref cB) (some d) H') (_:∀R,gv W=.ok R->∀l us H',au H H'->H' l=some (.lst us)->Paired (TD (λ_=>True) H') us R->Q (.ref l) H')
noncomputable def fk (k:Nat) (W:List Rw):List Rw:=W.filter λr=>decide (kd r=k)
inductive ua (vs:List V) (H:Hp) (Q:VK) (E:XK):Prop
 |mk (l:Addr) (us:List V) (W:List Rw) (k:Nat) (_:vs=[.ref l,.str (kS k)]) (_:k<=6) (_:H l=some (.lst us)) (_:Paired (TD (λ_=>True) H) us W) (_:us.length<=1000) (_:∀p ws H',au H H'->H p=none->H' p=some (.lst ws)->Paired (Pt (λ_=>True) H') ws (fk k W)->Q (.ref p) H')
def Bn (n:Nat):Prop:=n<10^20
def gV (p:P3):Prop:=p.1<10^20/\p.2.1<10^20/\p.2.2<10^20
noncomputable def fY (m x:Nat):Bool:=decide (m<=x)&&decide (x<=1000000000000)
noncomputable def oK (z:P3) (m n:Nat):Bool:=decide ((1<=z.1/\z.1<=4)/\(1<=z.2.1/\z.2.1<=16)/\(1<=z.2.2/\z.2.2<=16))&&(decide (m=z.1)&&decide (n+1=z.1))
noncomputable def D9 (ps:List (Nat×Nat)) (ns:List Nat):Bool:=ps.all (λp=>fY 1 p.1&&fY 1 p.2)&&ns.all (fY 1)
inductive nW (vs:List V) (H:Hp) (Q:VK) (E:XK):Prop
 |mk (a b:Addr) (L R C l r c:Int) (_:vs=[.ref a,.ref b]) (_:L8 H a L R C) (_:L8 H b l r c) (_:Q (.bl (decide (kE L R C l r c))) H)
inductive je (cO:Addr) (vs:List V) (H:Hp) (Q:VK) (E:XK):Prop
 |mk (a b:Addr) (z p:P3) (_:vs=[.ref a,.ref b]) (_:A3 H a z) (_:A3 H b p) (_:gV z) (_:gV p) (_:In z p->Q .non H) (_:¬In z p->E (.ref cO) none H)
inductive om (cS:Addr) (vs:List V) (H:Hp) (Q:VK) (E:XK):Prop
 |mk (a pr vi:Addr) (z:P3) (us ws:List V) (_:vs=[.ref a,.ref pr,.ref vi]) (_:A3 H a z) (_:gV z) (_:H pr=some (.lst us)) (_:H vi=some (.lst ws)) (_:oK z us.length ws.length=true->∀H',au H H'->Q .non H') (_:oK z us.length ws.length=false->∀H',au H H'->E (.ref cS) none H')
inductive n_ (cP:Addr) (vs:List V) (H:Hp) (Q:VK) (E:XK):Prop
 |mk (x m:Nat) (_:vs=[.int (x:Nat),.int (m:Nat)]) (_:Bn x) (_:Bn m) (_:fY m x=true->Q .non H) (_:fY m x=false->E (.ref cP) none H)
inductive kH (cP:Addr) (vs:List V) (H:Hp) (Q:VK) (E:XK):Prop
 |mk (pr vi d:Addr) (ps:List (Nat×Nat)) (ns:List Nat) (kvs:Kv) (_:vs=[.ref pr,.ref vi,.ref d]) (_:wt H pr ps) (_:∀p∈ps,Bn p.1/\Bn p.2) (_:H vi=some (.lst (ni ns))) (_:∀v∈ns,Bn v) (_:H d=some (.dT kvs)) (_:(∀kv∈kvs,∃n:Nat,kv.2=.int (n:Nat)/\n<=1000000000000)) (_:D9 ps ns=true->∀H',au H H'->Q .non H') (_:D9 ps ns=false->∀H',au H H'->E (.ref cP) none H')
inductive qj (cF:Addr) (vs:List V) (H:Hp) (Q:VK) (E:XK):Prop
 |mk (p dx z pr vi ro td:Addr) (g:Fd) (_:vs=[.ref p,.ref z,.ref pr,.ref vi,.ref ro,.ref td]) (_:H p=some (.ins cF dx [])) (_:Ht g) (_:g.rs.length<=1000) (_:A3 H z g.z) (_:wt H pr g.ps) (_:H vi=some (.lst (ni g.vs))) (_:AL H ro g.rs) (_:H td=some (.dT (yR g.ts))) (_:∀H',bQ H H' p->MN cF H' p g->Q .non H')
noncomputable def ui (a b:Nat):List Nat:=List.range' (min a b) (max a b - min a b+1)
theorem FG (a b:Nat):(ui a b).length=max a b - min a b+1:=by unfold ui;simp
noncomputable def uT (f s:P3) (a b:Nat):List P3:=(ui f.2.2 s.2.2).map λc=>(a,b,c)
noncomputable def Au (f s:P3) (a:Nat):List P3:=(ui f.2.1 s.2.1).flatMap λb=>uT f s a b
noncomputable def bx (f s:P3):List P3:=(ui f.1 s.1).flatMap λa=>Au f s a
def r_ (m:V) (a:Kv) (p:P3):Kv:=gO a (iK (t3 p)) m
noncomputable def Lb (a:Kv) (b:V×P3×P3):Kv:=(bx b.2.1 b.2.2).foldl (r_ b.1) a
def mk (bs:List (V×P3×P3)):Kv:=bs.foldl Lb []
def jR (p:P3):Prop:=p.1<16/\p.2.1<16/\p.2.2<16
inductive GN (vs:List V) (H:Hp) (Q:VK) (E:XK):Prop
 |mk (a b:Nat) (_:vs=[.int (a:Nat),.int (b:Nat)]) (_:a<16) (_:b<16) (_:∀l H',au H H'->H l=none->H' l=some (.lst ((ui a b).map λn=> .int (n:Nat)))->Q (.ref l) H')
inductive GV (vs:List V) (H:Hp) (Q:VK) (E:XK):Prop
 |mk (b c:Addr) (f s:P3) (_:vs=[.ref b,.ref c]) (_:A3 H b f) (_:A3 H c s) (_:jR f) (_:jR s) (_:∀l H',au H H'->H l=none->AL H' l (bx f s)->Q (.ref l) H')
def MB (H:Hp) (v:V) (b:V×P3×P3):Prop:=∃t x y,v=.ref t/\H t=some (.tup [b.1,.ref x,.ref y])/\A3 H x b.2.1/\A3 H y b.2.2
theorem MB.same(h:MB H v b)(s:au H H'):MB H' v b:=by
 obtain⟨t,x,y,e,h1,h2,a⟩:=h
 exact⟨t,x,y,e,s _ _ h1,s _ _ h2,s _ _ a⟩
inductive tD (vs:List V) (H:Hp) (Q:VK) (E:XK):Prop
 |mk (l:Addr) (us:List V) (bs:List (V×P3×P3)) (_:vs=[.ref l]) (_:H l=some (.lst us)) (_:Paired (MB H) us bs) (_:(∀b∈bs,jR b.2.1/\jR b.2.2)) (_:bs.length<=200) (_:∀d H',au H H'->H d=none->H' d=some (.dT (mk bs))->Q (.ref d) H')
noncomputable def oM:Rw->Option (Nat×Nat)
 | .layer a b=>some (a,b)
 |_=>none
def lQ:Rw->Option Nat
 | .via a=>some a
 |_=>none
noncomputable def vq:Rw->Option (V×P3×P3)
 | .rock p q=>some (.bl true,p,q)
 |_=>none
noncomputable def rH:Rw->Option (V×P3×P3)
 | .toll n p q=>some (.int (n:Nat),p,q)
 |_=>none
def vO:Rw->Option Nat
 | .toll n _ _=>some n
 |_=>none
abbrev Mm (cs:List P3):Prop:=cs.length<=50/\(cs.length<=6->cs.length<=4)
abbrev Jm (cs ds:List P3):Prop:=cs.length+ds.length<=50/\(cs.length<=6->cs.length<=ds.length->ds.length<=12->cs.length+ds.length<=4)
noncomputable def RB:Rw->Prop
 | .floor z=>gV z
 | .layer a b=>Bn a/\Bn b
 | .via a=>Bn a
 | .rock p q=>gV p/\gV q
 | .toll n p q=>Bn n/\gV p/\gV q
 | .net x h r cs=>Wd x/\Bn h/\Bn r/\Mm cs/\∀c∈cs,gV c
 | .bun x r cs ds=>Wd x/\Bn r/\Jm cs ds/\∀c∈cs++ds,gV c
noncomputable def mj (z:P3) (W:List Rw):Bool:=oK z (W.filterMap oM).length (W.filterMap lQ).length
noncomputable def pM (W:List Rw):Bool:=D9 (W.filterMap oM) (W.filterMap lQ)&&(W.filterMap vO).all (fY 0)
noncomputable def Ai (z:P3) (b:V×P3×P3):Bool:=decide (In z b.2.1)&&decide (In z b.2.2)
noncomputable def xq (z:P3) (W:List Rw):Bool:=(W.filterMap vq++W.filterMap rH).all (Ai z)
noncomputable def JI (z:P3) (W:List Rw) (p q:P3) (n:Nat):Fd:=⟨z,W.filterMap oM,W.filterMap lQ,[p],[(q,n)]⟩
inductive tf (cF cS cP cO:Addr) (vs:List V) (H:Hp) (Q:VK) (E:XK):Prop
 |mk (l:Addr) (us:List V) (z:P3) (W:List Rw) (_:vs=[.ref l]) (_:H l=some (.lst us)) (_:Paired (TD (λ_=>True) H) us (.floor z::W)) (_:us.length<=100) (_:∀r∈(.floor z::W:List Rw),RB r)
  (_:mj z W=false->∀H',au H H'->E (.ref cS) none H') (_:mj z W=true->pM W=false->∀H',au H H'->E (.ref cP) none H') (_:mj z W=true->pM W=true->xq z W=false->∀H',au H H'->E (.ref cO) none H')
  (_:mj z W=true->pM W=true->xq z W=true->∃p q n,W.filterMap vq=[(.bl true,p,p)]/\W.filterMap rH=[(.int ((n:Nat):Int),q,q)]/\W.filterMap vO=[n]/\∀f H',au H H'->H f=none->MN cF H' f (JI z W p q n)->Q (.ref f) H')
theorem E6 {x:Str}(h:x.cps.all (· <128)=true):∀c∈x.cps.toList,c<16^8:=λc a=>Oc (by rw[<-Array.all_toList,Oa] at h;exact of_decide_eq_true (h c a)) (by decide)
noncomputable def kR (x:Str) (h r:Nat):Bool:=kh x&&(decide (h<=2)&&decide (r<=3))
noncomputable def jm (x:Str) (h r:Nat) (cs:List P3):Bool:=kR x h r&&((decide (2<=cs.length)&&decide (cs.length<=6))&&decide cs.Nodup)
noncomputable def f_ (x:Str) (r:Nat) (cs ds:List P3):Bool:=kR x 0 r&&((decide (1<=cs.length)&&decide (cs.length<=6))&&((decide (cs.length<=ds.length)&&decide (ds.length<=12))&&decide (cs++ds).Nodup))
def sS (ps:List P3):Prop:=∀a∈ps,∀b∈ps,fN (t3 a)=fN (t3 b)->a=b
def Eo (H:Hp) (t:Addr) (ps:List P3):Prop:=∃as:List Addr,H t=some (.tup (as.map V.ref))/\dw H as (ps.map t3)
structure Hs (fs:List (Str×V)) (x:Str) (h r:Nat):Prop where
 few:fs.length<=5
 name:fs.lookup ("name" :Str)=some (.str x)
 half:fs.lookup ("half" :Str)=some (.int (h:Nat))
 room:fs.lookup ("room" :Str)=some (.int (r:Nat))
 ends:fs.lookup ("ends" :Str)=none
theorem Hs.put {fs:List (Str×V)}(b:Hs fs x h r)(hf:fs.length<=4)(h1:("name" :Str)≠f)(c:("half" :Str)≠f)(a:("room" :Str)≠f)(d:("ends" :Str)≠f):Hs (fc f v fs) x h r:=
 ⟨NP (bN f v fs) (by lia),by rw[aQ,if_neg h1];exact b.name,by rw[aQ,if_neg c];exact b.half,by rw[aQ,if_neg a];exact b.room,by rw[aQ,if_neg d];exact b.ends⟩
def NA (a:Addr) (H:Hp) (p:Addr) (x:Str) (h r:Nat) (ps:List P3):Prop:=∃(dx:Addr) (fs:List (Str×V)) (t:Addr),H p=some (.ins a dx fs)/\Hs fs x h r/\fs.lookup ("pins" :Str)=some (.ref t)/\Eo H t ps
def BA (b:Addr) (H:Hp) (p:Addr) (x:Str) (r:Nat) (ps a:List P3):Prop:=∃(dx:Addr) (fs:List (Str×V)) (t u:Addr),H p=some (.ins b dx fs)/\Hs fs x 0 r/\fs.lookup ("starts" :Str)=some (.ref t)/\fs.lookup ("goals" :Str)=some (.ref u)/\Eo H t ps/\Eo H u a
inductive DB (vs:List V) (H:Hp) (Q:VK) (E:XK):Prop
 |mk (x:Str) (_:vs=[.str x]) (_:K9 x) (_:∀H',au H H'->Q (.bl (kh x)) H')
inductive mJ (cT:Addr) (vs:List V) (H:Hp) (Q:VK) (E:XK):Prop
 |mk (l:Addr) (ps:List P3) (_:vs=[.ref l]) (_:AL H l ps) (_:sS ps) (_:ps.length<=4) (_:ps.Nodup->∀H',au H H'->Q .non H') (_:¬ps.Nodup->∀H',au H H'->E (.ref cT) none H')
inductive my (cN cB cT:Addr) (vs:List V) (H:Hp) (Q:VK) (E:XK):Prop
 |mk (p C dx:Addr) (x:Str) (h r:Nat) (_:vs=[.ref p,.str x,.int (h:Nat),.int (r:Nat)]) (_:H p=some (.ins C dx [])) (_:(C=cN\/C=cB)) (_:K9 x) (_:Bn h) (_:Bn r) (_:kR x h r=true->∀H' fs,bQ H H' p->H' p=some (.ins C dx fs)->Hs fs x h r->fs.length<=3->Q .non H') (_:kR x h r=false->∀H',bQ H H' p->E (.ref cT) none H')
inductive qH (cN cT:Addr) (vs:List V) (H:Hp) (Q:VK) (E:XK):Prop
 |mk (p dx l:Addr) (x:Str) (h r:Nat) (ps:List P3) (_:vs=[.ref p,.str x,.ref l,.int (h:Nat),.int (r:Nat)]) (_:H p=some (.ins cN dx [])) (_:AL H l ps) (_:sS ps) (_:Mm ps) (_:K9 x) (_:Bn h) (_:Bn r) (_:jm x h r ps=true->∀H',bQ H H' p->NA cN H' p x h r ps->Q .non H') (_:jm x h r ps=false->∀H',bQ H H' p->E (.ref cT) none H')
inductive rD (cB cT:Addr) (vs:List V) (H:Hp) (Q:VK) (E:XK):Prop
 |mk (p dx l m:Addr) (x:Str) (r:Nat) (ps qs:List P3) (_:vs=[.ref p,.str x,.ref l,.ref m,.int (r:Nat)]) (_:H p=some (.ins cB dx [])) (_:AL H l ps) (_:AL H m qs) (_:sS (ps++qs)) (_:Jm ps qs) (_:K9 x) (_:Bn r) (_:f_ x r ps qs=true->∀H',bQ H H' p->BA cB H' p x r ps qs->Q .non H') (_:f_ x r ps qs=false->∀H',bQ H H' p->E (.ref cT) none H')
inductive mH (cN:Addr) (vs:List V) (H:Hp) (Q:VK) (E:XK):Prop
 |mk (p dx t:Addr) (fs:List (Str×V)) (as:List Addr) (_:vs=[.ref p]) (_:H p=some (.ins cN dx fs)) (_:fs.lookup ("pins" :Str)=some (.ref t)) (_:H t=some (.tup (as.map V.ref))) (_:∀H' l,au H H'->H l=none->H' l=some (.lst (as.map V.ref))->Q (.ref l) H')
inductive lX (cB:Addr) (vs:List V) (H:Hp) (Q:VK) (E:XK):Prop
 |mk (p dx t u:Addr) (fs:List (Str×V)) (as bs:List Addr) (_:vs=[.ref p]) (_:H p=some (.ins cB dx fs)) (_:fs.lookup ("starts" :Str)=some (.ref t)) (_:fs.lookup ("goals" :Str)=some (.ref u)) (_:H t=some (.tup (as.map V.ref))) (_:H u=some (.tup (bs.map V.ref))) (_:as.length+bs.length<=100) (_:∀H' l,au H H'->H l=none->H' l=some (.lst ((as++bs).map V.ref))->Q (.ref l) H')
structure Tn where
 nm:Str
 h:Nat
 r:Nat
 ss:List P3
 gs:List P3
abbrev Tn.es (g:Tn):List P3:=g.ss++g.gs
def Bf (b a:Addr) (H:Hp) (p:Addr) (g:Tn):Prop:=(g.gs=[]/\NA b H p g.nm g.h g.r g.ss)\/(g.gs≠[]/\g.h=0/\BA a H p g.nm g.r g.ss g.gs)
noncomputable def kJ:Rw->Option Tn
 | .net x h r cs=>some ⟨ss x,h,r,cs,[]⟩
 | .bun x r cs ds=>some ⟨ss x,0,r,cs,ds⟩
 |_=>none
noncomputable def lK:Rw->Bool
 | .net x h r cs=>jm (ss x) h r cs
 | .bun x r cs ds=>f_ (ss x) r cs ds
 |_=>true
noncomputable def Hi:Rw->Prop
 | .net _ _ _ cs=>sS cs
 | .bun _ _ cs ds=>sS (cs++ds)
 |_=>True
inductive sx (cN cB cT:Addr) (vs:List V) (H:Hp) (Q:VK) (E:XK):Prop
 |mk (v:V) (r:Rw) (g:Tn) (_:vs=[.str (kS (kd r)),v]) (_:Pt (λ_=>True) H v r) (_:kJ r=some g) (_:RB r) (_:Hi r) (_:lK r=true->∀p H',au H H'->H p=none->Bf cN cB H' p g->Q (.ref p) H') (_:lK r=false->∀H',au H H'->E (.ref cT) none H')
structure Mz (x:Str):Prop where
 hi:x.length<=12
structure LW (L R C:Int):Prop where
 l0:1<=L
 l1:L<=4
 r0:1<=R
 r1:R<=16
 c0:1<=C
 c1:C<=16
def Th (c d:Addr) (H:Hp) (p:Addr) (b a:Int):Prop:=∃C dx fs,H p=some (.ins C dx fs)/\(C=c\/C=d)/\fs.lookup ("half" :Str)=some (.int b)/\fs.lookup ("room" :Str)=some (.int a)
def mn (i j:Int):Int:=if j<i then j else i
def lo (p n:Int):Int:=mx 0 (p - n)
def hi (m p n:Int):Int:=mn (m - 1) (p+n)
theorem He(h0:0<=p)(h1:p<m)(a:0<=n):0<=lo p n/\lo p n<=p/\p - n<=lo p n/\p<=hi m p n/\hi m p n<=m - 1/\hi m p n<=p+n:=by
 unfold lo hi mx mn
 split<;>split<;>lia
theorem Lf(h0:0<=p)(h1:p<m)(a:0<=n)(h:n<=3\/m<=6):hi m p n+1 - lo p n<=7:=by
 unfold lo hi mx mn
 split<;>split<;>lia
def wd (m p n:Int):Nat:=(hi m p n+1 - lo p n).toNat
theorem Gx(h0:0<=p)(h1:p<m)(a:0<=n)(h:n<=3\/m<=6):wd m p n<=7:=by
 have:=Lf h0 h1 a h
 unfold wd
 lia
noncomputable def GS (x t l:Int) (w i:Nat):List V:=[.int x,.int (t+(i/w:Nat)),.int (l+(i%w:Nat))]
theorem xG {h w i:Nat}(hi:i<h*w):i/w<h/\i%w<w:=by
 have a:0<w:=by
  rcases Qd w with rfl|h
  ·rw[Nat.mul_zero] at hi;lia
  ·exact h
 exact⟨Nat.div_lt_of_lt_mul (by rw[Nat.mul_comm];exact hi),Nat.mod_lt _ a⟩
theorem Bg {w j i:Nat}(hi:i<w):(j*w+i)/w=j/\(j*w+i)%w=i:=by
 constructor
 ·rw[Nat.mul_comm,Nat.mul_add_div (by lia),Nat.div_eq_of_lt hi];rfl
 ·rw[Nat.mul_comm,Nat.mul_add_mod,Nat.mod_eq_of_lt hi]
instance {L R C l r c : Int} : Decidable (kE L R C l r c) := by unfold kE; infer_instance
abbrev kD:=Int×Int×Int
def tp (p:kD):List V:=[.int p.1,.int p.2.1,.int p.2.2]
def k3 (p:kD):List dq:=[.inl p.1,.inl p.2.1,.inl p.2.2]
theorem IG {p q:kD}(e:k3 p=k3 q):p=q:=by
 injection e with e1 e
 injection e with e2 e
 injection e with e3 _
 obtain⟨a,b,c⟩:=p
 obtain⟨a',b',c'⟩:=q
 have h1:a=a':=Sum.inl.inj e1
 have h2:b=b':=Sum.inl.inj e2
 have d:c=c':=Sum.inl.inj e3
 subst h1 h2 d;rfl
def DR (a:List (List dq×V)) (b:List kD):Prop:=∀p:kD,(fD a (k3 p)).isSome=decide (p∈b)
noncomputable def kv (a:List kD):List (List dq×V):=a.map λp=>(k3 p,.bl true)
def K0 (L R C:Int) (d:List kD) (h l r c:Int):Prop:=∀b a,r - h<=b->b<=r+h->c - h<=a->a<=c+h->kE L R C l b a/\(l,b,a)∉d
structure Fl (cF:Addr) (H:Hp) (p:Addr) (L R C:Int) (rs:List kD):Prop where
 ex:∃dx z d fs kvs,H p=some (.ins cF dx fs)/\fs.lookup ("sizes" :Str)=some (.ref z)/\fs.lookup ("rocks" :Str)=some (.ref d)/\fs.lookup ("is_rock" :Str)=none/\H z=some (.tup [.int L,.int R,.int C])/\H d=some (.dT kvs)/\DR kvs rs
theorem Fl.same{L:Int}{rs:List kD}(h:Fl cF H p L R C rs)(s:au H H'):Fl cF H' p L R C rs:=by
 obtain⟨dx,z,d,fs,a,h1,h2,f,b,c,g,e⟩:=h.ex
 exact⟨dx,z,d,fs,a,s _ _ h1,h2,f,b,s _ _ c,s _ _ g,e⟩
def JT (H:Hp) (x t l:Int) (w:Nat) (ps:List Addr):Prop:=∀(i:Nat) q,ps[i]?=some q->H q=some (.tup (GS x t l w i))
inductive tm (K:NJ) (vs:List V) (H:Hp) (Q:VK) (E:XK):Prop
 |mk (a b:Addr) (l r c x y z n:Int) (_:vs=[.ref a,.ref b,.int n]) (_:bY K H a [.int l,.int r,.int c]) (_:bY K H b [.int x,.int y,.int z]) (_:(0<=y/\y<r/\r<=1000000000000)) (_:(0<=z/\z<c/\c<=1000000000000)) (_:(0<=n/\n<=1000000000000000)) (_:(n<=3\/r<=6)) (_:(n<=3\/c<=6)) (_:∀(p:Addr) (ps:List Addr) (H':Hp),au H H'->H' p=some (.lst (ps.map V.ref))->ps.length=wd r y n*wd c z n->JT H' x (lo y n) (lo z n) (wd c z n) ps->Q (.ref p) H')
inductive Bx (cN cB cF:Addr) (vs:List V) (H:Hp) (Q:VK) (E:XK):Prop
 |mk (p t b:Addr) (L R C:Int) (rs:List kD) (half room:Int) (q:kD) (_:vs=[.ref p,.ref t,.ref b]) (_:Fl cF H p L R C rs) (_:LW L R C) (_:Th cN cB H t half room) (_:0<=half) (_:half<=2) (_:H b=some (.tup (tp q))) (_:∀(H':Hp) (k:Bool),au H H'->(k=true↔K0 L R C rs half q.1 q.2.1 q.2.2)->Q (.bl k) H')
theorem AM{L:Int}{a:List kD}(h0:0<=h)(n:¬kE L R C l (r - h) (c - h)):¬K0 L R C a h l r c:=λf=>n (f (r - h) (c - h) (by lia) (by lia) (by lia) (by lia)).1
theorem B1{L:Int}{a:List kD}(h0:0<=h)(n:¬kE L R C l (r+h) (c+h)):¬K0 L R C a h l r c:=λf=>n (f (r+h) (c+h) (by lia) (by lia) (by lia) (by lia)).1
theorem BR(h:0<=p - n):lo p n=p - n:=by unfold lo mx;split<;>lia
theorem JS(h:p+n<m):hi m p n=p+n:=by unfold hi mn;split<;>lia
theorem Gz(h0:0<=n)(h1:0<=p - n)(a:p+n<m):((wd m p n:Nat):Int)=2*n+1:=by unfold wd;rw[BR h1,JS a];lia
noncomputable def F_ (l t f:Int) (w i:Nat):kD:=(l,t+(i/w:Nat),f+(i%w:Nat))
theorem Hv {L R C h l r c:Int}{rs:List kD}{w:Nat}(J:(w:Int)=2*h+1)(o:kE L R C l (r - h) (c - h))(s:kE L R C l (r+h) (c+h)):
  K0 L R C rs h l r c↔∀i<w*w,F_ l (r - h) (c - h) w i∉rs:=by
 constructor
 ·intro f i hi
  obtain⟨B,N⟩:=xG hi
  have H:(0:Int)<=((i/w:Nat):Int):=QC _
  have x:(0:Int)<=((i%w:Nat):Int):=QC _
  exact(f (r - h+(i/w:Nat)) (c - h+(i%w:Nat)) (by lia) (by lia) (by lia) (by lia)).2
 ·intro f e g h1 h2 K F
  obtain⟨m,q,D,M,O,A⟩:=o
  obtain⟨E,b2,G,y,v,I⟩:=s
  refine⟨⟨m,q,by lia,by lia,by lia,by lia⟩,?_⟩
  obtain⟨j,u⟩:=OO (show 0<=e - (r - h) by lia)
  obtain⟨k,z⟩:=OO (show 0<=g - (c - h) by lia)
  have d:k<w:=by lia
  have b:j<w:=by lia
  have a:j*w+k<w*w:=by
   have:(j+1)*w<=w*w:=Nat.mul_le_mul_right w b
   rw[Nat.add_mul,Nat.one_mul] at this
   lia
  have:=f (j*w+k) a
  obtain⟨p,n⟩:=Bg (j:=j) d
  unfold F_ at this
  rw[p,n,show r - h+((j:Nat):Int)=e by lia,show c - h+((k:Nat):Int)=g by lia] at this
  exact this
theorem qk {L R C h l r c:Int}{w i:Nat}(q:(w:Int)=2*h+1)(d:kE L R C l (r - h) (c - h))(e:kE L R C l (r+h) (c+h))(hi:i<w*w):
  kE L R C (F_ l (r - h) (c - h) w i).1 (F_ l (r - h) (c - h) w i).2.1 (F_ l (r - h) (c - h) w i).2.2:=by
 obtain⟨y,x⟩:=xG hi
 have n:(0:Int)<=((i/w:Nat):Int):=QC _
 have o:(0:Int)<=((i%w:Nat):Int):=QC _
 obtain⟨a,b,f,u,z,v⟩:=d
 obtain⟨g,b2,j,p,m,s⟩:=e
 refine⟨a,b,?_,?_,?_,?_⟩
 ·show 0<=r - h+((i/w:Nat):Int);lia
 ·show r - h+((i/w:Nat):Int)<R;lia
 ·show 0<=c - h+((i%w:Nat):Int);lia
 ·show c - h+((i%w:Nat):Int)<C;lia
theorem Ff {f:Nat->Bool}:(!(((List.range n).map f).any id))=true↔∀i<n,f i=false:=by
 rw[Pp,List.any_eq_false]
 constructor
 ·intro h i hi
  have:=h (f i) (N0.mpr ⟨i,PR.mpr hi,rfl⟩)
  simpa using this
 ·intro h x a
  obtain⟨i,hi,rfl⟩:=N0.mp a
  rw[h i (PR.mp hi)];simp
def ab (i:Int):Int:=if i<0 then -i else i
noncomputable def KH (l r c d a b:Int):V:=if l=d then .int (mx (ab (r - a)) (ab (c - b))) else .non
inductive xA (vs:List V) (H:Hp) (Q:VK) (E:XK):Prop
 |mk (a b:Addr) (l r c l' r' c':Int) (_:vs=[.ref a,.ref b]) (_:H a=some (.tup [.int l,.int r,.int c])) (_:H b=some (.tup [.int l',.int r',.int c'])) (_:Q (KH l r c l' r' c') H)
inductive wL (cN cB:Addr) (vs:List V) (H:Hp) (Q:VK) (E:XK):Prop
 |mk (p q:Addr) (h1 r1 h2 r2:Int) (_:vs=[.ref p,.ref q]) (_:Th cN cB H p h1 r1) (_:Th cN cB H q h2 r2) (_:Q (.int (h1+h2+mx r1 r2)) H)
noncomputable def LX (h1 d f b l r c e g a:Int):Bool:=decide (l=e)&&decide (mx (ab (r - g)) (ab (c - a))<=h1+f+mx d b)
inductive xR (cN cB:Addr) (vs:List V) (H:Hp) (Q:VK) (E:XK):Prop
 |mk (p a q b:Addr) (h1 r1 h2 r2 l r c l' r' c':Int) (_:vs=[.ref p,.ref a,.ref q,.ref b]) (_:Th cN cB H p h1 r1) (_:Th cN cB H q h2 r2) (_:H a=some (.tup [.int l,.int r,.int c])) (_:H b=some (.tup [.int l',.int r',.int c'])) (_:Q (.bl (LX h1 r1 h2 r2 l r c l' r' c')) H)
theorem Gq (i m:Int):ab i<=m↔(-m<=i/\i<=m):=by unfold ab;split<;>lia
theorem LH (i j m:Int):mx i j<=m↔(i<=m/\j<=m):=by unfold mx;split<;>omega
def Ma (c:T3):Prop:=∃x y w:Int,c=[x,y,w]/\(-1<=x/\x<=10^20)/\(-1<=y/\y<=10^20)/\(-1<=w/\w<=10^20)
def JQ (H:Hp) (l:Addr) (cs:List T3):Prop:=∃as:List Addr,H l=some (.lst (as.map V.ref))/\dw H as cs
theorem JQ.same(h:JQ H l cs)(s:au H H'):JQ H' l cs:=by
 obtain⟨as,h1,h2⟩:=h
 exact⟨as,s _ _ h1,dw.same h2 s⟩
structure Bi (fs:List (Str×V)) (x:Str) (h r:Int):Prop where
 few:fs.length<=5
 name:fs.lookup ("name" :Str)=some (.str x)
 half:fs.lookup ("half" :Str)=some (.int h)
 room:fs.lookup ("room" :Str)=some (.int r)
 ends:fs.lookup ("ends" :Str)=none
structure Tg where
 nm:Str
 hf:Int
 rm:Int
 es:List T3
structure sU (g:Tg):Prop where
 nm:Mz g.nm
 h0:0<=g.hf
 h2:g.hf<=2
 r0:0<=g.rm
 r3:g.rm<=3
 es:∀c∈g.es,Ma c
 ln:g.es.length<=7
def wX (c d:Addr) (H:Hp) (p:Addr) (g:Tg):Prop:=∃(dx:Addr) (fs:List (Str×V)) (as:List Addr),Bi fs g.nm g.hf g.rm/\dw H as g.es/\
 ((H p=some (.ins c dx fs)/\∃t,fs.lookup ("pins" :Str)=some (.ref t)/\H t=some (.tup (as.map V.ref)))\/
  (H p=some (.ins d dx fs)/\∃t u a b,as=a++b/\fs.lookup ("starts" :Str)=some (.ref t)/\fs.lookup ("goals" :Str)=some (.ref u)/\H t=some (.tup (a.map V.ref))/\H u=some (.tup (b.map V.ref))))
theorem wX.same{g:Tg}(t:wX cN cB H p g)(s:au H H'):wX cN cB H' p g:=by
 obtain⟨dx,fs,as,b,f,h⟩:=t
 refine⟨dx,fs,as,b,dw.same f s,?_⟩
 rcases h with ⟨h1,t,h2,c⟩|⟨h1,t,u,a,b,e,h2,c,d,i⟩
 ·exact .inl ⟨s _ _ h1,t,h2,s _ _ c⟩
 ·exact .inr ⟨s _ _ h1,t,u,a,b,e,h2,c,s _ _ d,s _ _ i⟩
theorem wX.th{g:Tg}(t:wX cN cB H p g):Th cN cB H p g.hf g.rm:=by
 obtain⟨dx,fs,as,b,a,h⟩:=t
 rcases h with ⟨h1,_⟩|⟨h1,_⟩
 ·exact⟨_,dx,fs,h1,.inl rfl,b.half,b.room⟩
 ·exact⟨_,dx,fs,h1,.inr rfl,b.half,b.room⟩
abbrev DF (cN cB:Addr) (H:Hp) (ps:List Addr) (gs:List Tg):Prop:=Paired (λp g=>wX cN cB H p g) ps gs
theorem DF.same{gs:List Tg}(h:DF cN cB H ps gs)(s:au H H'):DF cN cB H' ps gs:=Paired.mapP h λ_ _ e=>wX.same e s
def TL (b a:Addr) (H:Hp) (l:Addr) (c:List Tg):Prop:=∃ps:List Addr,H l=some (.lst (ps.map V.ref))/\DF b a H ps c
theorem qV{g:Tg}(f:Ev te σ H (.ref p))(m:wX cN cB H p g)(r:g.es.length<=7)(q:∀H' l,au H H'->H l=none->JQ H' l g.es->Q (.ref l) H'):
  Cq cN cB "ends" (mH cN) (lX cB) te σ H Q:=by
 obtain⟨dx,fs,as,b,c,h⟩:=m
 have len:as.length=g.es.length:=Paired.length c
 rcases h with ⟨h1,t,h2,d⟩|⟨h1,t,u,a,i,rfl,h2,d,j,o⟩
 ·exact f _ ⟨p,cN,dx,fs,rfl,h1,b.ends,.inl ⟨rfl,p,dx,t,fs,as,rfl,h1,h2,d,λH' l s n e=>q H' l s n ⟨as,e,dw.same c s⟩⟩⟩
 ·rw[NM] at len
  exact f _ ⟨p,cB,dx,fs,rfl,h1,b.ends,.inr ⟨rfl,p,dx,t,u,fs,a,i,rfl,h1,h2,d,j,o,by lia,λH' l s n e=>q H' l s n ⟨a++i,e,dw.same c s⟩⟩⟩
def q3 (c:T3):kD:=(c.getD 0 0,c.getD 1 0,c.getD 2 0)
theorem HX(h:Ma c):c.map V.int=tp (q3 c):=by
 obtain⟨x,y,w,rfl,_⟩:=h
 rfl
theorem vA {H:Hp}{a:Addr}{c:T3}(h:Ma c)(e:H a=some (.tup (c.map V.int))):H a=some (.tup [.int (q3 c).1,.int (q3 c).2.1,.int (q3 c).2.2]):=by
 obtain⟨x,y,w,rfl,_⟩:=h
 exact e
theorem K7(h:Ma c):(-1<=(q3 c).1/\(q3 c).1<=10^20)/\(-1<=(q3 c).2.1/\(q3 c).2.1<=10^20)/\(-1<=(q3 c).2.2/\(q3 c).2.2<=10^20):=by
 obtain⟨x,y,w,rfl,h⟩:=h
 exact h
def qr (L R C:Int) (a:List kD) (h:Int) (c:T3):Prop:=K0 L R C a h (q3 c).1 (q3 c).2.1 (q3 c).2.2
noncomputable def CU (g h:Tg) (c d:T3):Bool:=LX g.hf g.rm h.hf h.rm (q3 c).1 (q3 c).2.1 (q3 c).2.2 (q3 d).1 (q3 d).2.1 (q3 d).2.2
noncomputable def Cm (g h:Tg):Bool:=g.es.any λc=>h.es.any λd=>CU g h c d
def Ao (a:List Tg):Prop:=∃(i j:Nat) (g h:Tg),i<j/\a[i]?=some g/\a[j]?=some h/\g.nm=h.nm
def pk (a:List Tg):Prop:=∃(i j:Nat) (g h:Tg),i<j/\a[i]?=some g/\a[j]?=some h/\Cm g h=true
def qw (L R C:Int) (a:List kD) (b:List Tg):Prop:=∀g∈b,∀c∈g.es,qr L R C a g.hf c
def lE (L R C:Int) (b:List kD) (a:List Tg) (k:Nat):Prop:=(k=1/\Ao a)\/(k=2/\¬Ao a/\¬qw L R C b a)\/(k=3/\¬Ao a/\qw L R C b a/\pk a)\/(k=0/\¬Ao a/\qw L R C b a/\¬pk a)
noncomputable def Lv (a c b:Addr) (k:Nat):Addr:=if k=1 then a else if k=2 then c else b
noncomputable def FZ (b:List Tg) (ps:List Addr):List (dq×V):=(b.zip ps).map λa=>(.inr a.1.nm,.ref a.2)
structure Bo (cBo cN cB:Addr) (H:Hp) (b f:Addr) (ps:List Addr) (gs:List Tg):Prop where
 ex:∃dx fs d,H b=some (.ins cBo dx fs)/\fs.lookup ("floor" :Str)=some (.ref f)/\fs.lookup ("by_name" :Str)=some (.ref d)/\fs.lookup ("things" :Str)=none/\fs.lookup ("thing_named" :Str)=none/\H d=some (.dK (FZ gs ps))
 th:DF cN cB H ps gs
inductive tK (cN cB:Addr) (vs:List V) (H:Hp) (Q:VK) (E:XK):Prop
 |mk (p l q m:Addr) (g h:Tg) (_:vs=[.ref p,.ref l,.ref q,.ref m]) (_:wX cN cB H p g) (_:wX cN cB H q h) (_:JQ H l g.es) (_:JQ H m h.es) (_:sU g) (_:sU h) (_:∀H',au H H'->Q (.bl (Cm g h)) H')
inductive rS (cN cB cT:Addr) (vs:List V) (H:Hp) (Q:VK) (E:XK):Prop
 |mk (l:Addr) (gs:List Tg) (_:vs=[.ref l]) (_:TL cN cB H l gs) (_:(∀g∈gs,sU g)) (_:gs.length<=12) (_:(¬Ao gs->∀H',au H H'->Q .non H')) (_:(Ao gs->∀H',au H H'->E (.ref cT) none H'))
inductive xO (cN cB cF cX:Addr) (vs:List V) (H:Hp) (Q:VK) (E:XK):Prop
 |mk (f l:Addr) (gs:List Tg) (L R C:Int) (rs:List kD) (_:vs=[.ref f,.ref l]) (_:Fl cF H f L R C rs) (_:LW L R C) (_:TL cN cB H l gs) (_:(∀g∈gs,sU g)) (_:gs.length<=12) (_:(qw L R C rs gs->∀H',au H H'->Q .non H')) (_:(¬qw L R C rs gs->∀H',au H H'->E (.ref cX) none H'))
inductive pO (cN cB cX:Addr) (vs:List V) (H:Hp) (Q:VK) (E:XK):Prop
 |mk (l:Addr) (gs:List Tg) (_:vs=[.ref l]) (_:TL cN cB H l gs) (_:(∀g∈gs,sU g)) (_:gs.length<=12) (_:(¬pk gs->∀H',au H H'->Q .non H')) (_:(pk gs->∀H',au H H'->E (.ref cX) none H'))
inductive tR (cN cB cF cBo c1 c2 c3:Addr) (vs:List V) (H:Hp) (Q:VK) (E:XK):Prop
 |mk (p dx f l:Addr) (ps:List Addr) (gs:List Tg) (L R C:Int) (rs:List kD) (k:Nat) (_:vs=[.ref p,.ref f,.ref l]) (_:H p=some (.ins cBo dx [])) (_:Fl cF H f L R C rs) (_:LW L R C) (_:H l=some (.lst (ps.map V.ref))) (_:DF cN cB H ps gs) (_:(∀g∈gs,sU g)) (_:gs.length<=12) (_:lE L R C rs gs k) (_:(k=0->∀H',bQ H H' p->Bo cBo cN cB H' p f ps gs->Q .non H')) (_:(k≠0->∀H',bQ H H' p->E (.ref (Lv c1 c2 c3 k)) none H'))
inductive sg (cF:Addr) (vs:List V) (H:Hp) (Q:VK) (E:XK):Prop
 |mk (p b:Addr) (L R C:Int) (rs:List kD) (q:kD) (_:vs=[.ref p,.ref b]) (_:Fl cF H p L R C rs) (_:LW L R C) (_:H b=some (.tup (tp q))) (_:kE L R C q.1 q.2.1 q.2.2) (_:Q (.bl (decide (q∈rs))) H)
def lU (g:Tn):Tg:=⟨g.nm,(g.h:Nat),(g.r:Nat),g.es.map t3⟩
def r3 (p:P3):kD:=((p.1:Int),(p.2.1:Int),(p.2.2:Int))
structure L5 (W:List Rw) (p q:P3) (n:Nat):Prop where
 rk:W.filterMap vq=[(.bl true,p,p)]
 tl:W.filterMap rH=[(.int ((n:Nat):Int),q,q)]
 tn:W.filterMap vO=[n]
structure Mx (z:P3) (W:List Rw):Prop where
 o1:mj z W=true
 o2:pM W=true
 o3:xq z W=true
inductive iA (z:P3) (W:List Rw):Nat->Prop
 |d1 (_:mj z W=false):iA z W 1
 |d2 (_:mj z W=true) (_:pM W=false):iA z W 2
 |d3 (_:mj z W=true) (_:pM W=true) (_:xq z W=false):iA z W 3
 |d4 (p q:P3) (n:Nat) (_:Mx z W) (_:L5 W p q n) (_:W.all lK=false):iA z W 4
 |d5 (p q:P3) (n k:Nat) (_:Mx z W) (_:L5 W p q n) (_:W.all lK=true) (_:lE (z.1:Nat) (z.2.1:Nat) (z.2.2:Nat) [r3 p] ((W.filterMap kJ).map lU) k) (_:(W.filterMap kJ).length<=12) (_:∀g∈W.filterMap kJ,g.es.length<=7):iA z W (if k=0 then 0 else k+4)
noncomputable def E_ (a c e g f b d:Addr) (k:Nat):Addr:=if k=1 then a else if k=2 then c else if k=3 then e else if k=4 then g else if k=5 then f else if k=6 then b else d
inductive nG (cB c1 c2 c3 c4 c5 c6 c7:Addr) (vs:List V) (H:Hp) (Q:VK) (E:XK):Prop
 |mk (x:Str) (Ws:List (List Str)) (_:vs=[.str x]) (_:Pg x Ws) (_:∀n,gv Ws=.error n->∀d H',au H H'->H' d=some (.xd [("row",.int (n:Nat))])->E (.ref cB) (some d) H')
  (_:∀R,gv Ws=.ok R->∃z W k,R=.floor z::W/\(∀r∈R,RB r/\Hi r)/\iA z W k/\(k=0->∀v H',au H H'->Q v H')/\(k≠0->∀H',au H H'->E (.ref (E_ c1 c2 c3 c4 c5 c6 c7 k)) none H'))
inductive pW (Ws:List (List Str)):Nat->Nat->Prop
 |row (n:Nat) (_:gv Ws=.error n):pW Ws 8 n
 |ok (z:P3) (W:List Rw) (k:Nat) (_:gv Ws=.ok (.floor z::W)) (_:∀r∈(.floor z::W:List Rw),RB r/\Hi r) (_:iA z W k):pW Ws k 0
noncomputable def kN (k:Nat):Str:=if k=0 then Str.ofString "read" else if k=1 then Str.ofString "size" else if k=2 then Str.ofString "price" else if k=3 then Str.ofString "out" else if k=4 then Str.ofString "thing" else if k=5 then Str.ofString "twice" else if k=6 then Str.ofString "fit" else if k=7 then Str.ofString "crowd" else Str.ofString "row"
inductive mm (vs:List V) (H:Hp) (Q:VK) (E:XK):Prop
 |mk (x:Str) (Ws:List (List Str)) (k n:Nat) (_:vs=[.str x]) (_:Pg x Ws) (_:pW Ws k n) (_:∀t H',au H H'->H' t=some (.tup [.str (kN k),.int (n:Nat)])->Q (.ref t) H')
inductive pF (vs:List V) (H:Hp) (Q:VK) (E:XK):Prop
 |mk (x:Str) (Ws:List (List Str)) (k n:Nat) (_:vs=[.str x]) (_:Pg x Ws) (_:pW Ws k n) (_:∀H',au H H'->Q (.bl (decide (k≠0))) H')
inductive Rk
 |si
 |ba
 |gd (r:Rw)
noncomputable def iH (ws:List (List Nat)):Rk:=if ws=[] then .si else match jh ws with
 |none=> .ba
 |some r=> .gd r
def gu (x:Str) (k:Rk):Prop:=∃a,sX (a.map ss) x/\iH a=k
def D_ (H:Hp) (l:Addr) (a:List Rk):Prop:=∃xs:List Str,H l=some (.lst (xs.map V.str))/\Paired gu xs a
abbrev oE (H:Hp) (l:Addr) (W:List Rw):Prop:=D_ H l (W.map Rk.gd)
theorem D_.same{ks:List Rk}(h:D_ H l ks)(s:au H H'):D_ H' l ks:=let ⟨xs,a,b⟩:=h;⟨xs,s _ _ a,b⟩
noncomputable def tk (b:Bool) (i:Nat):List Rk->Except Nat (List Rw)
 |[]=> .ok []
 | .si::r=>tk b (i+1) r
 | .ba::_=> .error (i+1)
 | .gd w::r=>if decide (kd w=0)=b then (match tk false (i+1) r with| .ok W=> .ok (w::W)| .error n=> .error n) else .error (i+1)
def EO:Rk->Bool
 | .si=>true
 |_=>false
noncomputable def gw (a:List Rk):Except Nat (List Rw):=if a.all EO then .error 1 else tk true 0 a
inductive hV (vs:List V) (H:Hp) (Q:VK) (E:XK):Prop
 |mk (a b c:Nat) (_:vs=[.int (a:Nat),.int (b:Nat),.int (c:Nat)]) (_:a<10^19) (_:b<10^19) (_:c<10^19) (_:Q (sv (cu (a,b,c))) H)
def yL (R C:Nat) (p:P3):Prop:=∃f:Nat,(f=0\/f=1\/f=10^17)/\(p=(2+f,0,C - 1)\/p=(0,R+f,0)\/p=(1,R - 1,C+f))
noncomputable def fr (c:Int):Nat:=if c/3%3=0 then 0 else if c/3%3=1 then 1 else 10^17
theorem Gv (c:Int):fr c=0\/fr c=1\/fr c=10^17:=by
 unfold fr
 split
 ·exact .inl rfl
 ·split
  ·exact .inr (.inl rfl)
  ·exact .inr (.inr rfl)
noncomputable def Am (R C:Nat) (c:Int):P3:=if c%3=0 then (2+fr c,0,C - 1) else if c%3=1 then (0,R+fr c,0) else (1,R - 1,C+fr c)
theorem vw:yL R C (Am R C c):=by
 refine⟨fr c,Gv c,?_⟩
 unfold Am
 split
 ·exact .inl rfl
 ·split
  ·exact .inr (.inl rfl)
  ·exact .inr (.inr rfl)
def Rg (R C:Nat):Prop:=(6<=R/\R<=16)/\6<=C/\C<=16
inductive md (vs:List V) (H:Hp) (Q:VK) (E:XK):Prop
 |mk (s:Addr) (R C:Nat) (c:Int) (_:vs=[.ref s,.int c]) (_:A3 H s (2,R,C)) (_:Rg R C) (_:∀H',au H H'->Q (sv (cu (Am R C c))) H')
inductive wR (vs:List V) (H:Hp) (Q:VK) (E:XK):Prop
 |mk (c:Int) (_:vs=[.int c]) (_:∀x H',au H H'->gu x .ba->Q (.str x) H')
structure PS where
 z:P3
 a:Nat
 b:Nat
 c:Nat
 d:Nat
 e:Nat
 rest:List Rw
def fP:List Nat:=[110,101,116,97]
def fQ:List Nat:=[98,117,110,49]
noncomputable def Dr (bs a:Nat):Rw:=.net fP 0 0 [(0,bs,a),(0,bs+2,a+2)]
noncomputable def C3 (bs a:Nat):Rw:=.bun fQ 0 [(1,bs,a)] [(1,bs+2,a),(1,bs+1,a+1)]
noncomputable def PS.body (bs f n:Nat) (s:PS):List Rw:=.layer s.a s.b::.layer s.c s.d::.via s.e::.rock (0,bs+4,f+4) (0,bs+4,f+4)::.toll n (1,bs,f) (1,bs,f)::Dr bs f::C3 bs f::s.rest
noncomputable def PS.rows (bs a n:Nat) (s:PS):List Rw:=.floor s.z::s.body bs a n
noncomputable def jK (R:Nat) (cs:List Int):Nat:=(cs.getD 2 0%((R:Nat) - 5:Int)).toNat
noncomputable def jL (C:Nat) (cs:List Int):Nat:=(cs.getD 3 0%((C:Nat) - 5:Int)).toNat
def JP (n:Nat):Prop:=1<=n/\n<=1000000000000
inductive xJ (vs:List V) (H:Hp) (Q:VK) (E:XK):Prop
 |mk (sz cl:Addr) (R C:Nat) (cs:List Int) (_:vs=[.ref sz,.ref cl]) (_:A3 H sz (2,R,C)) (_:Rg R C) (_:H cl=some (.lst (cs.map V.int))) (_:cs.length=12) (_:∀l H' a b e n,au H H'->H l=none->JP a->JP b->JP e->n<=1000000000000->oE H' l (PS.body (jK R cs) (jL C cs) n ⟨(2,R,C),a,b,1000000000000,1,e,[]⟩)->Q (.ref l) H')
inductive se (vs:List V) (H:Hp) (Q:VK) (E:XK):Prop
 |mk (l sz:Addr) (c:Int) (R C:Nat) (X:List Rw) (_:vs=[.ref l,.ref sz,.int c]) (_:oE H l X) (_:X.length<=50) (_:A3 H sz (2,R,C)) (_:Rg R C) (_:∀H' x,Sb l H H'->(x=fP\/x=fQ)->oE H' l (X++[.net x 0 0 [(0,R - 1,C - 1),(1,R - 1,C - 1)]])->Q .non H')
def Ek (R C:Nat) (c:P3×P3):Prop:=∃o,yL R C o/\(c=(o,o)\/c=(o,(0,0,0))\/c=((0,0,0),o))
inductive BB (vs:List V) (H:Hp) (Q:VK) (E:XK):Prop
 |mk (l sz:Addr) (c:Int) (R C:Nat) (X:List Rw) (_:vs=[.ref l,.ref sz,.int c]) (_:oE H l X) (_:X.length<=50) (_:A3 H sz (2,R,C)) (_:Rg R C) (_:∀H' r,Sb l H H'->(∃o,Ek R C o/\(r=.rock o.1 o.2\/r=.toll 5 o.1 o.2))->oE H' l (X++[r])->Q .non H')
def gN (p:P3):Prop:=p.1<10^18/\p.2.1<10^18/\p.2.2<10^18
def sP:List Nat:=[122,99]
def yx:List Nat:=[122,100]
noncomputable def Ip (R C bs a:Nat) (b c:P3):List Rw:=[.net sP 0 0 [(1,R - 1,C - 1),(0,bs+4,a+4)],.net sP 0 0 [(1,R - 1,C - 1),b],.net sP 1 0 [(1,R - 2,C - 2),(1,R - 1,C - 1)],.bun sP 0 [(1,R - 1,C - 1)] [(0,bs+4,a+4)],.bun sP 0 [c] [(1,R - 1,C - 1)]]
noncomputable def EX (R C bs a:Nat):List Rw:=[.net yx 0 0 [(1,R - 1,C - 1),(0,bs,a)],.bun yx 1 [(1,R - 1,C - 1)] [(1,bs+3,a+1)],.net yx 0 2 [(0,bs+2,a+4),(1,R - 1,C - 1)],.net yx 1 0 [(1,bs+2,a+1),(1,bs+3,a+3)]]
def MY (R C bs c:Nat) (r:Rw):Prop:=∃a b,yL R C a/\yL R C b/\r∈Ip R C bs c a b
inductive CM (vs:List V) (H:Hp) (Q:VK) (E:XK):Prop
 |mk (l sz cl:Addr) (c:Int) (R C:Nat) (cs:List Int) (X:List Rw) (_:vs=[.ref l,.ref sz,.ref cl,.int c]) (_:oE H l X) (_:X.length<=50) (_:A3 H sz (2,R,C)) (_:Rg R C) (_:H cl=some (.lst (cs.map V.int))) (_:cs.length=12) (_:∀H' r,Sb l H H'->MY R C (jK R cs) (jL C cs) r->oE H' l (X++[r])->Q .non H')
inductive tL (vs:List V) (H:Hp) (Q:VK) (E:XK):Prop
 |mk (l sz cl:Addr) (c:Int) (R C:Nat) (cs:List Int) (X:List Rw) (_:vs=[.ref l,.ref sz,.ref cl,.int c]) (_:oE H l X) (_:X.length<=50) (_:A3 H sz (2,R,C)) (_:Rg R C) (_:H cl=some (.lst (cs.map V.int))) (_:cs.length=12) (_:∀H' r,Sb l H H'->r∈EX R C (jK R cs) (jL C cs)->oE H' l (X++[r])->Q .non H')
def Jy (r:Rw):Prop:=lK r=false/\RB r/\Hi r/\(kd r=5\/kd r=6)
inductive sV (vs:List V) (H:Hp) (Q:VK) (E:XK):Prop
 |mk (l:Addr) (u:V) (c:Int) (X:List Rw) (_:vs=[.ref l,u,.int c]) (_:oE H l X) (_:X.length<=50) (_:∀H' r,Sb l H H'->Jy r->oE H' l (X++[r])->Q .non H')
inductive sY (vs:List V) (H:Hp) (Q:VK) (E:XK):Prop
 |mk (l:Addr) (c:Int) (r0 r1 r2 r3:Rw) (X:List Rw) (_:vs=[.ref l,.int c]) (_:oE H l (r0::r1::r2::r3::X)) (_:X.length<=50) (_:∀H' p Y,Sb l H H'->fY 1 p=false->p<10^18->(Y=r0::.layer p 7::r2::r3::X\/Y=r0::r1::.layer 7 p::r3::X\/Y=r0::r1::r2::.via p::X\/(fY 0 p=false/\Y=r0::r1::r2::r3::(X++[.toll p (0,0,0) (0,0,0),.toll 1 (0,0,0) (1,1,1)])))->oE H' l Y->Q .non H')
inductive yn (vs:List V) (H:Hp) (Q:VK) (E:XK):Prop
 |mk (l sz:Addr) (c:Int) (R C:Nat) (r0:Rw) (X:List Rw) (_:vs=[.ref l,.ref sz,.int c]) (_:oE H l (r0::X)) (_:X.length<=50) (_:A3 H sz (2,R,C)) (_:Rg R C) (_:∀H' z Y,Sb l H H'->gN z->((¬Sz z/\Y=X)\/(z=(2,R,C)/\(Y=X++[.layer 3 4]\/Y=X++[.via 3]))\/(z=(3,R,C)/\Y=X))->oE H' l (.floor z::Y)->Q .non H')
def xT (R C bs a:Nat) (j:Nat) (r:Rw):Prop:=
 (j=1/\(r=.layer 3 4\/r=.via 3))\/(j=2/\((∃p,p<10^18/\r=.toll p (0,0,0) (0,0,0))\/r=.toll 1 (0,0,0) (1,1,1)))\/(j=3/\∃o,Ek R C o/\(r=.rock o.1 o.2\/r=.toll 5 o.1 o.2))\/(j=4/\Jy r)\/
 (j=5/\∃x,(x=fP\/x=fQ)/\r=.net x 0 0 [(0,R - 1,C - 1),(1,R - 1,C - 1)])\/(j=6/\MY R C bs a r)\/(j=7/\r∈EX R C bs a)
inductive Op (R C bs sd:Nat):Nat->PS->PS->Prop
 |no (s:PS):Op R C bs sd 0 s s
 |size (s:PS) (z:P3) (x:List Rw) (_:gN z) (_:(¬Sz z/\x=[])\/(z=(2,R,C)/\(x=[.layer 3 4]\/x=[.via 3]))\/(z=(3,R,C)/\x=[])):Op R C bs sd 1 s {s with z:=z,rest:=s.rest++x}
 |price (s t:PS) (p:Nat) (_:fY 1 p=false) (_:p<10^18) (_:t={s with a:=p,b:=7}\/t={s with c:=7,d:=p}\/t={s with e:=p}\/(fY 0 p=false/\t={s with rest:=s.rest++[.toll p (0,0,0) (0,0,0),.toll 1 (0,0,0) (1,1,1)]})):Op R C bs sd 2 s t
 |row (s:PS) (j:Nat) (r:Rw) (_:3<=j) (_:xT R C bs sd j r):Op R C bs sd j s {s with rest:=s.rest++[r]}
def En (R C bs a n:Nat) (l:Addr) (H:Hp) (j:Nat) (s:PS) (H':Hp):Prop:=∃s',Sb l H H'/\Op R C bs a j s s'/\oE H' l (PS.rows bs a n s')
inductive vY (vs:List V) (H:Hp) (Q:VK) (E:XK):Prop
 |mk (l sz cl:Addr) (c:Int) (j R C n:Nat) (cs:List Int) (s:PS) (_:vs=[.ref l,.ref sz,.ref cl,.int (j:Nat),.int c]) (_:oE H l (PS.rows (jK R cs) (jL C cs) n s)) (_:s.rest.length<=20) (_:A3 H sz (2,R,C)) (_:Rg R C) (_:H cl=some (.lst (cs.map V.int))) (_:cs.length=12) (_:j<8)
  (_:∀H' s',Sb l H H'->Op R C (jK R cs) (jL C cs) j s s'->oE H' l (PS.rows (jK R cs) (jL C cs) n s')->Q .non H')
def F1 (cs:List Int):Nat:=(cs.getD 0 0/11%4).toNat
inductive Ka (W:List Rw) (k:Nat):Prop
 |mk (z:P3) (X:List Rw) (_:W=.floor z::X) (_:∀r∈(.floor z::X:List Rw),RB r/\Hi r) (_:iA z X k) (_:∀r∈X,kd r≠0) (_:X.length<=20)
noncomputable def vF (m:Nat) (W:List Rw):List Rk:=List.replicate m .si++W.map .gd
inductive De (vs:List V) (H:Hp) (Q:VK) (E:XK):Prop
 |mk (sz cl:Addr) (R C:Nat) (cs:List Int) (_:vs=[.ref sz,.ref cl]) (_:A3 H sz (2,R,C)) (_:Rg R C) (_:H cl=some (.lst (cs.map V.int))) (_:cs.length=12) (_:∀t l H' W k,au H H'->H' t=some (.tup [.ref l,.str (kN k)])->D_ H' l (vF (F1 cs) W)->Ka W k->Q (.ref t) H')
inductive tG (vs:List V) (H:Hp) (Q:VK) (E:XK):Prop
 |mk (l cl:Addr) (m k:Nat) (W:List Rw) (cs:List Int) (_:vs=[.ref l,.int (m:Nat),.ref cl]) (_:D_ H l (vF m W)) (_:Ka W k) (_:m<=3) (_:H cl=some (.lst (cs.map V.int))) (_:cs.length=12) (_:∀t l' n ks H',au H H'->H' t=some (.tup [.ref l',.int (n:Nat)])->D_ H' l' ks->ks.length<=40->gw ks=.error n->Q (.ref t) H')
inductive wj (K:NJ) (vs:List V) (H:Hp) (Q:VK) (E:XK):Prop
 |mk (a:Addr) (ns:List Int) (_:vs=[.ref a]) (_:bf K H a (ns.map V.int)) (_:ns.length<=63) (_:∀H',Q (.bl true) H')
section
variable {P:Program} {w:World} {K:NJ} {mg:Str->Option Value} {base:Heap}
set_option maxHeartbeats 0
theorem E9(h:1<=x.length):∃c r,cp x=c::r:=by
 have a:=dS x
 cases e:cp x with
 |nil=>rw[e] at a;simp at a;lia
 |cons c r=>exact⟨c,r,rfl⟩
theorem ya{B:Type}{rest:St}(d:List B)(m:B->V)(R:Hp->V->B->Prop)(up:∀{H H' v z},R H v z->Sb D H H'->(∃xs,H D=some (.lst xs))->R H' v z)(y:(J=zw K a/\H a=some (.lst (d.map m)))\/(J=KS K a/\H a=some (.tup (d.map m))))(A:H D=none)(N:d.length<=1000)
  (G:∀z∈d,∀H',au H H'->(∃xs,H' D=some (.lst xs))->∀Qv:VK,(∀v H2,au H' H2->R H2 v z->Qv v H2)->te (some (m z)::rest) H' Qv) (q:∀vs H',au H H'->H' D=some (.lst vs)->Paired (R H') vs d->Q H'):Aj (none::rest) (dr 0) t_ te J H D Q:=by
 have c:sizeLine=2^24:=rfl
 have st:∀i x g H',(d.map m)[i]?=some x->(∃(f:Option V) (vs:List V),g=f::rest/\au H H'/\H' D=some (.lst vs)/\Paired (R H') vs (d.take i))->dr 0 x g H' λl H2=>t_ l H2 λb H3=>if b=true then te l H3 λv H4=>∃j,H4 D=some (.lst j)/\j.length<sizeLine/\(∃(f:Option V) (vs:List V),l=f::rest/\au H (upd H4 D (.lst (j++[v])))/\upd H4 D (.lst (j++[v])) D=some (.lst vs)/\Paired (R (upd H4 D (.lst (j++[v])))) vs (d.take (i+1))) else (∃(f:Option V) (vs:List V),l=f::rest/\au H H3/\H3 D=some (.lst vs)/\Paired (R H3) vs (d.take (i+1))):=by
  rintro i x g H' M ⟨f,vs,rfl,s1,p,w⟩
  obtain⟨z,C,rfl⟩:=iL M
  have I:=Paired.length w
  rw[N_] at I
  refine gn (gA (G z (Oi C) H' s1 ⟨_,p⟩ _ λv H2 s2 r=>⟨vs,s2 _ _ p,by omega,_,vs++[v],rfl,dI (s1.trans s2) A,ah,?_⟩))
  have sb:∀o,Sb D H2 (upd H2 D o):=λo b u n h=>by rw[ay n];exact h
  have E:=s2 _ _ p
  rw[bO C]
  exact dy (up r (sb _) ⟨_,E⟩) (Paired.mapP w λ_ _ h=>up (up h (λb o _ e=>s2 _ _ e) ⟨_,p⟩) (sb _) ⟨_,E⟩)
 have F:∀g H',(∃(f:Option V) (vs:List V),g=f::rest/\au H H'/\H' D=some (.lst vs)/\Paired (R H') vs (d.take (d.map m).length))->Q H':=by
  rintro g H' ⟨f,vs,rfl,s1,p,w⟩
  rw[NG,Ob] at w
  exact q vs H' s1 p w
 rcases y with ⟨rfl,y⟩|⟨rfl,y⟩
 ·exact da (K:=K) (xs:=d.map m) (λi g H'=>∃(f:Option V) (vs:List V),g=f::rest/\au H H'/\H' D=some (.lst vs)/\Paired (R H') vs (d.take i)) ⟨none,[],rfl,(au.refl H).upd A,ah,.nil⟩ (λi g H' _ ⟨_,_,_,s,_⟩=>bf.of (s _ _ y)) st F
 ·exact FV (K:=K) (xs:=d.map m) (λi g H'=>∃(f:Option V) (vs:List V),g=f::rest/\au H H'/\H' D=some (.lst vs)/\Paired (R H') vs (d.take i)) ⟨none,[],rfl,(au.refl H).upd A,ah,.nil⟩ (λi g H' _ ⟨_,_,_,s,_⟩=>bY.of (s _ _ y)) st F
theorem rA{c:Type}{rest:St}(b:List c)(d:c->V)(R:Hp->V->c->Prop)(up:∀{H H' v z},R H v z->Sb D H H'->(∃xs,H D=some (.lst xs))->R H' v z)(h:H a=some (.lst (b.map d)))(g:H D=none)(e:b.length<=1000)
  (f:∀z∈b,∀H',au H H'->(∃xs,H' D=some (.lst xs))->∀Qv:VK,(∀v H2,au H' H2->R H2 v z->Qv v H2)->te (some (d z)::rest) H' Qv) (q:∀vs H',au H H'->H' D=some (.lst vs)->Paired (R H') vs b->Q H'):Aj (none::rest) (dr 0) t_ te (zw K a) H D Q:=ya b d R up (.inl ⟨rfl,h⟩) g e f q
theorem CT(h:H b=some (.tup ys))(s:Sb D H H')(e:∃xs,H D=some (.lst xs)):H' b=some (.tup ys):=s _ _ (λz=>by obtain⟨xs,e⟩:=e;rw[z,e] at h;cases h) h
theorem FM(h:Paired (λv p=>∃t,v=.ref t/\A3 H t p) vs ps):∃as:List Addr,vs=as.map V.ref/\dw H as (ps.map t3):=by
 induction h with
 |nil=>exact⟨[],rfl,.nil⟩
 |cons h _ ih=>
  obtain⟨t,rfl,h⟩:=h
  obtain⟨as,rfl,h2⟩:=ih
  exact⟨t::as,rfl,.cons h h2⟩
theorem J5(h:∀c∈l,c<128)(a:l.length<=1000):Pl (ss l):=Pl.of (by rw[cU];exact h) (by rw[cU];exact a)
theorem KP {w:List Nat}(h:Wd w):Pl (ss w):=J5 h.1 (by have:=h.2;lia)
theorem pQ {w:List Nat}(g:nE w):iN w=some (NumText.digitsVal w):=if_pos (kZ.mpr g)
theorem B3 {w:List Nat}(b:qx w):iN w=none:=by unfold iN;rw[Cb.mpr b];rfl
theorem Dk {w:List Nat}{H:Hp}{Q:VK}{E:XK}(h:Wd w)(q:∀H',au H H'->Q (F5 (iN w)) H'):mv [sv w] H Q E:=by
 refine⟨ss w,rfl,KP h,?_⟩
 rw[cU]
 rcases xx w with g|b
 ·rw[pQ g] at q;exact .inl ⟨g,q⟩
 ·rw[B3 b] at q;exact .inr ⟨b,q⟩
theorem uH:∀{R:List (List Nat)} {p:List Nat},p∈R->(∀d∈p,d∈jl c R)/\p.length<=(jl c R).length
 |[],_,h=>nomatch h
 |[x],p,h=>by rw[NR.mp h];exact⟨λ_ h=>h,NI _⟩
 |x::y::r,p,h=>by
  rw[d_ (by simp)]
  rcases NK.mp h with rfl|h
  ·exact⟨λd a=>Ou _ a,by rw[NM];lia⟩
  ·have:=uH (c:=c) h
   exact⟨λd a=>Of _ (NV _ (this.1 d a)),by rw[NM,NU];lia⟩
theorem Ih {w z:List Nat}(h:Wd w)(b:z∈gS 46 w):Wd z:=by
 have:=uH (c:=46) b
 rw[ny] at this
 exact⟨λc a=>h.1 c (this.1 c a),NP this.2 h.2⟩
theorem ym (c:Nat):∀l:List Nat,(gS c l).length<=l.length+1
 |[]=>by show 1<=_;exact NI _
 |x::r=>by
  have h:=ny c (x::r)
  have:∀R:List (List Nat),R.length<=(jl c R).length+1:=by
   intro R
   induction R with
   |nil=>exact N9 _
   |cons a q ih=>
    by_cases hq:q=[]
    ·subst hq;show 1<=_;lia
    ·rw[d_ hq,NM,NU,NU];lia
  have:=this (gS c (x::r))
  rw[h] at this;exact this
theorem B6 {a:Type}{f:a->Option Nat}{b:List a}(h:Paired (λ(v:V) z=>v=F5 (f z)) vs b):vs=b.map λz=>F5 (f z):=by
 induction h with
 |nil=>rfl
 |cons h _ ih=>rw[h,ih];rfl
theorem tZ {a:Type}(f:a->Option Nat)(b:List a):(b.map λz=>F5 (f z)).all jw=true:=by
 rw[List.all_map,Oa];intro z _;show jw (F5 (f z))=true;cases f z<;>rfl
theorem bV {c d:Type}(f:c->Option d)(a:c)(l:List c):fu f (a::l)=match f a,fu f l with|some b,some bs=>some (b::bs)|_,_=>none:=rfl
theorem qM {b:Type}(f:b->Option Nat):∀zs:List b,LZ .non (zs.map λz=>F5 (f z))=(fu f zs).isNone
 |[]=>rfl
 |a::l=>by
  have c:=qM f l
  unfold LZ at c|-
  rw[NQ,OY,c,bV]
  cases f a with
  |none=>rfl
  |some n=>cases fu f l<;>rfl
theorem qL {b:Type}{f:b->Option Nat}:∀{zs:List b} {ns:List Nat},fu f zs=some ns->(zs.map λz=>F5 (f z))=ns.map λn=>V.int (n:Nat)
 |[],ns,h=>by cases h;rfl
 |a::l,ns,h=>by
  rw[bV] at h
  cases e:f a with
  |none=>rw[e] at h;cases h
  |some n=>
   cases e2:fu f l with
   |none=>rw[e,e2] at h;cases h
   |some bs=>rw[e,e2] at h;cases h;rw[NQ,e,qL e2];rfl
theorem iJ {b c:Type}{f:b->Option c}:∀{zs:List b} {ns:List c},fu f zs=some ns->ns.length=zs.length
 |[],ns,h=>by cases h;rfl
 |a::l,ns,h=>by
  rw[bV] at h
  cases e:f a with
  |none=>rw[e] at h;cases h
  |some n=>
   cases e2:fu f l with
   |none=>rw[e,e2] at h;cases h
   |some bs=>rw[e,e2] at h;cases h;rw[NU,NU,iJ e2]
set_option tactic.hygienic true in
theorem tH (w:List Nat):dN w=match fu iN (gS 46 w) with|some [a,b,c]=>some (a,b,c)|_=>none:=by
 unfold dN
 split
 ·next a b c e=>
  rw[e,bV,bV,bV]
  cases iN a<;>cases iN b<;>cases iN c<;>rfl
 ·next h=>
  split
  ·next a b c e=>
   have:=iJ e
   match hc:gS 46 w,this with
   |[x,y,z],_=>exact(h x y z hc).elim
  ·rfl
theorem IC {H:Hp}{vs:List V}{ws:List (List Nat)}(h:Paired (λv w=>EJ (LY H) v (dN w)) vs ws):(vs.any λx=>decide (x=.non))=(fu dN ws).isNone/\∀ps,fu dN ws=some ps->∃as:List Addr,vs=as.map V.ref/\dw H as (ps.map t3):=by
 induction h with
 |nil=>exact⟨rfl,λps h=>by cases h;exact⟨[],rfl,.nil⟩⟩
 | @cons v w vt l h h0 ih=>
  rw[OY,ih.1,bV]
  cases e:dN w with
  |none=>
   rw[e] at h
   rw[show v=.non from h]
   exact⟨rfl,λps h=>nomatch h⟩
  |some p=>
   rw[e] at h
   obtain⟨b,t,rfl,a⟩:=h
   cases e2:fu dN l with
   |none=>exact⟨by simp,λps h=>nomatch h⟩
   |some bs=>
    refine⟨by simp,λps h=>?_⟩
    cases h
    obtain⟨as,rfl,h2⟩:=ih.2 bs e2
    exact⟨t::as,rfl,.cons a h2⟩
theorem BM(h:Ev ta σ H (.ref p)):iB (jr (gb (λx y H Q=>y=.non/\Q (.bl (decide (x=.non))) H) ta (tC .non))) σ H false:=fO (aA (lz h aq)) rfl
theorem K2(h:dw H as ([p].map t3)):∃a,as=[a]/\A3 H a p:=by
 cases h with|cons h1 h=>cases h;exact⟨_,rfl,h1⟩
theorem KR(h:dw H as ([p,q].map t3)):∃a b,as=[a,b]/\A3 H a p/\A3 H b q:=by
 cases h with|cons h1 h=>cases h with|cons h2 h=>cases h;exact⟨_,_,rfl,h1,h2⟩
theorem gf{ws:List (List Nat)}{lo hi:Option Int}(us:List (List Nat))(d:Ev ta σ H (.ref l))(h1:∀(H:Hp) (R:Option Int->Hp->Prop),R lo H->tl σ H R)(c:∀(H:Hp) (R:Option Int->Hp->Prop),R hi H->th σ H R)(a:WL H l ws)(e:fT (ws.map sv) lo hi=us.map sv)(q:∀p H',au H H'->WL H' p us->Q (.ref p) H'):FH (qt K) ta tl th σ H Q:=
 d _ (h1 _ _ (c _ _ ⟨l,_,rfl,bf.of a,λp b=>q p _ ((au.refl H).upd b) (by unfold WL;rw[<-e];exact ah)⟩))
theorem jk:∀(H:Hp) (R:Option Int->Hp->Prop),R none H->gz σ H R:=λ_ _ h=>h
theorem lY:∀(H:Hp) (R:Option Int->Hp->Prop),R (some i) H->jv (tC (.int i)) σ H R:=λ_ _ h=>⟨i,rfl,h⟩
theorem Nz(h:σ[n]?=some (some (.int i))):∀(H:Hp) (R:Option Int->Hp->Prop),R (some i) H->jv (cV n) σ H R:=λ_ _ r=>aa h _ ⟨i,rfl,r⟩
theorem Bm(h:ss a=ss b):a=b:=by rw[<-cU a,h,cU]
theorem u4 (ws:List (List Nat)):ws.map sv=(ws.map ss).map V.str:=by rw[Ol];rfl
theorem BJ(h:to σ H λx H1=>L_ K T x H1/\ta σ H1 λxs H2=>r x xs H2 Q):D4 K T r to ta σ H Q:=h
theorem Ny(h:∀H,Ev te σ H (.int i)):∀(H:Hp) (R:Option Int->Hp->Prop),R (some i) H->jv te σ H R:=λH _ r=>h H _ ⟨i,rfl,r⟩
theorem vS(h:iB t1 σ H true):iB (Ja t1 t2) σ H true:=λQ q=>h _ (gZ q)
theorem vM(h:Ev ta σ H .non):iB (jr (gb (λx y H Q=>y=.non/\Q (.bl (decide (x=.non))) H) ta (tC .non))) σ H true:=fO (aA (lz h aq)) rfl
theorem kX {b:Type}{R:V->b->Prop}{o:Option b}(h:Ev ta σ H v)(k:EJ R v o):iB (jr (gb (λx y H Q=>y=.non/\Q (.bl (decide (x=.non))) H) ta (tC .non))) σ H o.isNone:=fO (aA (lz h aq)) (by
 cases o with
 |none=>rw[show v=.non from k];rfl
 |some a=>rw[decide_eq_false k.1];rfl)
theorem IA (ws:List (List Nat))(i j:Nat):fT (ws.map sv) (some (i:Int)) (some (j:Int))=((ws.drop i).take (j - i)).map sv:=by
 unfold fT
 rw[HT.sIx_nat,HT.sIx_nat,NG,List.map_take,List.map_drop]
 by_cases hi:i<=ws.length
 ·rw[O4 hi]
  by_cases hj:j<=ws.length
  ·rw[O4 hj]
  ·rw[Nat.min_eq_right (by lia),O3 (by rw[OC,NG];lia),O3 (by rw[OC,NG];lia)]
 ·rw[Nat.min_eq_right (show ws.length<=i by lia),QD (by rw[NG];lia),QD (by rw[NG];lia),List.take_nil,List.take_nil]
theorem jf (ws:List (List Nat))(i:Nat):fT (ws.map sv) (some (i:Int)) none=(ws.drop i).map sv:=by
 unfold fT
 rw[HT.sIx_nat,HT.sIx_none,NG,List.map_drop]
 by_cases hi:i<=ws.length
 ·rw[O4 hi,O3 (by rw[OC,NG];lia)]
 ·rw[Nat.min_eq_right (by lia),QD (by rw[NG];lia),QD (by rw[NG];lia),List.take_nil]
theorem Ea (ws:List (List Nat))(i:Nat):fT (ws.map sv) none (some (i:Int))=(ws.take i).map sv:=by
 unfold fT
 rw[HT.sIx_nat,HT.sIx_none,NG,List.map_take,List.drop_zero,Nat.sub_zero]
 by_cases hi:i<=ws.length
 ·rw[O4 hi]
 ·rw[Nat.min_eq_right (by lia),O3 (by rw[NG];lia),O3 (by rw[NG];lia)]
theorem jB.drop {ws:List (List Nat)}(h:jB ws)(i:Nat):jB (ws.drop i):=⟨λw a=>h.1 w (List.mem_of_mem_drop a),by have:=h.2;rw[OC];lia⟩
theorem jB.take {ws:List (List Nat)}(h:jB ws)(i:Nat):jB (ws.take i):=⟨λw a=>h.1 w (List.mem_of_mem_take a),by have:=h.2;rw[N_];lia⟩
set_option tactic.hygienic true in
theorem eY {ws:List (List Nat)}{ns:List Nat}(h:dC ws k=some ns):ns.length=k/\ws.length=k:=by
 unfold dC at h
 split at h
 ·next e=>exact⟨(iJ h).trans e,e⟩
 ·cases h
theorem Bp {H:Hp}{as:List Addr}{ps:List P3}(h:dw H as (ps.map t3)):as.length=ps.length:=by have:=Paired.length h;rw[NG] at this;exact this
theorem ET(h:¬(1<=ps.length/\ps.length<=2)):sZ ps=none:=by
 match ps,h with
 |[],_=>rfl
 |[_],h=>exact(h ⟨by simp,by simp⟩).elim
 |[_,_],h=>exact(h ⟨by simp,by simp⟩).elim
 |_::_::_::_,_=>rfl
theorem Ay:ss il=Str.ofString "to" :=(nM (by decide+kernel)).symm
theorem Ju (l:List (List Nat)):(l.map ss).count (Str.ofString "to")=l.count il:=by
 rw[<-Ay]
 induction l with
 |nil=>rfl
 |cons a r ih=>
  rw[NQ,Qt,Qt,ih]
  congr 1
  by_cases h:a=il
  ·subst h;simp
  ·rw[if_neg (by simpa using λz=>h (Bm z)),if_neg (by simpa using h)]
theorem GJ:∀{l:List (List Nat)},l.count il=1->l=l.takeWhile (· !=il)++il::(l.dropWhile (· !=il)).drop 1/\il∉l.takeWhile (· !=il)
 |[],h=>nomatch h
 |a::r,h=>by
  by_cases e:a=il
  ·subst e
   rw[List.takeWhile_cons,List.dropWhile_cons]
   simp
  ·have h2:r.count il=1:=by rw[Qt,if_neg (by simpa using e)] at h;exact h
   obtain⟨c,d⟩:=GJ h2
   have b:(a !=il)=true:=by simpa using e
   rw[List.takeWhile_cons,List.dropWhile_cons,if_pos b,if_pos b]
   refine⟨by rw[Pn,<-c],λz=>?_⟩
   rcases NK.mp z with z|z
   ·exact e z.symm
   ·exact d z
theorem nF(h:Ev ta σ H (sv k)):iB (jr (gb JX ta (tC (.str (kS j))))) σ H (decide (k=cp (kS j))):=fO (aA (lD h aq)) (by
 rw[decide_eq_decide]
 exact⟨λe=>by rw[<-e,cU],λe=>by rw[e,wH]⟩)
theorem IP (k:Nat)(a b:List Rw):fk k (a++b)=fk k a++fk k b:=Qe ..
set_option tactic.hygienic true in
theorem E1 {k:List Nat}{ws:List (List Nat)}{w:Rw}(h:gK k ws=some w):k=cp (kS (kd w)):=by
 unfold gK at h
 split at h
 ·next e=>rw[e];split at h<;>cases h;rfl
 split at h
 ·next e=>rw[e];split at h<;>cases h;rfl
 split at h
 ·next e=>rw[e];split at h<;>cases h;rfl
 split at h
 ·next e=>rw[e];split at h<;>cases h;rfl
 split at h
 ·next e=>
  rw[e];unfold sI at h;split at h<;>cases h;rfl
 split at h
 ·next e=>
  rw[e];unfold Dz at h;split at h<;>cases h;rfl
 split at h
 ·next e=>
  rw[e];unfold AX at h
  split at h
  ·split at h
   ·split at h<;>cases h;rfl
   ·cases h
  ·cases h
 ·cases h
noncomputable def Gc (A:List Rw):Except Nat (List Rw)->Except Nat (List Rw)
 | .ok W=> .ok (A++W)
 | .error n=> .error n
theorem jE (b:Bool)(p:List Str×Nat)(r:List (List Str×Nat)):gC b (p::r)=match jh (p.1.map cp) with
  |none=> .error (p.2+1)
  |some w=>if decide (kd w=0)=b then (match gC false r with| .ok W=> .ok (w::W)| .error n=> .error n) else .error (p.2+1):=rfl
theorem lq {K:NJ}{c f:Addr}{E:XK}{n:Nat}{H H1:Hp}{j:TE}{σ:St}{D:ez}(M:IY K c f)(R:mO K c "row")(l:n<1000)(s:au H H1)(e:Ev j σ H1 (.int (n:Nat)))(q:∀d H',au H H'->H' d=some (.xd [("row",.int (n:Nat))])->E (.ref c) (some d) H'):
  wY (λ_=>E) c (mr K) (b9 j dv) D σ H1:=by
 refine e _ ⟨by show 1<=sizeLine;decide,λx m=>⟨x,c,f,n,rfl,l,ah,M,R,λd i a=>⟨rfl,d,?_,?_⟩⟩⟩
 ·rw[ay (N6 a),ah]
 ·refine q d _ (λb o p=>?_) ?_
  ·have g:=s _ _ p
   have h:b≠x:=aD g m
   have b2:b≠d:=λz=>by rw[ay a] at i;rw[z,i] at g;cases g
   rw[m_ h,ay b2,ay h,ay h];exact g
  ·rw[m_ a,ah]
theorem Hy(h:sX ws x):jB (ws.map cp):=by
 obtain⟨y,z,e,d,_,_,g,i⟩:=h
 have j:∀c∈y,c∈cp x:=λc g=>by rw[e];exact Ou _ g
 have b:y.length<=100:=by rw[e,NM] at i;lia
 rw[<-d]
 have a:∀w∈wf y,(∀c∈w,c∈y)/\w.length<=y.length:=λw d=>by
  unfold wf at d
  have:=uH (c:=32) (Pd.mp d).1
  rw[ny] at this
  exact this
 refine⟨λw d=>⟨λc f=>(g c (j c ((a w d).1 c f))).2,NP (a w d).2 b⟩,?_⟩
 have h1:=ym 32 y
 have h2:(wf y).length<=(gS 32 y).length:=by unfold wf;exact Qf _ _
 lia
theorem Em {W:List (List Str)}{p:List Str×Nat}(h:p∈iz W):p.1∈W/\p.1≠[]/\p.2<W.length:=by
 refine⟨AF h,λz=>?_,?_⟩
 ·have:=(Pd.mp h).2
  rw[z] at this;cases this
 ·have h1:=(Pd.mp h).1
  obtain⟨i,hi⟩:=List.getElem?_of_mem h1
  rw[List.getElem?_zipIdx] at hi
  cases e:W[i]? with
  |none=>rw[e] at hi;cases hi
  |some w=>
   rw[e] at hi
   have:(w,0+i)=p:=Option.some.inj hi
   rw[<-this]
   have:=bU e
   show 0+i<_
   lia
theorem jO {Ex:St->XK}(h:lH ta σ H vs)(q:sp vs H Q (Ex σ)):xr Ex sp ta σ H Q:=h _ q
theorem JM(h:Bn n):((n:Int)).natAbs.log2<1920:=G0 h
theorem Me(h:gV p):∀i∈t3 p,i.natAbs.log2<1920:=λi hi=>by
 unfold t3 at hi
 simp only[NK,N3,or_false] at hi
 rcases hi with rfl|rfl|rfl
 ·exact G0 h.1
 ·exact G0 h.2.1
 ·exact G0 h.2.2
theorem Bq:kE z.1 z.2.1 z.2.2 p.1 p.2.1 p.2.2↔In z p:=by unfold kE In;omega
theorem B5(h:¬((1<=z.1/\z.1<=4)/\(1<=z.2.1/\z.2.1<=16)/\(1<=z.2.2/\z.2.2<=16))):oK z m n=false:=by unfold oK;rw[decide_eq_false h];rfl
theorem C6 {d e c:Type}{R:d->c->Prop}{g:e->c}{as:List d}{bs:List e}(h:Paired (λa b=>R a (g b)) as bs):Paired R as (bs.map g):=by
 induction h with
 |nil=>exact .nil
 |cons h t ih=>exact .cons h ih
theorem y4(h:σ[n]?=some (some (.ref p)))(e:A3 H p g)(hi:oN ((t3 g).map V.int) i=some v):Ev (gb (yD K) (cV n) (tC (.int i))) σ H v:=bC (aa h) aq (bY.of e) hi
theorem zQ(c:a<16)(d:b<16):(ui a b).length<=16:=by rw[FG];lia
theorem vZ (m:V)(ps:List P3)(a:Kv):(ps.foldl (r_ m) a).length<=a.length+ps.length:=by
 induction ps generalizing a with
 |nil=>exact NI _
 |cons p r ih=>
  have:=ih (r_ m a p)
  have h:(r_ m a p).length<=a.length+1:=fJ _ _ _
  rw[List.foldl_cons,NU];lia
theorem vC {a b:Type}{g:a->List b}(h:∀x,(g x).length<=k):∀xs:List a,(xs.flatMap g).length<=xs.length*k
 |[]=>by simp
 |x::xs=>by rw[List.flatMap_cons,NM,NU,Nat.succ_mul];have:=h x;have:=vC h xs;omega
theorem Du(hf:jR f)(c:jR s):(bx f s).length<=4096:=by
 have e:=zQ hf.1 c.1
 have d:=zQ hf.2.1 c.2.1
 have g:=zQ hf.2.2 c.2.2
 have h1:∀a b,(uT f s a b).length<=16:=λa b=>by unfold uT;rw[NG];exact g
 have h2:∀a,(Au f s a).length<=256:=λa=>NP (vC (h1 a) _) (NP (Nat.mul_le_mul_right 16 d) (by decide))
 exact NP (vC h2 _) (NP (Nat.mul_le_mul_right 256 e) (by decide))
theorem F3 {K:NJ}{B d:Addr}{as:List Addr}{ps:List P3}{r:Kv}{m:V}{n i:Nat}{A:TE}{D:ez}{σ:St}{H:Hp}(w:H B=some (.lst (as.map V.ref)))(y:dw H as (ps.map t3))(hd:H d=some (.dT r))(N:r.length+ps.length<=10^6)(hi:∀v,(σ.set n (some v))[i]?=some (some (.ref d)))(I:∀v,(σ.set n (some v))[n]?=some (some v))(M:∀v H',Ev A (σ.set n (some v)) H' m)
  (q:∀o H',(o=σ\/∃v,o=σ.set n (some v))->Sb d H H'->H' d=some (.dT (ps.foldl (r_ m) r))->D.nx o H'):jC (λ_ H R=>R (zw K B) H) (dr n) (Az (cV i) (cV n) A) D σ H:=by
 have l:sizeLine=2^24:=rfl
 have f:=Paired.length y
 rw[NG] at f
 refine cZ (K:=K) (xs:=as.map V.ref) (λj o H'=>(o=σ\/∃v,o=σ.set n (some v))/\Sb d H H'/\H' d=some (.dT ((ps.take j).foldl (r_ m) r))) ⟨.inl rfl,Sb.refl d H,hd⟩ (λj o H' _ ⟨_,s,_⟩=>bf.of (s _ _ (ER w hd λz=>nomatch z) w)) ?_ ?_
 ·rintro j x o H' J ⟨u,s,a⟩
  obtain⟨b,F,rfl⟩:=iL J
  obtain⟨c,G,g⟩:=bK y F
  obtain⟨p,E,rfl⟩:=iL G
  have e:o.set n (some (.ref b))=σ.set n (some (.ref b)):=by
   rcases u with rfl|⟨v,rfl⟩
   ·rfl
   ·rw[List.set_set]
  refine gn ?_
  rw[e]
  have C:=vZ m (ps.take j) r
  rw[N_] at C
  have h:=s _ _ (ER g hd λz=>nomatch z) g
  refine xD (M _ _) (aa (hi _)) (aa (I _)) (qJ.t a (GM h) (by lia)) ⟨.inr ⟨_,rfl⟩,s.set,?_⟩
  rw[ah,bO E,List.foldl_append];rfl
 ·rintro o H' ⟨u,s,a⟩
  rw[NG,f,Ob] at a
  exact q o H' u s a
theorem xC (bs:List (V×P3×P3))(b:V×P3×P3):mk (bs++[b])=Lb (mk bs) b:=by unfold mk;rw[List.foldl_append];rfl
theorem HR:∀{bs:List (V×P3×P3)},(∀b∈bs,jR b.2.1/\jR b.2.2)->(mk bs).length<=4096*bs.length:=by
 intro bs
 induction bs using sy with
 |h0=>intro _;exact N9 _
 |h1 bs b ih=>
  intro h
  have h1:=ih λx c=>h x (Ou _ c)
  have a:=h b (by simp)
  rw[xC,NM]
  have:=vZ b.1 (bx b.2.1 b.2.2) (mk bs)
  have:=Du a.1 a.2
  show((bx b.2.1 b.2.2).foldl (r_ b.1) (mk bs)).length<=4096*(bs.length+1)
  lia
theorem CO {a:Type} [DecidableEq a](kvs:List (a×V))(h:(kvs.map (·.1)).Nodup):G3 kvs=kvs:=by
 induction kvs using sy with
 |h0=>rfl
 |h1 xs x ih=>
  rw[NW,List.nodup_append] at h
  rw[nU,ih h.1]
  have n:¬(fD xs x.1).isSome=true:=λz=>h.2.2 x.1 ((wc ..).mp z) x.1 (by simp) rfl
  unfold gO
  rw[gQ,if_neg n]
theorem Je (kvs:Kv)(h:(kvs.map (·.1)).Nodup):Le kvs=kvs:=CO kvs h
theorem IZ {kvs:List (dq×V)}(h:(kvs.map (·.1)).Nodup):J7 kvs=kvs:=CO kvs h
theorem xF(h:p.1<4/\p.2.1<16/\p.2.2<16):∃k:Nat,k<1024/\tupleKeyHash (bG P w) (iK (t3 p))=GR k/\k=256*p.1+16*p.2.1+p.2.2:=⟨_,by omega,LL p.1 p.2.1 p.2.2 (by omega) (by omega) (by omega),rfl⟩
theorem Hl(S:Sz z)(h:In z p):p.1<4/\p.2.1<16/\p.2.2<16:=by
 obtain⟨⟨_,_⟩,⟨_,_⟩,_,_⟩:=S
 obtain⟨_,_,_⟩:=h
 lia
theorem yQ (f:List dq->Int)(a:List (P3×Nat)):(yR a).map (λp=>f p.1)=a.map λq=>f (iK (t3 q.1)):=by
 unfold yR;rw[Ol];rfl
theorem Ar {a b:P3}(h:a.1<4/\a.2.1<16/\a.2.2<16)(h':b.1<4/\b.2.1<16/\b.2.2<16)(e:256*a.1+16*a.2.1+a.2.2=256*b.1+16*b.2.1+b.2.2):a=b:=Prod.ext (by omega) (Prod.ext (by omega) (by omega))
theorem Gg(h:Ht g):qD P w (yR g.ts):=by
 have c:=h.tn
 have hi:=h.ti
 unfold qD
 rw[yQ]
 unfold List.Nodup at c|-
 rw[Qr] at c|-
 refine c.imp_of_mem fun{a b} p o n e=>n ?_
 have d:=Hl h.z (hi a p).1
 have f:=Hl h.z (hi b o).1
 obtain⟨k,k1,k2,k3⟩:=xF (P:=P) (w:=w) d
 obtain⟨j,l,i,m⟩:=xF (P:=P) (w:=w) f
 exact Ar d f (k3▸m▸xj k1 l (k2.symm.trans (e.trans i)))
theorem ko{fs:List (Str×V)}(b:bQ H H' p)(e:H p=some (.ins c d fs))(n:o≠.ins c d fs)(h:H a=some o):H' a=some o:=b _ _ (lO h e n) h
theorem wt.bp{fs:List (Str×V)}{ps:List (Nat×Nat)}(h:wt H l ps)(b:bQ H H' p)(a:H p=some (.ins c d fs)):wt H' l ps:=h.up (λ_ e=>ko b a (λz=>nomatch z) e) λ_ _ e=>ko b a (λz=>nomatch z) e
theorem bQ.tr(b:bQ H H1 p)(b2:bQ H1 H2 p):bQ H H2 p:=λa o n e=>b2 _ _ n (b _ _ n e)
theorem AL.bp{fs:List (Str×V)}(h:AL H l ps)(b:bQ H H' p)(a:H p=some (.ins c d fs)):AL H' l ps:=by
 obtain⟨as,h1,h2⟩:=h
 exact⟨as,ko b a (λz=>nomatch z) h1,jc h2 λ_ _ e=>ko b a (λz=>nomatch z) e⟩
theorem Np:fc "sizes" v []=[(("sizes" :Str),v)]:=by kernel_rfl
theorem Nv:fc "prices" v [("sizes",u)]=[(("sizes" :Str),u),("prices",v)]:=by kernel_rfl
theorem NB {u v w:V}:fc "vias" w [("sizes",u),("prices",v)]=[(("sizes" :Str),u),("prices",v),("vias",w)]:=by kernel_rfl
theorem Nf {u v w x:V}:fc "rocks" x [("sizes",u),("prices",v),("vias",w)]=[(("sizes" :Str),u),("prices",v),("vias",w),("rocks",x)]:=by kernel_rfl
theorem Nj {u v w x y:V}:fc "tolls" y [("sizes",u),("prices",v),("vias",w),("rocks",x)]=[(("sizes" :Str),u),("prices",v),("vias",w),("rocks",x),("tolls",y)]:=by kernel_rfl
theorem G_(b:gV z)(h:In z p):gV p:=by unfold In at h;unfold gV at*;omega
theorem jd {g:Type}{R:V->Rw->Prop}{S:Addr->g->Prop}{f:Rw->Option g}(h0:∀r,kd r≠k->f r=none)(h1:∀v r,kd r=k->R v r->∃a b,v=.ref a/\f r=some b/\S a b):∀{W:List Rw} {c:List V},Paired R c (fk k W)->∃as:List Addr,c=as.map V.ref/\Paired S as (W.filterMap f)
 |[],c,h=>by cases h;exact⟨[],rfl,.nil⟩
 |r::W,c,h=>by
  unfold fk at h
  by_cases e:kd r=k
  ·rw[List.filter_cons_of_pos (by simpa using e)] at h
   cases h with
   |cons a t=>
    obtain⟨x,b,rfl,j,i⟩:=h1 _ _ e a
    obtain⟨as,rfl,d⟩:=jd h0 h1 t
    exact⟨x::as,rfl,by rw[OB,j];exact .cons i d⟩
  ·rw[List.filter_cons_of_neg (by simpa using e)] at h
   obtain⟨as,rfl,d⟩:=jd h0 h1 h
   exact⟨as,rfl,by rw[OB,h0 r e];exact d⟩
theorem GO:∀(a:List P3) (ys:List V),ys.length=a.length->(∀(i:Nat) y,ys[i]?=some y->∃p b,a[i]?=some p/\y=.ref b/\A3 H b p)->∃as:List Addr,ys=as.map V.ref/\dw H as (a.map t3)
 |[],[],_,_=>⟨[],rfl,.nil⟩
 |[],_::_,h,_=>nomatch h
 |_::_,[],h,_=>nomatch h
 |p::a,y::ys,hl,h=>by
  obtain⟨g,b,e,rfl,d⟩:=h 0 y rfl
  cases e
  obtain⟨as,rfl,c⟩:=GO a ys (by simpa using hl) λi y f=>h (i+1) y (by simpa using f)
  exact⟨b::as,rfl,.cons d c⟩
theorem uZ {c:Type}{R:V->c->Prop}{bs:List c}(h:Paired (λa b=>R (.ref a) b) as bs):Paired R (as.map V.ref) bs:=by
 induction h with
 |nil=>exact .nil
 |cons h t ih=>exact .cons h ih
theorem kf(S:Sz z)(h:In z p):jR p:=by
 obtain⟨_,_,_⟩:=h
 obtain⟨⟨_,_⟩,⟨_,_⟩,_,_⟩:=S
 exact⟨by lia,by lia,by lia⟩
theorem BY (m:V)(p:P3):mk [(m,p,p)]=[(iK (t3 p),m)]:=by
 show(bx p p).foldl (r_ m) []=_
 have h:∀a,ui a a=[a]:=λa=>by unfold ui;simp
 have:bx p p=[p]:=by unfold bx Au uT;rw[h,h,h];rfl
 rw[this]
 rfl
theorem GE(d:mj z W=true)(b:pM W=true)(c:xq z W=true)(g:W.filterMap vq=[(.bl true,p,p)])(f:W.filterMap rH=[(.int ((n:Nat):Int),q,q)])(e:W.filterMap vO=[n]):Ht (JI z W p q n):=by
 unfold mj oK at d
 unfold pM D9 at b
 unfold xq at c
 rw[g,f] at c
 rw[e] at b
 simp only[N8,decide_eq_true_eq,Oa,fY] at d b
 simp only[Pn,List.nil_append,PL,List.all_nil,Ai,Bool.and_true,Bool.and_self,N8,decide_eq_true_eq] at c
 refine⟨d.1,d.2.1,λx a=>?_,d.2.2,λx a=>?_,λx a=>?_,by simp[JI],λx a=>?_,by simp[JI]⟩
 ·have:=b.1.1 x a;unfold Pr;omega
 ·have:=b.1.2 x a;unfold Pr;omega
 ·rw[NR.mp a];exact c.1
 ·rw[NR.mp a];exact⟨c.2,(b.2 n (NR.mpr rfl)).2⟩
theorem Ks {c j:Type}{f:c->j}{xs:List c}(d:xs.Nodup)(h:∀a∈xs,∀b∈xs,f a=f b->a=b):(xs.map f).Nodup:=by
 unfold List.Nodup at d|-
 rw[Qr]
 exact d.imp_of_mem fun{a b} g i n e=>n (h a g b i e)
theorem GU {ps:List P3}:(ps.map t3).Nodup↔ps.Nodup:=⟨λh=>(Qr.mp h).imp λn e=>n (by rw[e]),λh=>Ks h λ_ _ _ _ e=>DW e⟩
theorem CS{fs:List (Str×V)}(h:Eo H t ps)(b:bQ H H' p)(a:H p=some (.ins c d fs)):Eo H' t ps:=by
 obtain⟨as,h1,h2⟩:=h
 exact⟨as,ko b a (λz=>nomatch z) h1,jc h2 λ_ _ e=>ko b a (λz=>nomatch z) e⟩
theorem vV{l:Addr}(nt:H t=none)(h:dw H as (ps.map t3)):Eo (upd H t (.tup (as.map V.ref))) t ps:=⟨as,ah,dw.same h ((au.refl H).upd nt)⟩
theorem Ci(h:Wd x):K9 (ss x):=⟨by
 rw[<-Array.all_toList,Oa]
 intro c a
 exact decide_eq_true (h.1 c (by rw[<-cU x];exact a)),by rw[<-dS,cU];have:=h.2;lia⟩
theorem DI(h:Ev ta σ H (.str (kS (kd r))))(a:j<=6):iB (jr (gb JX ta (tC (.str (kS j))))) σ H (decide (kd r=j)):=fO (aA (lD h aq)) (by rw[Dy _ (Dh r) _ a])
theorem Dq{g:Tg}(t:wX cN cB H p g)(c:Ev te σ H (.ref p))(d:mF K cN)(j:bL K cN f)(i:mF K cB)(e:bL K cB f)(a:∀fs,Bi fs g.nm g.hf g.rm->fs.lookup f=some v):Ev (FR K te f) σ H v:=by
 obtain⟨dx,fs,as,b,l,h⟩:=t
 rcases h with ⟨h1,_⟩|⟨h1,_⟩
 ·exact dA c h1 d j (a _ b)
 ·exact dA c h1 i e (a _ b)
theorem Kh{L:Int}{b:List kD}{a:List Tg}(d:lE L R C b a k)(t:Ao a):k=1:=by
 rcases d with ⟨e,_⟩|⟨_,n,_⟩|⟨_,n,_⟩|⟨_,n,_⟩
 ·exact e
 ·exact absurd t n
 ·exact absurd t n
 ·exact absurd t n
theorem Lg{L:Int}{b:List kD}{a:List Tg}(d:lE L R C b a k)(t:¬Ao a)(f:¬qw L R C b a):k=2:=by
 rcases d with ⟨_,n⟩|⟨e,_⟩|⟨_,_,n,_⟩|⟨_,_,n,_⟩
 ·exact absurd n t
 ·exact e
 ·exact absurd n f
 ·exact absurd n f
theorem Lq{L:Int}{b:List kD}{a:List Tg}(d:lE L R C b a k)(t:¬Ao a)(f:qw L R C b a)(c:pk a):k=3:=by
 rcases d with ⟨_,n⟩|⟨_,_,n⟩|⟨e,_⟩|⟨_,_,_,n⟩
 ·exact absurd n t
 ·exact absurd f n
 ·exact e
 ·exact absurd c n
theorem Ko{L:Int}{b:List kD}{a:List Tg}(d:lE L R C b a k)(t:¬Ao a)(f:qw L R C b a)(c:¬pk a):k=0:=by
 rcases d with ⟨_,n⟩|⟨_,_,n⟩|⟨_,_,_,n⟩|⟨e,_⟩
 ·exact absurd n t
 ·exact absurd f n
 ·exact absurd n c
 ·exact e
theorem AC {a:List Tg}{ps:List Addr}{i:Nat}{g:Tg}{p:Addr}(c:a[i]?=some g)(b:ps[i]?=some p):FZ (a.take (i+1)) (ps.take (i+1))=FZ (a.take i) (ps.take i)++[(.inr g.nm,.ref p)]:=by
 have h1:=bU c
 have h2:=bU b
 unfold FZ
 rw[bO c,bO b,List.zip_append (by rw[N_,N_];lia),NW]
 rfl
theorem CJ{b:List (dq×V)}{kv:dq×V}(h:L7 H as b)(e:H a=some (.tup [kV kv.1,kv.2])):L7 H (as++[a]) (b++[kv]):=by
 induction h with
 |nil=>exact .cons e .nil
 |cons r _ ih=>exact .cons r ih
theorem Aw{g:Tg}(t:wX cN cB H q g)(b:bQ H H' p)(hi:∀C dx fs,H p=some (.ins C dx fs)->fs=[])(m:∀xs,¬H p=some (.tup xs)):wX cN cB H' q g:=by
 obtain⟨dx,fs,as,f,d,h⟩:=t
 have up:∀a xs,H a=some (.tup xs)->H' a=some (.tup xs):=λa xs e=>b a _ (λz=>m xs (z▸e)) e
 refine⟨dx,fs,as,f,Paired.mapP d λa c e=>up a _ e,?_⟩
 rcases h with ⟨h1,t,h2,i⟩|⟨h1,t,u,a,o,e,h2,i,l,n⟩
 ·exact .inl ⟨b _ _ (λz=>by have:=f.name;have j:=hi _ dx fs (z▸h1);rw[j] at this;cases this) h1,t,h2,up _ _ i⟩
 ·exact .inr ⟨b _ _ (λz=>by have:=f.name;have j:=hi _ dx fs (z▸h1);rw[j] at this;cases this) h1,t,u,a,o,e,h2,i,up _ _ l,up _ _ n⟩
theorem iA.k1(h:iA z W k)(e:mj z W=false):k=1:=by
 cases h with
 |d1 _=>rfl
 |d2 a _=>rw[a] at e;cases e
 |d3 a _ _=>rw[a] at e;cases e
 |d4 p q n o=>rw[o.o1] at e;cases e
 |d5 p q n k o=>rw[o.o1] at e;cases e
theorem iA.k2(h:iA z W k)(b:mj z W=true)(e:pM W=false):k=2:=by
 cases h with
 |d1 a=>rw[a] at b;cases b
 |d2 a _=>rfl
 |d3 _ a _=>rw[a] at e;cases e
 |d4 p q n o=>rw[o.o2] at e;cases e
 |d5 p q n k o=>rw[o.o2] at e;cases e
theorem iA.k3(h:iA z W k)(c:mj z W=true)(b:pM W=true)(e:xq z W=false):k=3:=by
 cases h with
 |d1 a=>rw[a] at c;cases c
 |d2 _ a=>rw[a] at b;cases b
 |d3 _ _ a=>rfl
 |d4 p q n o=>rw[o.o3] at e;cases e
 |d5 p q n k o=>rw[o.o3] at e;cases e
theorem iA.k4(h:iA z W k)(c:mj z W=true)(b:pM W=true)(e:xq z W=true):∃p q n,L5 W p q n/\((W.all lK=false/\k=4)\/(W.all lK=true/\∃j,lE (z.1:Nat) (z.2.1:Nat) (z.2.2:Nat) [r3 p] ((W.filterMap kJ).map lU) j/\k=(if j=0 then 0 else j+4)/\(W.filterMap kJ).length<=12/\∀g∈W.filterMap kJ,g.es.length<=7)):=by
 cases h with
 |d1 a=>rw[a] at c;cases c
 |d2 _ a=>rw[a] at b;cases b
 |d3 _ _ a=>rw[a] at e;cases e
 |d4 p q n o s a=>exact⟨p,q,n,s,.inl ⟨a,rfl⟩⟩
 |d5 p q n j o s a d l es=>exact⟨p,q,n,s,.inr ⟨a,j,d,rfl,l,es⟩⟩
theorem zm {d:List (List Str)}(h:gv d=.ok R):R.length<=(iz d).length:=by
 have a:∀(c:List (List Str×Nat)) (b:Bool) (R:List Rw),gC b c=.ok R->R.length=c.length:=by
  intro c
  induction c with
  |nil=>intro b R h;cases h;rfl
  |cons p r ih=>
   intro b R h
   rw[jE] at h
   split at h
   ·cases h
   ·split at h
    ·split at h
     ·next W e=>cases h;rw[NU,NU,ih _ _ e]
     ·cases h
    ·cases h
 unfold gv at h
 split at h
 ·cases h
 ·exact Nat.le_of_eq (a _ _ _ h)
theorem CG:(kd r=5\/kd r=6)↔∃g,kJ r=some g:=by
 cases r<;>simp[kd,kJ]
theorem Hk {fs:List (Str×V)}(b:Hs fs x h r):Bi fs x (h:Nat) (r:Nat):=⟨b.few,b.name,b.half,b.room,b.ends⟩
theorem Bf.ta(t:Bf cN cB H p g):wX cN cB H p (lU g):=by
 rcases t with ⟨e,dx,fs,t,h1,b,h2,as,c,a⟩|⟨e,h,dx,fs,t,u,h1,b,h2,c,⟨as,a,f⟩,bs,d,i⟩
 ·exact⟨dx,fs,as,Hk b,by show dw H as (g.es.map t3);unfold Tn.es;rw[e,Os];exact a,.inl ⟨h1,t,h2,c⟩⟩
 ·exact⟨dx,fs,as++bs,by rw[<-h] at b;exact Hk b,by show dw H _ (g.es.map t3);unfold Tn.es;rw[NW];exact nk f i,.inr ⟨h1,t,u,as,bs,rfl,h2,c,a,d⟩⟩
theorem Eo.up(h:Eo H t ps)(s:∀b xs,H b=some (.tup xs)->H' b=some (.tup xs)):Eo H' t ps:=by
 obtain⟨as,h1,h2⟩:=h
 exact⟨as,s _ _ h1,jc h2 s⟩
theorem Bf.up(h:Bf cN cB H p g)(s:∀b xs,H b=some (.tup xs)->H' b=some (.tup xs))(u:∀C dx fs,H p=some (.ins C dx fs)->H' p=some (.ins C dx fs)):Bf cN cB H' p g:=by
 rcases h with ⟨e,dx,fs,t,h1,b,h2,a⟩|⟨e,f,dx,fs,t,v,h1,b,h2,a,c,d⟩
 ·exact .inl ⟨e,dx,fs,t,u _ _ _ h1,b,h2,a.up s⟩
 ·exact .inr ⟨e,f,dx,fs,t,v,u _ _ _ h1,b,h2,a,c.up s,d.up s⟩
theorem JR(h:MN cF H f (JI z W p q n)):Fl cF H f (z.1:Nat) (z.2.1:Nat) (z.2.2:Nat) [r3 p]:=by
 obtain⟨dx,fs,a,d,c,b,ta,x⟩:=h
 refine⟨dx,a,b,fs,_,x.ha,x.f1,x.f4,x.no _ (by decide+kernel),x.z,x.rd,λu=>?_⟩
 show(fD [(iK (t3 p),V.bl true)] (k3 u)).isSome=decide (u∈[r3 p])
 have:k3 u=iK (t3 p)↔u=r3 p:=by
  constructor
  ·intro e
   exact IG (q:=r3 p) e
  ·rintro rfl;rfl
 rw[PB,wc,decide_eq_true_iff,NR,NQ,OA,NR]
 exact this
theorem Lu(h:kJ r=some g)(b:RB r)(t:lK r=true)(l:g.es.length<=7):sU (lU g):=by
 have a:kh g.nm=true/\g.h<=2/\g.r<=3/\∀c∈g.es,gV c:=by
  cases r with
  |net x h r cs=>
   cases Option.some.inj h
   simp only[lK,jm,kR,N8,decide_eq_true_eq] at t
   exact⟨t.1.1,t.1.2.1,t.1.2.2,λc d=>b.2.2.2.2 c (by simpa[Tn.es] using d)⟩
  |bun x r cs ds=>
   cases Option.some.inj h
   simp only[lK,f_,kR,N8,decide_eq_true_eq] at t
   exact⟨t.1.1,N9 _,t.1.2.2,λc d=>b.2.2.2 c d⟩
  |_=>cases h
 obtain⟨h1,h2,i,e⟩:=a
 refine⟨⟨?_⟩,?_,?_,?_,?_,λc d=>?_,?_⟩
 ·show g.nm.length<=12
  by_cases hn:1<=g.nm.length/\g.nm.length<=12
  ·exact hn.2
  ·rw[oR hn] at h1;cases h1
 ·show(0:Int)<=(g.h:Nat);lia
 ·show((g.h:Nat):Int)<=2;lia
 ·show(0:Int)<=(g.r:Nat);lia
 ·show((g.r:Nat):Int)<=3;lia
 ·obtain⟨p,f,rfl⟩:=N0.mp d
  have:=e p f
  unfold gV at this
  exact⟨_,_,_,rfl,by lia,by lia,by lia⟩
 ·show(g.es.map t3).length<=7;rw[NG];exact l
theorem iA.le(h:iA z W k):k<=7:=by
 cases h with
 |d5 p q n k o s a d=>
  rcases d with ⟨rfl,_⟩|⟨rfl,_⟩|⟨rfl,_⟩|⟨rfl,_⟩<;>decide
 |_=>decide
theorem oq (a b:List Nat):ss a++ss b=ss (a++b):=nM (by rw[uI,cU,cU])
theorem gj (a:List Nat):(ss a).length=a.length:=by rw[<-dS,cU]
theorem kg(d:Ev ta σ H (sv a))(c:Ev tb σ H (sv b))(e:a.length+b.length<=1000):Ev (gb (λx y H Q=>∃i j,x=.str i/\y=.str j/\i.length+j.length<=sizeLine/\Q (.str (i++j)) H) ta tb) σ H (sv (a++b)):=aU (xI d c (by rw[gj,gj];have:sizeLine=2^24:=rfl;lia)) (congrArg V.str (oq a b))
theorem gH:Ev (tC (.str (Str.ofString s))) σ H (sv (L s)):=aU aq (congrArg V.str (nM (KU s)))
theorem qp (n:Nat):Str.ofString (toString ((n:Nat):Int))=ss (dg n):=nM (Iz n)
theorem kP(h:Ev ta σ H (.int (n:Nat)))(b:n<=10^19):Ev (xS (λxs H Q=>∃i:Int,xs=[.int i]/\i.natAbs.log2<1920/\Q (.str (toString i)) H) (b9 ta dv)) σ H (sv (dg n)):=aU (dB (v:=.str (Str.ofString (toString ((n:Nat):Int)))) (ag h az) λQ' a=>⟨_,rfl,G0 (by lia),a⟩) (by rw[qp];rfl)
theorem nB(h:n<10^19):(dg n).length<=19:=bR (k:=19) (by decide) h
noncomputable def KN (l:List Nat):Bool:=l.all (λd=>decide (d<128)&&(decide (d≠59)&&decide (d≠10)))&&decide (l.length<=100)
theorem j9(h:KN (cp x)=true):gu x (iH (wf (cp x))):=by
 unfold KN at h
 rw[N8,Oa] at h
 refine⟨wf (cp x),sX.plain ?_ (λd a=>by have:=h.1 d a;simp at this;omega) (of_decide_eq_true h.2),rfl⟩
 rw[Ol]
 exact(List.map_id'' (λz=>cU z) _).symm
def MH:Rk->Bool
 | .ba=>true
 |_=>false
noncomputable def An:List Str:=(["wire 1", "layer 1", "layer 1 2 3", "via 01", "rock", "rock 0.0.0 0.0.0 0.0.0", "rock 0.0", "toll 0.0.0", "toll x 0.0.0", "toll 1", "net a 0", "net a 0 x 0.0.0 0.0.1", "net a 0 0 0.0.0 0.0.x", "net", "bundle a 0 0.0.0 0.0.1", "bundle a 0 0.0.0 to 0.0.1 to 0.0.2", "bundle to 0 0.0.0", "Layer 1 1", "via", "via -1", "via 1 1", "floor 2 6", "layer 1 1000000000000000000", "rock 0.0.0to", "net a 0 0 to", "toll 1 2 0.0.0", "bundle a x 0.0.0 to 0.0.1", "bundle a to 0.0.0", "floor 2 6 6 6", "rock 0.0.0.0", "toll", "bundle"]:List String).map Str.ofString
theorem LO:∀x∈An,(KN (cp x)&&MH (iH (wf (cp x))))=true:=by decide+kernel
theorem Kx:Str.ofString "layer 1 " ++Str.ofString (toString ((10:Int)^(18:Int).toNat))=Str.ofString "layer 1 1000000000000000000" :=DY (by decide+kernel)
theorem vo {xs:List Str}{i:Int}(h0:0<=i)(h1:i<xs.length):∃x∈xs,oN (xs.map V.str) i=some (.str x):=by
 obtain⟨k,rfl⟩:=OO h0
 have a:k<xs.length:=by lia
 exact⟨xs[k],Qb a,eg (by rw[Od,Ox a];rfl)⟩
theorem iR(ys:List Str){Q:VK}(b:lH ta σ H vs)(e:vs=ys.map V.str)(c:ys.length<=1000)(q:∀p H',au H H'->H p=none->H' p=some (.lst (ys.map V.str))->Q (.ref p) H'):mU ta σ H Q:=by
 subst e
 exact ox b (by have:sizeLine=2^24:=rfl;rw[NG];lia) λp a=>q p _ ((au.refl H).upd a) a ah
theorem jS {ta:TA}{σ:St}{H:Hp}{l:Addr}{vs:List V}{xs:List Str}(n k:Nat){i:Nat}{Q:VK}(hi:σ[i]?=some (some (.ref l)))(b:H l=some (.lst ((xs.take n).map V.str)))(hx:xs.length<=100)(f:lH ta σ H vs)(e:vs=((xs.drop n).take k).map V.str)(q:∀p H',au H H'->H' p=some (.lst ((xs.take (n+k)).map V.str))->Q (.ref p) H'):gb zD (cV i) (mU ta) σ H Q:=by
 have h1:((xs.drop n).take k).length<=100:=by rw[N_,OC];lia
 have h2:(xs.take n).length<=100:=by rw[N_];lia
 have a:sizeLine=2^24:=rfl
 refine dH (bB (aa hi) (iR _ f e (by lia) λp H1 s1 _ c=>?_))
 refine⟨l,p,_,_,rfl,rfl,s1 _ _ b,c,by rw[NG,NG];lia,λu d=>?_⟩
 exact q u _ (s1.trans ((au.refl H1).upd d)) (by rw[ah,List.take_add,NW])
theorem fX {n:Nat}(h:n<10^18):iN (dg n)=some n:=by rw[pQ (FE h),Js]
theorem qf (p:P3):gS 46 (cu p)=[dg p.1,dg p.2.1,dg p.2.2]:=by
 unfold cu
 rw[vP (by simp) λw a=>?_]
 simp only[NK,N3,or_false] at a
 rcases a with rfl|rfl|rfl<;>exact HU _
theorem zZ(h:p.1<10^18/\p.2.1<10^18/\p.2.2<10^18):dN (cu p)=some p:=by
 rw[tH,qf,bV,bV,bV,fX h.1,fX h.2.1,fX h.2.2]
 rfl
def xy (w:List Nat):Prop:=w≠[]/\∀c∈w,33<=c/\c<128/\c≠59
theorem gJ (n:Nat):xy (dg n):=⟨D6 n,λc a=>by have:=qZ n c a;lia⟩
theorem Fv (p:P3):xy (cu p):=by
 refine⟨λz=>?_,λc b=>?_⟩
 ·have h:=qf p
  rw[z] at h
  exact absurd (show(gS 46 []).length=3 from congrArg List.length h) (by decide)
 ·unfold cu at b
  rcases vm b with e|⟨w,a,d⟩
  ·omega
  ·simp only[NK,N3,or_false] at a
   rcases a with rfl|rfl|rfl<;>(have:=qZ _ c d;omega)
noncomputable def J0 (w:List Nat):Bool:=!w.isEmpty&&w.all λc=>decide (33<=c)&&(decide (c<128)&&decide (c≠59))
theorem ic {w:List Nat}(h:J0 w=true):xy w:=by
 unfold J0 at h
 rw[N8,Oa] at h
 refine⟨(λz=>by rw[z] at h;exact absurd h.1 (by decide)),λc a=>?_⟩
 have:=h.2 c a
 simp at this
 exact this
theorem IE {ws:List (List Nat)}(h:∀w∈ws,xy w):∀c∈jl 32 ws,c<128/\c≠59/\c≠10:=λc b=>by
 rcases vm b with e|⟨w,a,d⟩
 ·lia
 ·have:=(h w a).2 c d;lia
theorem m6{ws:List (List Nat)}(e:l=jl 32 ws)(c:ws≠[])(ok:∀w∈ws,xy w)(j:l.length<=100)(h:jh ws=some r):gu (ss l) (.gd r):=by
 refine⟨ws,sX.plain ?_ (λd i=>?_) (by rw[cU];exact j),?_⟩
 ·have m:ws.map (cp∘ss)=ws:=by rw[QE (f:=cp∘ss) (g:=id) (λz _=>cU z),List.map_id]
  rw[cU,e,Ol,m]
  unfold wf
  rw[vP c λw b z=>by have:=(ok w b).2 32 z;omega]
  exact List.filter_eq_self.mpr λw b=>by
   have:=(ok w b).1
   cases w with
   |nil=>exact(this rfl).elim
   |cons a r=>rfl
 ·rw[cU,e] at i
  exact IE ok d i
 ·unfold iH
  rw[if_neg c,h]
theorem aW (a b:List Nat)(r:List (List Nat)):jl 32 (a::b::r)=a++32::jl 32 (b::r):=d_ (by simp)
theorem dE (a:List Nat):jl 32 [a]=a:=rfl
theorem IW:L " " =[32]:=by decide+kernel
theorem rj{k:Nat}(b:a<10^18):dC [dg a] 1=some [a]:=by unfold dC;rw[if_pos (show [dg a].length=1 from rfl),bV,fX b];rfl
theorem xm(c:a<10^18)(d:b<10^18):dC [dg a,dg b] 2=some [a,b]:=by unfold dC;rw[if_pos (show [dg a,dg b].length=2 from rfl),bV,bV,fX c,fX d];rfl
theorem Fe(d:a<10^18)(f:b<10^18)(e:c<10^18):dC [dg a,dg b,dg c] 3=some [a,b,c]:=by unfold dC;rw[if_pos (show [dg a,dg b,dg c].length=3 from rfl),bV,bV,bV,fX d,fX f,fX e];rfl
theorem yX(c:a<10^18)(d:b<10^18):jh [cp (kS 1),dg a,dg b]=some (.layer a b):=by
 show gK (cp (kS 1)) [dg a,dg b]=_
 unfold gK
 rw[if_neg (by decide+kernel),if_pos rfl,xm c d]
theorem FO(b:a<10^18):jh [cp (kS 2),dg a]=some (.via a):=by
 show gK (cp (kS 2)) [dg a]=_
 unfold gK
 rw[if_neg (by decide+kernel),if_neg (by decide+kernel),if_pos rfl,rj (k:=0) b]
theorem zL(h:z.1<10^18/\z.2.1<10^18/\z.2.2<10^18):jh [cp (kS 0),dg z.1,dg z.2.1,dg z.2.2]=some (.floor z):=by
 show gK (cp (kS 0)) [dg z.1,dg z.2.1,dg z.2.2]=_
 unfold gK
 rw[if_pos rfl,Fe h.1 h.2.1 h.2.2]
theorem gX:∀{ps:List P3},(∀p∈ps,gN p)->fu dN (ps.map cu)=some ps
 |[],_=>rfl
 |p::r,h=>by
  rw[NQ,bV,zZ (h p N7),gX λq a=>h q (NV _ a)]
theorem AG{c:P3×P3}(h:∀p∈ps,gN p)(a:sZ ps=some c):jh (cp (kS 3)::ps.map cu)=some (.rock c.1 c.2):=by
 show gK (cp (kS 3)) (ps.map cu)=_
 unfold gK lL
 rw[if_neg (by decide+kernel),if_neg (by decide+kernel),if_neg (by decide+kernel),if_pos rfl,gX h]
 dsimp only
 rw[a]
theorem BK{c:P3×P3}(a:n<10^18)(h:∀p∈ps,gN p)(b:sZ ps=some c):jh (cp (kS 4)::dg n::ps.map cu)=some (.toll n c.1 c.2):=by
 show gK (cp (kS 4)) (dg n::ps.map cu)=_
 unfold gK
 rw[if_neg (by decide+kernel),if_neg (by decide+kernel),if_neg (by decide+kernel),if_neg (by decide+kernel),if_pos rfl]
 unfold sI lL
 rw[show(dg n::ps.map cu).take 1=[dg n] from rfl,show(dg n::ps.map cu).drop 1=ps.map cu from rfl,rj (k:=0) a,gX h]
 dsimp only
 rw[b]
theorem EV(c:a<10^18)(d:b<10^18)(h:∀p∈ps,gN p):jh (cp (kS 5)::x::dg a::dg b::ps.map cu)=some (.net x a b ps):=by
 show gK (cp (kS 5)) (x::dg a::dg b::ps.map cu)=_
 unfold gK
 rw[if_neg (by decide+kernel),if_neg (by decide+kernel),if_neg (by decide+kernel),if_neg (by decide+kernel),if_neg (by decide+kernel),if_pos rfl]
 unfold Dz
 rw[show((x::dg a::dg b::ps.map cu).drop 1).take 2=[dg a,dg b] from rfl,show(x::dg a::dg b::ps.map cu).drop 3=ps.map cu from rfl,xm c d,gX h]
 rfl
theorem vD (p:P3):cu p≠il:=λe=>by
 have:=qf p
 rw[e] at this
 exact absurd (show(gS 46 il).length=3 from congrArg List.length this) (by decide)
theorem Ho {cs ds:List P3}:(cs.map cu++il::ds.map cu).count il=1/\(cs.map cu++il::ds.map cu).takeWhile (· !=il)=cs.map cu/\((cs.map cu++il::ds.map cu).dropWhile (· !=il)).drop 1=ds.map cu:=by
 have z:∀ps:List P3,(ps.map cu).count il=0:=λps=>List.count_eq_zero.mpr λa=>by
  obtain⟨p,_,e⟩:=N0.mp a
  exact vD p e
 refine⟨by rw[List.count_append,Qt,z,z];simp,?_,?_⟩
 ·induction cs with
  |nil=>simp
  |cons p r ih=>
   rw[NQ,Pn,List.takeWhile_cons,if_pos (by simpa using vD p),ih]
 ·induction cs with
  |nil=>simp
  |cons p r ih=>
   rw[NQ,Pn,List.dropWhile_cons,if_pos (by simpa using vD p),ih]
theorem F4 {x:List Nat}{a:Nat}{cs ds:List P3}(f:a<10^18)(h:∀p∈cs,gN p)(e:∀p∈ds,gN p):jh (cp (kS 6)::x::dg a::(cs.map cu++il::ds.map cu))=some (.bun x a cs ds):=by
 show gK (cp (kS 6)) (x::dg a::(cs.map cu++il::ds.map cu))=_
 unfold gK
 rw[if_neg (by decide+kernel),if_neg (by decide+kernel),if_neg (by decide+kernel),if_neg (by decide+kernel),if_neg (by decide+kernel),if_neg (by decide+kernel),if_pos rfl]
 unfold AX
 obtain⟨d,c,b⟩:= @Ho cs ds
 rw[show((x::dg a::(cs.map cu++il::ds.map cu)).drop 1).take 1=[dg a] from rfl,show(x::dg a::(cs.map cu++il::ds.map cu)).drop 2=cs.map cu++il::ds.map cu from rfl,rj (k:=0) f]
 dsimp only
 rw[if_pos d,c,b,gX h,gX e]
 rfl
theorem G8 {cs:List Int}{i:Nat}(h:cs.length=12)(hi:i<12):oN (cs.map V.int) (i:Nat)=some (.int (cs.getD i 0)):=eg (by
 rw[Od,Ox (by lia),OJ,Ox (by lia)];rfl)
theorem cv {K:NJ}{σ:St}{H:Hp}{cl:Addr}{cs:List Int}{j i:Nat}(b:σ[j]?=some (some (.ref cl)))(h:H cl=some (.lst (cs.map V.int)))(a:cs.length=12)(hi:i<12):Ev (gb (uh K) (cV j) (tC (.int (i:Nat)))) σ H (.int (cs.getD i 0)):=dG (aa b) aq (bf.of h) (G8 a hi)
theorem wB(h:6<=R):((jK R cs:Nat):Int)=cs.getD 2 0%((R:Nat) - 5:Int)/\jK R cs+6<=R:=by
 have h1:=OK (cs.getD 2 0) (show((R:Nat) - 5:Int)≠0 by omega)
 have h2:=OL (cs.getD 2 0) (show(0:Int)<(R:Nat) - 5 by omega)
 unfold jK
 omega
theorem wA(h:6<=C):((jL C cs:Nat):Int)=cs.getD 3 0%((C:Nat) - 5:Int)/\jL C cs+6<=C:=by
 have h1:=OK (cs.getD 3 0) (show((C:Nat) - 5:Int)≠0 by lia)
 have h2:=OL (cs.getD 3 0) (show(0:Int)<(C:Nat) - 5 by lia)
 unfold jL
 lia
theorem oS(h:p.1<10^2/\p.2.1<10^2/\p.2.2<10^2):(cu p).length<=8:=by
 have b:=bR (k:=2) (n:=p.1) (by decide) h.1
 have c:=bR (k:=2) (n:=p.2.1) (by decide) h.2.1
 have a:=bR (k:=2) (n:=p.2.2) (by decide) h.2.2
 unfold cu;rw[MK];simp only[NM,NU];lia
def B4 (a:TE) (σ:St) (H:Hp) (l:List Nat) (m:Nat):Prop:=Ev a σ H (sv l)/\l.length<=m
theorem ki(h:B4 te σ H l m):Ev te σ H (sv l):=h.1
theorem cn(x:B4 ta σ H a m)(y:B4 tb σ H b n)(h:m+n<=1000:=by decide):B4 (gb (λx y H Q=>∃i j,x=.str i/\y=.str j/\i.length+j.length<=sizeLine/\Q (.str (i++j)) H) ta tb) σ H (a++b) (m+n):=
 ⟨kg x.1 y.1 (by have:=x.2;have:=y.2;lia),by rw[NM];have:=x.2;have:=y.2;lia⟩
theorem df (s:String)(m:Nat){σ:St}{H:Hp}(h:(L s).length<=m:=by decide+kernel):B4 (tC (.str (Str.ofString s))) σ H (L s) m:=⟨gH,h⟩
theorem jD(h:Ev ta σ H (.int (n:Nat)))(a:n<10^19):B4 (xS (λxs H Q=>∃i:Int,xs=[.int i]/\i.natAbs.log2<1920/\Q (.str (toString i)) H) (b9 ta dv)) σ H (dg n) 19:=⟨kP h (by lia),nB a⟩
theorem cQ(f:Ev ta σ H (.int (a:Nat)))(g:Ev tb σ H (.int (b:Nat)))(d:Ev tc σ H (.int (c:Nat)))(h:a<10^2/\b<10^2/\c<10^2):B4 (jo hV (b9 ta (b9 tb (b9 tc dv)))) σ H (cu (a,b,c)) 8:=
 ⟨jN (ag f (ag g (ag d az))) λQ' e=>⟨a,b,c,rfl,by lia,by lia,by lia,e⟩,oS h⟩
theorem kF(h:σ[i]?=some (some (sv l)))(a:l.length<=m):B4 (cV i) σ H l m:=⟨aa h,a⟩
theorem qA:L "layer " =cp (kS 1)++[32]:=by decide+kernel
theorem GP:L "via " =cp (kS 2)++[32]:=by decide+kernel
theorem CZ:L "rock " =cp (kS 3)++[32]:=by decide+kernel
theorem Bl:L "toll " =cp (kS 4)++[32]:=by decide+kernel
theorem Iu:L "net neta 0 0 " =cp (kS 5)++32::(fP++32::(dg 0++32::(dg 0++[32]))):=by decide+kernel
theorem ID:L "bundle bun1 0 " =cp (kS 6)++32::(fQ++32::(dg 0++[32])):=by decide+kernel
theorem LJ:L " to " =32::(il++[32]):=by decide+kernel
theorem Nk:L " 1" =32::dg 1:=by decide+kernel
theorem wk (k:Nat)(h:k<=6):xy (cp (kS k)):=(show∀k,k<=6->xy (cp (kS k)) from λk a=>ic ((show∀k,k<7->J0 (cp (kS k))=true by decide+kernel) k (by lia))) k h
theorem eZ {w:List Nat}{ws:List (List Nat)}(a:xy w)(h:∀v∈ws,xy v):∀v∈w::ws,xy v:=λv hv=>by
 rcases NK.mp hv with rfl|hv
 ·exact a
 ·exact h v hv
theorem Jw:∀v∈([]:List (List Nat)),xy v:=λ_ h=>nomatch h
theorem mS {ps:List P3}:∀w∈ps.map cu,xy w:=λw a=>by
 obtain⟨p,_,rfl⟩:=N0.mp a
 exact Fv p
theorem iQ(d:a<10^18)(f:b<10^18)(e:l=jl 32 [cp (kS 1),dg a,dg b])(c:l.length<=100):gu (ss l) (.gd (.layer a b)):=
 m6 e (by simp) (eZ (wk 1 (by decide)) (eZ (gJ _) (eZ (gJ _) Jw))) c (yX d f)
theorem uY(c:a<10^18)(e:l=jl 32 [cp (kS 2),dg a])(b:l.length<=100):gu (ss l) (.gd (.via a)):=
 m6 e (by simp) (eZ (wk 2 (by decide)) (eZ (gJ _) Jw)) b (FO c)
theorem su(h:gN z)(e:l=jl 32 [cp (kS 0),dg z.1,dg z.2.1,dg z.2.2])(a:l.length<=100):gu (ss l) (.gd (.floor z)):=
 m6 e (by simp) (eZ (wk 0 (by decide)) (eZ (gJ _) (eZ (gJ _) (eZ (gJ _) Jw)))) a (zL h)
theorem wV {ps:List P3}{c:P3×P3}{l:List Nat}(h:∀p∈ps,gN p)(a:sZ ps=some c)(e:l=jl 32 (cp (kS 3)::ps.map cu))(b:l.length<=100):gu (ss l) (.gd (.rock c.1 c.2)):=
 m6 e (by simp) (eZ (wk 3 (by decide)) mS) b (AG h a)
theorem l_ {n:Nat}{ps:List P3}{c:P3×P3}{l:List Nat}(a:n<10^18)(h:∀p∈ps,gN p)(d:sZ ps=some c)(e:l=jl 32 (cp (kS 4)::dg n::ps.map cu))(b:l.length<=100):gu (ss l) (.gd (.toll n c.1 c.2)):=
 m6 e (by simp) (eZ (wk 4 (by decide)) (eZ (gJ _) mS)) b (BK a h d)
theorem vQ {x:List Nat}{a b:Nat}{ps:List P3}{l:List Nat}(hx:xy x)(f:a<10^18)(d:b<10^18)(h:∀p∈ps,gN p)(e:l=jl 32 (cp (kS 5)::x::dg a::dg b::ps.map cu))(c:l.length<=100):gu (ss l) (.gd (.net x a b ps)):=
 m6 e (by simp) (eZ (wk 5 (by decide)) (eZ hx (eZ (gJ _) (eZ (gJ _) mS)))) c (EV f d h)
theorem C4 {x:List Nat}{a:Nat}{cs ds:List P3}{l:List Nat}(hx:xy x)(d:a<10^18)(h:∀p∈cs,gN p)(c:∀p∈ds,gN p)(e:l=jl 32 (cp (kS 6)::x::dg a::(cs.map cu++il::ds.map cu)))(b:l.length<=100):gu (ss l) (.gd (.bun x a cs ds)):=
 m6 e (by simp) (eZ (wk 6 (by decide)) (eZ hx (eZ (gJ _) λw hw=>by
  rcases Ot.mp hw with hw|hw
  ·exact mS w hw
  ·exact eZ (ic (by decide+kernel)) mS w hw))) b (F4 d h c)
theorem gY(h:a<10^2/\b<10^2/\c<10^2):gN (a,b,c):=by show a<10^18/\b<10^18/\c<10^18;lia
theorem kT {K:NJ}{b:TE}{u:TS}{D:ez}{σ:St}{H:Hp}{l:Addr}{xs:List Str}{w:List Nat}{m i:Nat}(c:σ[i]?=some (some (.ref l)))(a:H l=some (.lst (xs.map V.str)))(hx:xs.length<=100)(e:B4 b σ H w m)(q:u D σ (upd H l (.lst ((xs++[ss w]).map V.str)))):
  e_ (lF (D4 K "list" (λx vs H Q=>∃p ys v,x=.ref p/\vs=[v]/\H p=some (.lst ys)/\ys.length<sizeLine/\Q .non (upd H p (.lst (ys++[v])))) (cV i) (b9 b dv))) u D σ H:=by
 refine iT (mT (aa c) (.inl ⟨rfl,_,bf.of a⟩) (ip e.1 ⟨l,_,_,rfl,rfl,a,?_,?_⟩))
 ·rw[NG];have:sizeLine=2^24:=rfl;omega
 ·rw[NW] at q;exact q
theorem gL(hx:Paired gu xs (X.map Rk.gd))(h':H' l=some (.lst ((xs++[x]).map V.str)))(t:gu x (.gd r)):oE H' l (X++[r]):=⟨_,h',by rw[NW];exact dy t hx⟩
theorem gF(s:au H H1):Sb l H (upd H1 l o):=λb u n e=>by rw[ay n];exact s _ _ e
theorem HG {K:NJ}{b:TE}{D:ez}{σ:St}{H:Hp}{l:Addr}{xs:List Str}{w:List Nat}{m i:Nat}(c:σ[i]?=some (some (.ref l)))(a:H l=some (.lst (xs.map V.str)))(hx:xs.length<=100)(e:B4 b σ H w m)(q:D.nx σ (upd H l (.lst ((xs++[ss w]).map V.str)))):
  lF (D4 K "list" (λx vs H Q=>∃p ys v,x=.ref p/\vs=[v]/\H p=some (.lst ys)/\ys.length<sizeLine/\Q .non (upd H p (.lst (ys++[v])))) (cV i) (b9 b dv)) D σ H:=by
 refine fe (mT (aa c) (.inl ⟨rfl,_,bf.of a⟩) (ip e.1 ⟨l,_,_,rfl,rfl,a,?_,?_⟩))
 ·rw[NG];have:sizeLine=2^24:=rfl;lia
 ·rw[NW] at q;exact q
theorem Kw:L "net " =cp (kS 5)++[32]:=by decide+kernel
theorem ML:L " 0 0 " =32::(dg 0++32::(dg 0++[32])):=by decide+kernel
theorem M9 (s:String):V.str (Str.ofString s)=sv (L s):=congrArg V.str (nM (KU s))
theorem eN {l:List Str}{X:List Rw}(h:Paired gu l (X.map Rk.gd)):l.length=X.length:=by have:=Paired.length h;rw[NG] at this;exact this
def GB (a:TE) (σ:St) (H:Hp) (l:List Nat) (m:Nat):Prop:=(∀H1,au H H1->∀Q:VK,(∀H2,au H1 H2->Q (sv l) H2)->a σ H1 Q)/\l.length<=m
theorem jn(h:∀H1,au H H1->B4 te σ H1 l m):GB te σ H l m:=⟨λH1 s _ q=>bB (h H1 s).1 (q _ (au.refl _)),(h H (au.refl H)).2⟩
theorem aT (s:String)(m:Nat){σ:St}{H:Hp}(h:(L s).length<=m:=by decide+kernel):GB (tC (.str (Str.ofString s))) σ H (L s) m:=jn λ_ _=>df s m h
theorem fB(h:σ[i]?=some (some (sv l)))(a:l.length<=m):GB (cV i) σ H l m:=jn λ_ _=>kF h a
theorem aK(x:GB ta σ H a m)(y:GB tb σ H b n)(h:m+n<=1000:=by decide):GB (gb (λx y H Q=>∃i j,x=.str i/\y=.str j/\i.length+j.length<=sizeLine/\Q (.str (i++j)) H) ta tb) σ H (a++b) (m+n):=by
 have h1:=x.2
 have h2:=y.2
 refine⟨λH1 s Q q=>dH (x.1 H1 s _ λH2 s2=>y.1 H2 (s.trans s2) _ λH3 s3=>⟨ss a,ss b,rfl,rfl,?_,?_⟩),by rw[NM];lia⟩
 ·rw[gj,gj];have:sizeLine=2^24:=rfl;lia
 ·rw[oq];exact q H3 (s2.trans s3)
theorem pq(h:Rg R C)(o:yL R C p):p.1<10^18/\p.2.1<10^18/\p.2.2<10^18:=by
 obtain⟨⟨e,c⟩,a,d⟩:=h
 obtain⟨f,b,rfl|rfl|rfl⟩:=o<;>refine⟨?_,?_,?_⟩<;>dsimp only<;>lia
theorem rF(h:p.1<10^18/\p.2.1<10^18/\p.2.2<10^18):(cu p).length<=56:=by
 have b:=bR (k:=18) (n:=p.1) (by decide) h.1
 have c:=bR (k:=18) (n:=p.2.1) (by decide) h.2.1
 have a:=bR (k:=18) (n:=p.2.2) (by decide) h.2.2
 unfold cu;rw[MK];simp only[NM,NU];lia
theorem oA(b:σ[i]?=some (some (.ref sz)))(d:A3 H sz (2,R,C))(a:Rg R C)(e:∀H1,Ev te σ H1 (.int c)):GB (jo md (b9 (cV i) (b9 te dv))) σ H (cu (Am R C c)) 56:=
 ⟨λH1 s _ q=>bF (ag (aa b) (ag (e H1) az)) ⟨sz,R,C,c,rfl,s _ _ d,a,q⟩,rF (pq a vw)⟩
theorem rV {K:NJ}{ta:TA}{b:TE}{σ:St}{H:Hp}{vs:List V}{i:Int}{Q:VK}(ys:List Str)(g:lH ta σ H vs)(e:vs=ys.map V.str)(c:ys.length<=1000)(hi:∀H',Ev b σ H' (.int i))(h0:0<=i)(h1:i<ys.length)(q:∀x∈ys,∀H',au H H'->Q (.str x) H'):gb (uh K) (mU ta) b σ H Q:=
 dH (iR ys g e c λp H' s _ f=>bB (hi H') (by
  obtain⟨x,d,a⟩:=vo h0 h1
  exact⟨p,_,_,_,rfl,rfl,bf.of f,a,q x d H' s⟩))
theorem gy(b:σ[i]?=some (some (.ref l)))(a:H l=some (.lst (xs.map V.str)))(hx:xs.length<=100)(e:∀Q:VK,(∀x H1,au H H1->H1 l=some (.lst (xs.map V.str))->(∀H',H'=upd H1 l (.lst ((xs++[x]).map V.str))->D.nx σ H')->Q (.str x) H1)->te σ H Q):
  lF (D4 K "list" ml (cV i) (b9 te dv)) D σ H:=by
 refine fe (mT (aa b) (.inl ⟨rfl,_,bf.of a⟩) (eI (e _ λx H1 s h1 q=>⟨l,_,_,rfl,rfl,h1,?_,?_⟩)))
 ·rw[NG];have:sizeLine=2^24:=rfl;lia
 ·have:=q _ rfl
  rw[NW] at this
  exact this
theorem GT:L " 0.0.0" =32::cu (0,0,0):=by decide+kernel
theorem MQ:L "0.0.0 " =cu (0,0,0)++[32]:=by decide+kernel
theorem EY:L "toll 5 " =cp (kS 4)++32::(dg 5++[32]):=by decide+kernel
def GA (ta:TA) (σ:St) (H:Hp) (ws:List (List Nat)):Prop:=∀H1,au H H1->∀Q:List V->Hp->Prop,(∀H2,au H1 H2->Q (ws.map sv) H2)->ta σ H1 Q
theorem qE:GA dv σ H []:=λ_ _ _ q=>q _ (au.refl _)
theorem g_ {a:TE}{ta:TA}{σ:St}{H:Hp}{w:List Nat}{ws:List (List Nat)}{m:Nat}(x:GB a σ H w m)(y:GA ta σ H ws):GA (b9 a ta) σ H (w::ws):=λ_ s _ q=>eI (x.1 _ s _ λ_ s2=>y _ (s.trans s2) _ λH3 s3=>q H3 (s2.trans s3))
theorem mG{ws:List (List Nat)}(h:GA ta σ H ws)(b:ws.length<=100)(q:∀p H',au H H'->H p=none->H' p=some (.lst ((ws.map ss).map V.str))->Q (.ref p) H'):mU ta σ H Q:=
 h H (au.refl H) _ λH2 s2=>⟨by rw[NG];have:sizeLine=2^24:=rfl;lia,λp a=>q p _ (s2.upd a) (jM s2 a) (by rw[ah,Ol];rfl)⟩
theorem cD {K:NJ}{c:TE}{u:TS}{D:ez}{σ:St}{H0 H:Hp}{s:Addr}{ys:List Str}{w:List Nat}{m i:Nat}(d:σ[i]?=some (some (.ref s)))(n:H0 s=none)(b:au H0 H)(a:H s=some (.lst (ys.map V.str)))(f:ys.length<=100)(e:GB c σ H0 w m)(q:∀H',w.length<=m->au H0 H'->H' s=some (.lst ((ys++[ss w]).map V.str))->u D σ H'):
  e_ (lF (D4 K "list" ml (cV i) (b9 c dv))) u D σ H:=by
 refine iT (mT (aa d) (.inl ⟨rfl,_,bf.of a⟩) (eI (e.1 H b _ λH2 s2=>⟨s,_,_,rfl,rfl,s2 _ _ a,?_,?_⟩)))
 ·rw[NG];have:sizeLine=2^24:=rfl;lia
 ·exact q _ e.2 (dI (b.trans s2) n) (by rw[ah,NW];rfl)
theorem wK {R:Str->Rk->Prop}:∀{xs:List Str} {ks:List Rk},Paired R xs ks->∀{i:Int},0<=i->i<ks.length->∃x k,oN (xs.map V.str) i=some (.str x)/\R x k/\k∈ks:=fun{xs ks} h {i} d h1=>by
 obtain⟨n,rfl⟩:=OO d
 replace h1:n<ks.length:=by lia
 obtain⟨x,k,e,r,m⟩:∃x k,xs[n]?=some x/\R x k/\k∈ks:=by
  clear d
  induction h generalizing n with
  |nil=>exact absurd h1 (OZ _)
  |cons r h ih=>
   cases n with
   |zero=>exact⟨_,_,rfl,r,N7⟩
   |succ n=>
    obtain⟨x,k,a,b,c⟩:=ih n (by rw[NU] at h1;lia)
    exact⟨x,k,a,b,NV _ c⟩
 exact⟨x,k,eg (by rw[Od,e];rfl),r,m⟩
theorem iU(h:hd=cp (kS 5)++32::(x++32::(dg a++32::(dg b++[32]))))(hx:J0 x=true)(j:a<10^18)(g:b<10^18)(i:gN p)(e:gN q)(f:(hd++cu p++L " " ++cu q).length<=100):gu (ss (hd++cu p++L " " ++cu q)) (.gd (.net x a b [p,q])):=
 vQ (ic hx) j g (λc d=>by
  simp only[NK,N3,or_false] at d
  rcases d with rfl|rfl
  ·exact i
  ·exact e) (by rw[h,IW,NQ,NQ,OA,aW,aW,aW,aW,aW,dE];simp) f
theorem qU(f:hd=cp (kS 6)++32::(x++32::(dg a++[32])))(hx:J0 x=true)(h:a<10^18)(g:gN p)(d:gN q)(e:(hd++cu p++L " to " ++cu q).length<=100):gu (ss (hd++cu p++L " to " ++cu q)) (.gd (.bun x a [p] [q])):=
 C4 (ic hx) h (λc b=>by rw[NR.mp b];exact g) (λc b=>by rw[NR.mp b];exact d) (by rw[f,LJ];simp only[NQ,OA,Pn,List.nil_append];rw[aW,aW,aW,aW,aW,dE];simp) e
theorem nq(ns:List Nat)(c:lH ta σ H vs)(e:vs=ns.map λn=>V.int (n:Nat))(d:ns.length<=1000)(hi:∀H',Ev te σ H' (.int i))(h0:0<=i)(h1:i<ns.length)(q:∀n∈ns,∀H',au H H'->Q (.int (n:Nat)) H'):gb (uh K) (mU ta) te σ H Q:=by
 subst e
 obtain⟨k,rfl⟩:=OO h0
 have a:k<ns.length:=by lia
 exact dH (ox c (by rw[NG];have:sizeLine=2^24:=rfl;lia) λp b=>bB (hi _) ⟨p,_,_,_,rfl,rfl,bf.of ah,eg (by rw[Od,Ox a];rfl),q _ (Qb a) _ ((au.refl H).upd b)⟩)
theorem nN {a:TE}{D:ez}{σ:St}{H:Hp}{l:Addr}{xs:List Str}{w:List Nat}{m i:Nat}(j:Nat)(d:σ[i]?=some (some (.ref l)))(b:H l=some (.lst (xs.map V.str)))(c:j<xs.length)(e:GB a σ H w m)(q:∀H',Sb l H H'->H' l=some (.lst ((xs.set j (ss w)).map V.str))->D.nx σ H'):jI a (C1 (cV i) (tC (.int (j:Nat))) tq) D σ H:=
 e.1 H (au.refl H) _ λH1 s1=>bB (aa d) (bB aq ⟨l,_,_,j,rfl,rfl,s1 _ _ b,wZ (by rw[NG];exact c),q _ (gF s1) (by rw[ah,List.map_set];rfl)⟩)
theorem dX(a:Sb l H H1)(b:Sb l H1 H2):Sb l H H2:=λx o n h=>b _ _ n (a _ _ n h)
theorem pV(h:Paired gu xs ((r0::r1::X).map Rk.gd)){r:Rw}(t:gu x (.gd r)):Paired gu (xs.set 1 x) ((r0::r::X).map Rk.gd):=by
 cases h with|cons a h=>cases h with|cons b h=>exact .cons a (.cons t h)
theorem pZ(h:Paired gu xs ((r0::r1::r2::X).map Rk.gd)){r:Rw}(t:gu x (.gd r)):Paired gu (xs.set 2 x) ((r0::r1::r::X).map Rk.gd):=by
 cases h with|cons a h=>exact .cons a (pV h t)
theorem zb{r3:Rw}(h:Paired gu xs ((r0::r1::r2::r3::X).map Rk.gd)){r:Rw}(t:gu x (.gd r)):Paired gu (xs.set 3 x) ((r0::r1::r2::r::X).map Rk.gd):=by
 cases h with|cons a h=>exact .cons a (pZ h t)
theorem Gb(b:σ[i]?=some (some (.ref l)))(a:H l=some (.lst (xs.map V.str)))(hx:xs.length<=100)(e:∀Q:VK,(∀x H1,au H H1->H1 l=some (.lst (xs.map V.str))->(∀H',H'=upd H1 l (.lst ((xs++[x]).map V.str))->u D σ H')->Q (.str x) H1)->te σ H Q):
  e_ (lF (D4 K "list" ml (cV i) (b9 te dv))) u D σ H:=gy (D:={D with nx:=u D}) b a hx e
theorem Nq:L " 7" =32::dg 7:=by decide+kernel
theorem HW:L "layer 7 " =cp (kS 1)++32::(dg 7++[32]):=by decide+kernel
theorem BI:gu (ss (L "toll 1 0.0.0 1.1.1")) (.gd (.toll 1 (0,0,0) (1,1,1))):=l_ (n:=1) (ps:=[(0,0,0),(1,1,1)]) (c:=((0,0,0),(1,1,1))) (by decide) (λp a=>by
 simp only[NK,N3,or_false] at a
 rcases a with rfl|rfl<;>exact gY (by decide)) rfl (by decide+kernel) (by decide+kernel)
theorem u3{rest:St}(j:Nat)(F:Nat->V)(h:lH ta σ H [.int (j:Nat)])(m:j<=1000)(b:oJ n ix σ=none::rest)(l:∀i,i<j->∀H',Ev te (some (.int (i:Nat))::rest) H' (F i))(q:∀D H',au H H'->H D=none->H' D=some (.lst ((List.range j).map F))->Q (.ref D) H'):Jn (qb ta) n ix (dr 0) t_ te σ H Q:=by
 have a:sizeLine=2^24:=rfl
 refine HK h (by lia) (by lia) λD e=>?_
 rw[b]
 refine nQ (n:=j) (λi g H'=>∃c,g=c::rest/\au H H'/\H' D=some (.lst ((List.range i).map F))) ⟨none,rfl,(au.refl H).upd e,ah⟩ (λi g H' hi d=>?_) λg H' d=>?_
 ·obtain⟨c,rfl,s1,f⟩:=d
  rw[show(0:Int)+(i:Nat)=(i:Nat) by lia]
  refine gn (gA (bB (l i hi H') ⟨_,f,by rw[NG,List.length_range];lia,_,rfl,dI s1 e,?_⟩))
  rw[ah,List.range_succ,NW];rfl
 ·obtain⟨c,rfl,s1,f⟩:=d
  exact q D H' s1 e f
theorem MP:Str.ofString " " =⟨#[32]⟩:=by decide+kernel
theorem EW (us:List (List Nat)):Txt.join (Str.ofString " ") (us.map ss)=ss (jl 32 us):=nM (by
 rw[MP,rP,Ol,QE (f:=cp∘ss) (g:=id) (λz _=>cU z),List.map_id])
theorem iM(us:List (List Nat))(m:Nat)(a:∀H1,au H H1->∀Q:VK,(∀p H2,au H1 H2->WL H2 p us->Q (.ref p) H2)->te σ H1 Q)(f:∀w∈us,w.length<=100)(g:us.length<=100)(b:(jl 32 us).length<=m):
  GB (D4 K "str" (λx vs H Q=>∃z p ts,x=.str z/\vs=[.ref p]/\bf K H p (ts.map V.str)/\JoinOk z ts=true/\Q (.str (Txt.join z ts)) H) (tC (.str (Str.ofString " "))) (b9 te dv)) σ H (jl 32 us) m:=by
 refine⟨λH1 s Q q=>mT aq rfl (eI (a H1 s _ λp H2 s2 c=>⟨_,p,us.map ss,rfl,rfl,bf.of (by rw[<-u4];exact c),t9 (λt d=>?_) (by decide) (by rw[NG];lia),by rw[EW];exact q H2 s2⟩)),b⟩
 obtain⟨w,e,rfl⟩:=N0.mp d
 rw[gj]
 exact NP (f w e) (by decide)
theorem fh{ws:List (List Nat)}{lo hi:Option Int}(us:List (List Nat))(m:Nat)(f:σ[i]?=some (some (.ref l)))(b:WL H l ws)(h1:∀(H:Hp) (R:Option Int->Hp->Prop),R lo H->tl σ H R)(d:∀(H:Hp) (R:Option Int->Hp->Prop),R hi H->th σ H R)(e:fT (ws.map sv) lo hi=us.map sv)(a:(us.all (λw=>decide (w.length<=100))&&(decide (us.length<=100)&&decide ((jl 32 us).length<=m)))=true:=by decide+kernel):
  GB (D4 K "str" (λx vs H Q=>∃z p ts,x=.str z/\vs=[.ref p]/\bf K H p (ts.map V.str)/\JoinOk z ts=true/\Q (.str (Txt.join z ts)) H) (tC (.str (Str.ofString " "))) (b9 (FH (qt K) (cV i) tl th) dv)) σ H (jl 32 us) m:=by
 rw[N8,N8,Oa] at a
 exact iM us m (λH1 s _ q=>gf us (aa f) h1 d (s _ _ b) e q) (λw c=>of_decide_eq_true (a.1 w c)) (of_decide_eq_true a.2.1) (of_decide_eq_true a.2.2)
theorem gk{ws:List (List Nat)}(w:List Nat)(m:Nat)(c:σ[i]?=some (some (.ref l)))(a:WL H l ws)(e:oN (ws.map sv) j=some (sv w))(b:w.length<=m:=by decide+kernel):GB (gb (uh K) (cV i) (tC (.int j))) σ H w m:=jn λ_ s=>⟨dG (aa c) aq (bf.of (s _ _ a)) e,b⟩
theorem Bs(h1:H l=some (.lst xs))(a:H b=some (.lst zs))(d:xs.length+zs.length<=1000)(q:∀p H',au H H'->H' p=some (.lst (xs++zs))->Q (.ref p) H'):zD (.ref l) (.ref b) H Q:=⟨l,b,xs,zs,rfl,rfl,h1,a,(by have:sizeLine=2^24:=rfl;lia),λp c=>q p _ ((au.refl H).upd c) ah⟩
noncomputable def fL:List (List Nat):=[(0,0,0),(0,0,1),(0,0,2),(0,0,3),(0,0,4),(0,0,5),(1,0,0),(1,0,1),(1,0,2),(1,0,3),(1,0,4),(1,0,5),(1,1,0),(1,1,1),(1,1,2),(1,1,3),(1,1,4),(1,1,5)].map cu
def lw (i:Nat):List Nat:=fL.getD i []
noncomputable def L9 (p:P3):Bool:=decide (p.1<4)&&(decide (p.2.1<16)&&decide (p.2.2<16))
noncomputable def Mc:Rk->Bool
 | .gd (.net x h r cs)=>!lK (.net x h r cs)&&((x.all (λc=>decide (c<128))&&decide (x.length<=100))&&(decide (h<10^20)&&(decide (r<10^20)&&(decide (Mm cs)&&cs.all L9))))
 | .gd (.bun x r cs ds)=>!lK (.bun x r cs ds)&&((x.all (λc=>decide (c<128))&&decide (x.length<=100))&&(decide (r<10^20)&&(decide (Jm cs ds)&&(cs++ds).all L9)))
 |_=>false
theorem qi(h:L9 p=true):p.1<4/\p.2.1<16/\p.2.2<16:=by
 unfold L9 at h
 simp at h
 exact h
theorem Cu(h:p.1<4/\p.2.1<16/\p.2.2<16):fN (t3 p)=GR (256*p.1+16*p.2.1+p.2.2):=by
 obtain⟨h1,h2,a⟩:=h
 unfold fN t3
 rw[AH p.1 p.2.1 p.2.2 h2 a,NQ,NQ,NQ,OA,fv (show p.1<16 by lia),fv h2,fv a]
theorem kj(h:∀p∈ps,p.1<4/\p.2.1<16/\p.2.2<16):sS ps:=λa c b d e=>by
 have x:=h a c
 have y:=h b d
 rw[Cu x,Cu y] at e
 exact Ar x y (xj (by lia) (by lia) e)
theorem tF(h:p.1<4/\p.2.1<16/\p.2.2<16):gV p:=by unfold gV;lia
theorem K4:∀{k:Rk},Mc k=true->∃r,k=.gd r/\Jy r
 | .gd (.net x h r cs),e=>by
  unfold Mc at e
  simp only[N8,Oa,decide_eq_true_eq,Pp] at e
  obtain⟨j,⟨d,l⟩,f,g,a,m⟩:=e
  exact⟨_,rfl,j,⟨⟨d,l⟩,f,g,a,λc i=>tF (qi (m c i))⟩,kj λp b=>qi (m p b),.inl rfl⟩
 | .gd (.bun x r cs ds),e=>by
  unfold Mc at e
  simp only[N8,Oa,decide_eq_true_eq,Pp] at e
  obtain⟨j,⟨d,l⟩,f,g,a⟩:=e
  exact⟨_,rfl,j,⟨⟨d,l⟩,f,g,λc i=>tF (qi (a c i))⟩,kj λp b=>qi (a p b),.inr rfl⟩
noncomputable def Ls:List (List Nat):=[L "net A 0 0 " ++jl 32 (fL.take 2),L "net 1a 0 0 " ++jl 32 (fL.take 2),L "net a_b 0 0 " ++jl 32 (fL.take 2),L "net abcdefghijklm 0 0 " ++jl 32 (fL.take 2),L "net zz 3 0 " ++jl 32 (fL.take 2),L "net zz 0 4 " ++jl 32 (fL.take 2),L "net zz 0 0 " ++lw 0,L "net zz 0 0",L "net zz 0 0 " ++jl 32 (fL.take 7),L "net zz 0 0 " ++lw 0++L " " ++lw 1++L " " ++lw 0,L "bundle zz 0 to " ++lw 0,L "bundle zz 0 " ++lw 0++L " to",L "bundle zz 0 " ++lw 0++L " " ++lw 1++L " to " ++lw 2,L "bundle zz 0 " ++lw 0++L " to " ++lw 0++L " " ++lw 1,L "bundle zz 0 " ++jl 32 (fL.take 7)++L " to " ++jl 32 ((fL.take 14).drop 7),L "bundle zz 0 " ++lw 0++L " to " ++jl 32 ((fL.take 14).drop 1),L "bundle zz 4 " ++lw 0++L " to " ++lw 1,L "net aB 0 0 " ++jl 32 (fL.take 2)]
theorem KL:Ls.all (λw=>KN w&&Mc (iH (wf w)))=true:=by decide+kernel
theorem Dx(h:Ev t0 σ H (.ref a))(b:bY K H a xs)(q:∀D,H D=none->Aj (oJ n ix σ) g tt te (KS K a) H D λH'=>Q (.ref D) H'):Jn (Ep K t0) n ix g tt te σ H Q:=h _ ⟨a,rfl,⟨_,b⟩,q⟩
theorem mC(d:σ[i]?=some (some (.ref sz)))(f:A3 H sz z)(o:gN z)(e:oJ n ix σ=[none])(q:∀D H',au H H'->H D=none->WL H' D [dg z.1,dg z.2.1,dg z.2.2]->Q (.ref D) H'):
  Jn (Ep K (cV i)) n ix (dr 0) t_ (xS (λxs H Q=>∃i:Int,xs=[.int i]/\i.natAbs.log2<1920/\Q (.str (Str.ofString (toString i))) H) (b9 (cV 0) dv)) σ H Q:=by
 refine Dx (aa d) (bY.of f) λD g=>?_
 rw[e]
 refine ya (K:=K) (a:=sz) (rest:=[]) [z.1,z.2.1,z.2.2] (λn=>V.int (n:Nat)) (λ_ v n=>v=sv (dg n)) (λh _ _=>h) (.inr ⟨rfl,f⟩) g (show 3<=1000 by decide) (λn m H' _ _ Qv l=>bB (kP (aa rfl) ?_) (l _ H' (au.refl H') rfl)) λvs H' s1 j d=>?_
 ·simp only[NK,N3,or_false] at m
  unfold gN at o
  lia
 ·cases d with|cons a d=>cases d with|cons b d=>cases d with|cons c d=>
   cases d
   rw[a,b,c] at j
   exact q D H' s1 g j
theorem FI(d:σ[i]?=some (some (.ref sz)))(b:A3 H sz z)(c:gN z)(a:oJ n ix σ=[none])(q:∀D H',au H H'->H D=none->WL H' D [dg z.1,dg z.2.1,dg z.2.2]->u E (σ.set j (some (.ref D))) H'):
  e_ (rC (Ep K (cV i)) n ix (dr 0) t_ (xS (λxs H Q=>∃i:Int,xs=[.int i]/\i.natAbs.log2<1920/\Q (.str (Str.ofString (toString i))) H) (b9 (cV 0) dv)) j) u E σ H:=mC (Q:=λx H1=>u E (σ.set j (some x)) H1) d b c a q
theorem xw {b a:TE}{D:ez}{σ:St}{H:Hp}{l:Addr}{ws:List (List Nat)}{w:List Nat}{i:Nat}(k:Nat)(f:σ[i]?=some (some (.ref l)))(c:WL H l ws)(e:Ev b σ H (sv w))(hi:Ev a σ H (.int (k:Nat)))(d:k<ws.length)(q:∀H',(∀H0,au H0 H->H0 l=none->au H0 H')->WL H' l (ws.set k w)->D.nx σ H'):jI b (C1 (cV i) a tq) D σ H:=
 bB e (bB (aa f) (bB hi ⟨l,_,_,k,rfl,rfl,c,wZ (by rw[NG];exact d),q _ (λH0 s n=>dI s n) (by unfold WL;rw[ah,List.map_set])⟩))
theorem EE {b a:TE}{u:TS}{D:ez}{σ:St}{H:Hp}{l:Addr}{ws:List (List Nat)}{w:List Nat}{i:Nat}(k:Nat)(f:σ[i]?=some (some (.ref l)))(c:WL H l ws)(e:Ev b σ H (sv w))(hi:Ev a σ H (.int (k:Nat)))(d:k<ws.length)(q:∀H',(∀H0,au H0 H->H0 l=none->au H0 H')->WL H' l (ws.set k w)->u D σ H'):e_ (jI b (C1 (cV i) a tq)) u D σ H:=xw (D:={D with nx:=u D}) k f c e hi d q
theorem vI {a:TE}{u:TS}{D:ez}{σ:St}{H:Hp}{l:Addr}{xs:List Str}{w:List Nat}{m i:Nat}(j:Nat)(d:σ[i]?=some (some (.ref l)))(b:H l=some (.lst (xs.map V.str)))(c:j<xs.length)(e:GB a σ H w m)(q:∀H',Sb l H H'->H' l=some (.lst ((xs.set j (ss w)).map V.str))->u D σ H'):e_ (jI a (C1 (cV i) (tC (.int (j:Nat))) tq)) u D σ H:=nN (D:={D with nx:=u D}) j d b c e q
theorem jb(h:Paired gu xs ((r0::X).map Rk.gd)){r:Rw}(t:gu x (.gd r)):Paired gu (xs.set 0 x) ((r::X).map Rk.gd):=by
 cases h with|cons a h=>exact .cons t h
theorem FC:L "floor " =cp (kS 0)++[32]:=by decide+kernel
theorem BH:L "floor 3 " =cp (kS 0)++32::(dg 3++[32]):=by decide+kernel
theorem oz(h:gN z):(jl 32 [dg z.1,dg z.2.1,dg z.2.2]).length<=56:=by
 have b:=bR (k:=18) (n:=z.1) (by decide) h.1
 have c:=bR (k:=18) (n:=z.2.1) (by decide) h.2.1
 have a:=bR (k:=18) (n:=z.2.2) (by decide) h.2.2
 rw[aW,aW,dE]
 simp only[NM,NU];lia
theorem mE(h:gN z):∀w∈[dg z.1,dg z.2.1,dg z.2.2],w.length<=100:=λw a=>by
 have c:=bR (k:=18) (n:=z.1) (by decide) h.1
 have d:=bR (k:=18) (n:=z.2.1) (by decide) h.2.1
 have b:=bR (k:=18) (n:=z.2.2) (by decide) h.2.2
 simp only[NK,N3,or_false] at a
 rcases a with rfl|rfl|rfl<;>lia
theorem ja(h:gN z):gu (ss (L "floor " ++jl 32 [dg z.1,dg z.2.1,dg z.2.2])) (.gd (.floor z)):=su h (by rw[FC,aW,Pq];rfl) (by
 have:=oz h
 have a:(L "floor ").length=6:=by decide+kernel
 rw[NM];lia)
noncomputable def Aq (R C k v:Nat):P3:=if k=0 then (v,R,C) else if k=1 then (2,v,C) else (2,R,v)
theorem i9{Dn:Hp->Prop}(h:∀H,iB tc σ H b)(c:b=true↔j=k)(f:(j<k/\Dn H)\/(k<=j/\H=H0))(h1:j=k->∀R:St->Hp->Prop,(∀H',Dn H'->R σ H')->t {D with nx:=R} σ H0)(q:∀H',((j<k+1/\Dn H')\/(k+1<=j/\H'=H0))->u D σ H'):e_ (jP tc t m9) u D σ H:=by
 refine cI (h H) (λz=>?_) λz=>q H ?_
 ·have e:=c.mp z
  rcases f with ⟨a,_⟩|⟨_,rfl⟩
  ·lia
  ·exact h1 e _ λH' d=>q H' (.inl ⟨by lia,d⟩)
 ·have e:¬j=k:=λe=>by rw[c.mpr e] at z;cases z
  rcases f with ⟨a,d⟩|⟨a,rfl⟩
  ·exact .inl ⟨by lia,d⟩
  ·exact .inr ⟨by lia,rfl⟩
theorem Fb {f:TT}{t:TS}{D:ez}{σ:St}{H0 H:Hp}{b:Bool}{j k:Nat}{Dn:Hp->Prop}(h:∀H,iB f σ H b)(g:b=true↔j=k)(c:(j<k/\Dn H)\/(k<=j/\H=H0))(i:j<=k)(h1:j=k->∀R:St->Hp->Prop,(∀H',Dn H'->R σ H')->t {D with nx:=R} σ H0)(q:∀H',Dn H'->D.nx σ H'):jP f t m9 D σ H:=by
 refine gi (h H) (λz=>?_) λz=>?_
 ·have e:=g.mp z
  rcases c with ⟨a,_⟩|⟨_,rfl⟩
  ·lia
  ·exact h1 e D.nx q
 ·have e:¬j=k:=λe=>by rw[g.mpr e] at z;cases z
  rcases c with ⟨a,d⟩|⟨a,rfl⟩
  ·exact q H d
  ·lia
theorem jH {a b:Type}{f:a->Option b}{l:List a}(h:∀r∈l,f r=none):l.filterMap f=[]:=List.filterMap_eq_nil_iff.mpr h
theorem yS(h:kd r=5\/kd r=6):oM r=none/\lQ r=none/\vq r=none/\rH r=none/\vO r=none:=by
 cases r<;>first|exact⟨rfl,rfl,rfl,rfl,rfl⟩|(rcases h with h|h<;>cases h)
inductive tY (R C bs sd:Nat):Nat->Rw->Prop
 |t5 (x:List Nat) (_:x=fP\/x=fQ):tY R C bs sd 5 (.net x 0 0 [(0,R - 1,C - 1),(1,R - 1,C - 1)])
 |t6a:tY R C bs sd 6 (.net sP 0 0 [(1,R - 1,C - 1),(0,bs+4,sd+4)])
 |t6b (o:P3) (_:yL R C o):tY R C bs sd 6 (.net sP 0 0 [(1,R - 1,C - 1),o])
 |t6c:tY R C bs sd 6 (.net sP 1 0 [(1,R - 2,C - 2),(1,R - 1,C - 1)])
 |t6d:tY R C bs sd 6 (.bun sP 0 [(1,R - 1,C - 1)] [(0,bs+4,sd+4)])
 |t6e (o:P3) (_:yL R C o):tY R C bs sd 6 (.bun sP 0 [o] [(1,R - 1,C - 1)])
 |t7a:tY R C bs sd 7 (.net yx 0 0 [(1,R - 1,C - 1),(0,bs,sd)])
 |t7b:tY R C bs sd 7 (.bun yx 1 [(1,R - 1,C - 1)] [(1,bs+3,sd+1)])
 |t7c:tY R C bs sd 7 (.net yx 0 2 [(0,bs+2,sd+4),(1,R - 1,C - 1)])
 |t7d:tY R C bs sd 7 (.net yx 1 0 [(1,bs+2,sd+1),(1,bs+3,sd+3)])
theorem ke(h:xT R C bs sd j r)(e:5<=j):tY R C bs sd j r:=by
 rcases h with ⟨rfl,_⟩|⟨rfl,_⟩|⟨rfl,_⟩|⟨rfl,_⟩|⟨rfl,x,b,rfl⟩|⟨rfl,d,c,h1,h2,a⟩|⟨rfl,a⟩
 ·omega
 ·omega
 ·omega
 ·omega
 ·exact .t5 x b
 ·simp only[Ip,NK,N3,or_false] at a
  rcases a with rfl|rfl|rfl|rfl|rfl
  ·exact .t6a
  ·exact .t6b d h1
  ·exact .t6c
  ·exact .t6d
  ·exact .t6e c h2
 ·simp only[EX,NK,N3,or_false] at a
  rcases a with rfl|rfl|rfl|rfl
  ·exact .t7a
  ·exact .t7b
  ·exact .t7c
  ·exact .t7d
theorem GK(h:tY R C bs sd j r):kd r=5\/kd r=6:=by
 cases h<;>first|exact .inl rfl|exact .inr rfl
theorem wW(h:xT R C bs sd j r)(a:4<=j):kd r=5\/kd r=6:=by
 by_cases e:j=4
 ·subst e
  rcases h with ⟨e,_⟩|⟨e,_⟩|⟨e,_⟩|⟨_,h⟩|⟨e,_⟩|⟨e,_⟩|⟨e,_⟩<;>first|cases e|exact h.2.2.2
 ·exact GK (ke h (by lia))
theorem CD(h:xT R C bs sd j r)(h1:j≠1)(a:¬4<=j):(j=2/\((∃p,p<10^18/\r=.toll p (0,0,0) (0,0,0))\/r=.toll 1 (0,0,0) (1,1,1)))\/(j=3/\∃o,Ek R C o/\(r=.rock o.1 o.2\/r=.toll 5 o.1 o.2)):=by
 rcases h with ⟨e,_⟩|h|h|⟨e,_⟩|⟨e,_⟩|⟨e,_⟩|⟨e,_⟩
 ·exact absurd e h1
 ·exact .inl h
 ·exact .inr h
 all_goals omega
theorem yb(h:xT R C bs sd j r)(h1:j≠1):oM r=none/\lQ r=none:=by
 by_cases h4:4<=j
 ·exact⟨(yS (wW h h4)).1,(yS (wW h h4)).2.1⟩
 ·rcases CD h h1 h4 with ⟨_,⟨p,_,rfl⟩|rfl⟩|⟨_,o,_,rfl|rfl⟩<;>exact⟨rfl,rfl⟩
theorem LD(h:xT R C bs sd j r)(b:j≠2):∀n,vO r=some n->fY 0 n=true:=by
 intro n e
 by_cases h4:4<=j
 ·rw[(yS (wW h h4)).2.2.2.2] at e;cases e
 ·by_cases h1:j=1
  ·subst h1
   rcases h with ⟨_,rfl|rfl⟩|⟨a,_⟩|⟨a,_⟩|⟨a,_⟩|⟨a,_⟩|⟨a,_⟩|⟨a,_⟩<;>first|cases a|cases e
  ·rcases CD h h1 h4 with ⟨a,_⟩|⟨_,o,_,rfl|rfl⟩
   ·exact absurd a b
   ·cases e
   ·cases e;decide
theorem Dw(h:fN (t3 p)≠fN (t3 q)):sS [p,q]:=λa c b d e=>by
 simp only[NK,N3,or_false] at c d
 rcases c with rfl|rfl<;>rcases d with rfl|rfl
 ·rfl
 ·exact absurd e h
 ·exact absurd e.symm h
 ·rfl
noncomputable def MU (R C:Nat):List P3:=[0,1,10^17].flatMap λf=>[(2+f,0,C - 1),(0,R+f,0),(1,R - 1,C+f)]
theorem JG:(List.range 11).all (λi=>(List.range 11).all λj=>(MU (6+i) (6+j)).all λo=>!decide (fN (t3 (1,6+i - 1,6+j - 1))=fN (t3 o)))=true:=by decide+kernel
theorem Ft(h:yL R C o):o∈MU R C:=by
 obtain⟨f,a,b⟩:=h
 refine List.mem_flatMap.mpr ⟨f,by rcases a with rfl|rfl|rfl<;>decide,?_⟩
 rcases b with rfl|rfl|rfl<;>simp
theorem AK(h:Rg R C)(a:yL R C o):fN (t3 (1,R - 1,C - 1))≠fN (t3 o):=by
 obtain⟨⟨e,c⟩,b,d⟩:=h
 have:=Oa.mp (Oa.mp (Oa.mp JG (R - 6) (PR.mpr (by lia))) (C - 6) (PR.mpr (by lia)))
 rw[show 6+(R - 6)=R by lia,show 6+(C - 6)=C by lia] at this
 have:=this o (Ft a)
 simpa using this
theorem iX(h:Rg R C)(a:yL R C o):¬In (2,R,C) o:=by
 obtain⟨⟨g,d⟩,b,e⟩:=h
 obtain⟨f,c,rfl|rfl|rfl⟩:=a<;>(show¬(_/\_/\_);dsimp only;lia)
theorem w_(h:Rg R C)(a:yL R C o):(1,R - 1,C - 1)≠o:=λe=>iX h a (by
 obtain⟨⟨f,c⟩,b,d⟩:=h
 rw[<-e];show 1<2/\R - 1<R/\C - 1<C;lia)
structure tO (R C bs sd:Nat):Prop where
 rg:Rg R C
 b:bs+6<=R
 s:sd+6<=C
theorem iE(hx:Wd x)(g:h<10^18)(i:r<10^18)(f:gN p)(e:gN q):RB (.net x h r [p,q]):=by
 refine⟨hx,by unfold Bn;lia,by unfold Bn;lia,(by show 2<=50/\(2<=6->2<=4);decide),λc d=>?_⟩
 simp only[NK,N3,or_false] at d
 rcases d with rfl|rfl
 ·obtain⟨a,b,c⟩:=f;unfold gV;lia
 ·obtain⟨a,b,c⟩:=e;unfold gV;lia
theorem uq(hx:Wd x)(g:r<10^18)(f:gN p)(e:gN q):RB (.bun x r [p] [q]):=by
 refine⟨hx,by unfold Bn;lia,(by show 1+1<=50/\(1<=6->1<=1->1<=12->1+1<=4);decide),λc d=>?_⟩
 have d:c∈[p,q]:=d
 simp only[NK,N3,or_false] at d
 rcases d with rfl|rfl
 ·obtain⟨a,b,c⟩:=f;unfold gV;lia
 ·obtain⟨a,b,c⟩:=e;unfold gV;lia
noncomputable def MT (x:List Nat):Bool:=x.all (λc=>decide (c<128))&&decide (x.length<=100)
theorem iu(h:MT x=true):Wd x:=by
 unfold MT at h
 rw[N8,Oa] at h
 exact⟨λc a=>of_decide_eq_true (h.1 c a),of_decide_eq_true h.2⟩
theorem kr(b:p.1<4/\p.2.1<16/\p.2.2<16)(d:q.1<4/\q.2.1<16/\q.2.2<16):sS [p,q]:=kj λc a=>by
 simp only[NK,N3,or_false] at a
 rcases a with rfl|rfl
 ·exact b
 ·exact d
theorem Gw(g:tO R C bs sd)(h:tY R C bs sd j r):RB r/\Hi r:=by
 obtain⟨e,b,s⟩:=g
 obtain⟨⟨n,m⟩,f,l⟩:=id e
 have d:∀{a b c:Nat},a<4->b<16->c<16->gN (a,b,c):=λh1 h2 i=>gY (by lia)
 cases h with
 |t5 x hx=>exact⟨iE (by rcases hx with rfl|rfl<;>exact iu (by decide)) (by decide) (by decide) (d (by lia) (by lia) (by lia)) (d (by lia) (by lia) (by lia)),kr ⟨by dsimp only;lia,by dsimp only;lia,by dsimp only;lia⟩ ⟨by dsimp only;lia,by dsimp only;lia,by dsimp only;lia⟩⟩
 |t6a=>exact⟨iE (iu (by decide)) (by decide) (by decide) (d (by lia) (by lia) (by lia)) (d (by lia) (by lia) (by lia)),kr ⟨by dsimp only;lia,by dsimp only;lia,by dsimp only;lia⟩ ⟨by dsimp only;lia,by dsimp only;lia,by dsimp only;lia⟩⟩
 |t6b o ho=>exact⟨iE (iu (by decide)) (by decide) (by decide) (d (by lia) (by lia) (by lia)) (pq e ho),Dw (AK e ho)⟩
 |t6c=>exact⟨iE (iu (by decide)) (by decide) (by decide) (d (by lia) (by lia) (by lia)) (d (by lia) (by lia) (by lia)),kr ⟨by dsimp only;lia,by dsimp only;lia,by dsimp only;lia⟩ ⟨by dsimp only;lia,by dsimp only;lia,by dsimp only;lia⟩⟩
 |t6d=>exact⟨uq (iu (by decide)) (by decide) (d (by lia) (by lia) (by lia)) (d (by lia) (by lia) (by lia)),kr ⟨by dsimp only;lia,by dsimp only;lia,by dsimp only;lia⟩ ⟨by dsimp only;lia,by dsimp only;lia,by dsimp only;lia⟩⟩
 |t6e o ho=>exact⟨uq (iu (by decide)) (by decide) (pq e ho) (d (by lia) (by lia) (by lia)),Dw (AK e ho).symm⟩
 |t7a=>exact⟨iE (iu (by decide)) (by decide) (by decide) (d (by lia) (by lia) (by lia)) (d (by lia) (by lia) (by lia)),kr ⟨by dsimp only;lia,by dsimp only;lia,by dsimp only;lia⟩ ⟨by dsimp only;lia,by dsimp only;lia,by dsimp only;lia⟩⟩
 |t7b=>exact⟨uq (iu (by decide)) (by decide) (d (by lia) (by lia) (by lia)) (d (by lia) (by lia) (by lia)),kr ⟨by dsimp only;lia,by dsimp only;lia,by dsimp only;lia⟩ ⟨by dsimp only;lia,by dsimp only;lia,by dsimp only;lia⟩⟩
 |t7c=>exact⟨iE (iu (by decide)) (by decide) (by decide) (d (by lia) (by lia) (by lia)) (d (by lia) (by lia) (by lia)),kr ⟨by dsimp only;lia,by dsimp only;lia,by dsimp only;lia⟩ ⟨by dsimp only;lia,by dsimp only;lia,by dsimp only;lia⟩⟩
 |t7d=>exact⟨iE (iu (by decide)) (by decide) (by decide) (d (by lia) (by lia) (by lia)) (d (by lia) (by lia) (by lia)),kr ⟨by dsimp only;lia,by dsimp only;lia,by dsimp only;lia⟩ ⟨by dsimp only;lia,by dsimp only;lia,by dsimp only;lia⟩⟩
theorem Cp(g:tO R C bs sd)(h:xT R C bs sd j r):RB r/\Hi r/\kd r≠0:=by
 by_cases h5:5<=j
 ·have t:=ke h h5
  have k:=GK t
  exact⟨(Gw g t).1,(Gw g t).2,by omega⟩
 rcases h with ⟨_,rfl|rfl⟩|⟨_,⟨p,a,rfl⟩|rfl⟩|⟨_,o,c,b⟩|⟨_,h⟩|⟨e,_⟩|⟨e,_⟩|⟨e,_⟩
 ·exact⟨⟨by unfold Bn;omega,by unfold Bn;omega⟩,trivial,by decide⟩
 ·exact⟨by show Bn 3;unfold Bn;omega,trivial,by decide⟩
 ·exact⟨⟨by unfold Bn;omega,by unfold gV;dsimp only;omega,by unfold gV;dsimp only;omega⟩,trivial,(λe=>nomatch e)⟩
 ·exact⟨⟨by unfold Bn;omega,by unfold gV;dsimp only;omega,by unfold gV;dsimp only;omega⟩,trivial,(λe=>nomatch e)⟩
 ·have:gV o.1/\gV o.2:=by
   obtain⟨p,a,rfl|rfl|rfl⟩:=c<;>(have:=pq g.rg a;unfold gV;dsimp only;omega)
  rcases b with rfl|rfl
  ·exact⟨this,trivial,(λe=>nomatch e)⟩
  ·exact⟨⟨by unfold Bn;omega,this.1,this.2⟩,trivial,(λe=>nomatch e)⟩
 ·exact⟨h.2.1,h.2.2.1,by have:=h.2.2.2;omega⟩
 all_goals omega
theorem iI(hx:kh (ss x)=true)(c:h<=2)(a:r<=3)(b:p≠q):lK (.net x h r [p,q])=true:=by
 show jm _ _ _ _=true
 unfold jm kR
 rw[hx,decide_eq_true c,decide_eq_true a]
 simp[b]
theorem uo(hx:kh (ss x)=true)(a:r<=3)(b:p≠q):lK (.bun x r [p] [q])=true:=by
 show f_ _ _ _ _=true
 unfold f_ kR
 rw[hx,decide_eq_true a]
 simp[b]
theorem jY(h:a≠d\/b≠e\/c≠f):((a,b,c):P3)≠(d,e,f):=λz=>by
 injection z with z1 z
 injection z with z2 z3
 lia
theorem AY:kh (ss fP)=true:=by decide+kernel
theorem AD:kh (ss fQ)=true:=by decide+kernel
theorem Br:kh (ss sP)=true:=by decide+kernel
theorem Gm:kh (ss yx)=true:=by decide+kernel
theorem Kz(g:tO R C bs sd)(h:tY R C bs sd j r):lK r=true:=by
 obtain⟨a,b,s⟩:=g
 obtain⟨⟨i,f⟩,c,d⟩:=id a
 cases h with
 |t5 x hx=>exact iI (hx.elim (λe=>by rw[e];exact AY) λe=>by rw[e];exact AD) (by decide) (by decide) (jY (by omega))
 |t6a=>exact iI Br (by decide) (by decide) (jY (by omega))
 |t6b o ho=>exact iI Br (by decide) (by decide) (w_ a ho)
 |t6c=>exact iI Br (by decide) (by decide) (jY (by omega))
 |t6d=>exact uo Br (by decide) (jY (by omega))
 |t6e o ho=>exact uo Br (by decide) (w_ a ho).symm
 |t7a=>exact iI Gm (by decide) (by decide) (jY (by omega))
 |t7b=>exact uo Gm (by decide) (jY (by omega))
 |t7c=>exact iI Gm (by decide) (by decide) (jY (by omega))
 |t7d=>exact iI Gm (by decide) (by decide) (jY (by omega))
theorem IF(h1:p.1<2)(l:h<=p.2.1)(f:p.2.1+h<R)(i:h<=p.2.2)(g:p.2.2+h<C)(n:p.1≠k.1\/k.2.1+h<p.2.1\/p.2.1+h<k.2.1\/k.2.2+h<p.2.2\/p.2.2+h<k.2.2):qr ((2:Nat):Int) (R:Nat) (C:Nat) [r3 k] (h:Nat) (t3 p):=by
 intro r' c' a b c d
 have a:((p.2.1:Nat):Int) - (h:Nat)<=r':=a
 have b:r'<=((p.2.1:Nat):Int)+(h:Nat):=b
 have c:((p.2.2:Nat):Int) - (h:Nat)<=c':=c
 have d:c'<=((p.2.2:Nat):Int)+(h:Nat):=d
 refine⟨?_,λm=>?_⟩
 ·show kE _ _ _ ((p.1:Nat):Int) r' c'
  unfold kE
  lia
 ·have e:(((p.1:Nat):Int),r',c')=r3 k:=NR.mp m
  have o:((p.1:Nat):Int)=(k.1:Nat):=congrArg (·.1) e
  have j:r'=(k.2.1:Nat):=congrArg (·.2.1) e
  have q:c'=(k.2.2:Nat):=congrArg (·.2.2) e
  lia
theorem IH(b:¬In (2,R,C) p\/p=k\/R<=p.2.1+h):¬qr ((2:Nat):Int) (R:Nat) (C:Nat) [r3 k] (h:Nat) (t3 p):=by
 intro f
 have a:kE _ _ _ ((p.1:Nat):Int) ((p.2.1:Nat):Int) ((p.2.2:Nat):Int)/\_:=f ((p.2.1:Nat):Int) ((p.2.2:Nat):Int) (by show((p.2.1:Nat):Int) - (h:Nat)<=_;omega) (by show _<=((p.2.1:Nat):Int)+(h:Nat);omega) (by show((p.2.2:Nat):Int) - (h:Nat)<=_;omega) (by show _<=((p.2.2:Nat):Int)+(h:Nat);omega)
 have c:kE _ _ _ ((p.1:Nat):Int) (((p.2.1:Nat):Int)+(h:Nat)) ((p.2.2:Nat):Int)/\_:=f (((p.2.1:Nat):Int)+(h:Nat)) ((p.2.2:Nat):Int) (by show((p.2.1:Nat):Int) - (h:Nat)<=_;omega) (by show _<=((p.2.1:Nat):Int)+(h:Nat);omega) (by show((p.2.2:Nat):Int) - (h:Nat)<=_;omega) (by show _<=((p.2.2:Nat):Int)+(h:Nat);omega)
 rcases b with h|rfl|h
 ·apply h
  have:=a.1
  unfold kE at this
  show _<2/\_<R/\_<C
  omega
 ·exact a.2 (NR.mpr rfl)
 ·have:=c.1
  unfold kE at this
  omega
theorem qN {g h:Tg}(k:Nat)(a:((k:Nat):Int)<=g.hf+h.hf+mx g.rm h.rm)(e:p.1=q.1)(h1:p.2.1<=q.2.1+k)(d:q.2.1<=p.2.1+k)(b:p.2.2<=q.2.2+k)(c:q.2.2<=p.2.2+k):CU g h (t3 p) (t3 q)=true:=by
 show(decide (((p.1:Nat):Int)=(q.1:Nat))&&decide (mx (ab (((p.2.1:Nat):Int) - (q.2.1:Nat))) (ab (((p.2.2:Nat):Int) - (q.2.2:Nat)))<=g.hf+h.hf+mx g.rm h.rm))=true
 rw[N8,decide_eq_true_iff,decide_eq_true_iff]
 exact⟨by lia,Int.le_trans ((LH _ _ _).mpr ⟨(Gq _ _).mpr ⟨by lia,by lia⟩,(Gq _ _).mpr ⟨by lia,by lia⟩⟩) a⟩
theorem qG {g h:Tg}(a:c∈g.es)(hd:d∈h.es)(e:CU g h c d=true):Cm g h=true:=Qc.mpr ⟨c,a,Qc.mpr ⟨d,hd,e⟩⟩
noncomputable def nT (bs a:Nat):Tn:=⟨ss fP,0,0,[(0,bs,a),(0,bs+2,a+2)],[]⟩
noncomputable def bT (bs a:Nat):Tn:=⟨ss fQ,0,0,[(1,bs,a)],[(1,bs+2,a),(1,bs+1,a+1)]⟩
theorem JE(h:p∈g.es):t3 p∈(lU g).es:=List.mem_map_of_mem h
theorem pT(h:tY R C bs sd j r):∃g,kJ r=some g/\g.es.length=2/\(j=5->g.nm=ss fP\/g.nm=ss fQ)/\(j=6->g.nm=ss sP)/\(j=7->g.nm=ss yx):=by
 cases h with
 |t5 x hx=>exact⟨_,rfl,rfl,λ_=>hx.elim (λe=> .inl (congrArg ss e)) λe=> .inr (congrArg ss e),(λe=>nomatch e),(λe=>nomatch e)⟩
 |t6a=>exact⟨_,rfl,rfl,(λe=>nomatch e),λ_=>rfl,(λe=>nomatch e)⟩
 |t6b=>exact⟨_,rfl,rfl,(λe=>nomatch e),λ_=>rfl,(λe=>nomatch e)⟩
 |t6c=>exact⟨_,rfl,rfl,(λe=>nomatch e),λ_=>rfl,(λe=>nomatch e)⟩
 |t6d=>exact⟨_,rfl,rfl,(λe=>nomatch e),λ_=>rfl,(λe=>nomatch e)⟩
 |t6e=>exact⟨_,rfl,rfl,(λe=>nomatch e),λ_=>rfl,(λe=>nomatch e)⟩
 |t7a=>exact⟨_,rfl,rfl,(λe=>nomatch e),(λe=>nomatch e),λ_=>rfl⟩
 |t7b=>exact⟨_,rfl,rfl,(λe=>nomatch e),(λe=>nomatch e),λ_=>rfl⟩
 |t7c=>exact⟨_,rfl,rfl,(λe=>nomatch e),(λe=>nomatch e),λ_=>rfl⟩
 |t7d=>exact⟨_,rfl,rfl,(λe=>nomatch e),(λe=>nomatch e),λ_=>rfl⟩
theorem ug(e:g.h=h)(a:p∈g.es)(b:¬In (2,R,C) p\/p=k\/R<=p.2.1+h):∃c∈(lU g).es,¬qr ((2:Nat):Int) (R:Nat) (C:Nat) [r3 k] (lU g).hf c:=⟨t3 p,JE a,by show¬qr _ _ _ _ ((g.h:Nat):Int) _;rw[e];exact IH b⟩
theorem Iw(a:tO R C bs sd)(h:tY R C bs sd 6 r)(e:kJ r=some g):∃c∈(lU g).es,¬qr ((2:Nat):Int) (R:Nat) (C:Nat) [r3 (0,bs+4,sd+4)] (lU g).hf c:=by
 obtain⟨⟨⟨j,i⟩,d,f⟩,b,s⟩:=id a
 cases h with
 |t6a=>cases e;exact ug (p:=(0,bs+4,sd+4)) (h:=0) rfl (.tail _ (.head _)) (.inr (.inl rfl))
 |t6b o ho=>cases e;exact ug (p:=o) (h:=0) rfl (.tail _ (.head _)) (.inl (iX a.rg ho))
 |t6c=>cases e;exact ug (p:=(1,R - 1,C - 1)) (h:=1) rfl (.tail _ (.head _)) (.inr (.inr (by show R<=R - 1+1;omega)))
 |t6d=>cases e;exact ug (p:=(0,bs+4,sd+4)) (h:=0) rfl (.tail _ (.head _)) (.inr (.inl rfl))
 |t6e o ho=>cases e;exact ug (p:=o) (h:=0) rfl (.head _) (.inl (iX a.rg ho))
def Cd (R C:Nat) (k:P3) (g:Tn):Prop:=∀c∈(lU g).es,qr ((2:Nat):Int) (R:Nat) (C:Nat) [r3 k] (lU g).hf c
theorem iY(h:∀p∈g.es,p.1<2/\g.h<=p.2.1/\p.2.1+g.h<R/\g.h<=p.2.2/\p.2.2+g.h<C/\(p.1≠k.1\/k.2.1+g.h<p.2.1\/p.2.1+g.h<k.2.1\/k.2.2+g.h<p.2.2\/p.2.2+g.h<k.2.2)):Cd R C k g:=λc f=>by
 obtain⟨p,e,rfl⟩:=N0.mp f
 obtain⟨h1,h2,a,d,b,i⟩:=h p e
 exact IF h1 h2 a d b i
theorem jX {P:P3->Prop}(b:P p)(d:P q):∀c∈[p,q],P c:=λc a=>by
 simp only[NK,N3,or_false] at a
 rcases a with rfl|rfl
 ·exact b
 ·exact d
theorem Kd(a:tO R C bs sd):Cd R C (0,bs+4,sd+4) (nT bs sd):=by
 obtain⟨⟨⟨e,d⟩,c,f⟩,b,s⟩:=a
 exact iY (jX (by dsimp only[nT];lia) (by dsimp only[nT];lia))
theorem KI(c:tO R C bs sd):Cd R C (0,bs+4,sd+4) (bT bs sd):=by
 obtain⟨⟨⟨g,f⟩,d,e⟩,b,s⟩:=c
 refine iY λp a=>?_
 have a:p∈[((1,bs,sd):P3),(1,bs+2,sd),(1,bs+1,sd+1)]:=a
 simp only[NK,N3,or_false] at a
 rcases a with rfl|rfl|rfl<;>(dsimp only[bT];lia)
theorem Ig(a:tO R C bs sd)(h:tY R C bs sd 7 r)(e:kJ r=some g):Cd R C (0,bs+4,sd+4) g/\(Cm (lU (nT bs sd)) (lU g)=true\/Cm (lU (bT bs sd)) (lU g)=true):=by
 obtain⟨⟨⟨l,j⟩,f,i⟩,b,s⟩:=id a
 cases h with
 |t7a=>cases e;exact⟨iY (jX (by dsimp only;lia) (by dsimp only;lia)),.inl (qG (c:=t3 (0,bs,sd)) (d:=t3 (0,bs,sd)) (.head _) (.tail _ (.head _)) (qN 0 (show((0:Nat):Int)<=((0:Nat):Int)+((0:Nat):Int)+mx ((0:Nat):Int) ((0:Nat):Int) by decide) rfl (by dsimp only;lia) (by dsimp only;lia) (by dsimp only;lia) (by dsimp only;lia)))⟩
 |t7b=>cases e;exact⟨iY (jX (by dsimp only;lia) (by dsimp only;lia)),.inr (qG (c:=t3 (1,bs+2,sd)) (d:=t3 (1,bs+3,sd+1)) (.tail _ (.head _)) (.tail _ (.head _)) (qN 1 (show((1:Nat):Int)<=((0:Nat):Int)+((0:Nat):Int)+mx ((0:Nat):Int) ((1:Nat):Int) by decide) rfl (by dsimp only;lia) (by dsimp only;lia) (by dsimp only;lia) (by dsimp only;lia)))⟩
 |t7c=>cases e;exact⟨iY (jX (by dsimp only;lia) (by dsimp only;lia)),.inl (qG (c:=t3 (0,bs+2,sd+2)) (d:=t3 (0,bs+2,sd+4)) (.tail _ (.head _)) (.head _) (qN 2 (show((2:Nat):Int)<=((0:Nat):Int)+((0:Nat):Int)+mx ((0:Nat):Int) ((2:Nat):Int) by decide) rfl (by dsimp only;lia) (by dsimp only;lia) (by dsimp only;lia) (by dsimp only;lia)))⟩
 |t7d=>cases e;exact⟨iY (jX (by dsimp only;lia) (by dsimp only;lia)),.inr (qG (c:=t3 (1,bs+2,sd)) (d:=t3 (1,bs+2,sd+1)) (.tail _ (.head _)) (.head _) (qN 1 (show((1:Nat):Int)<=((0:Nat):Int)+((1:Nat):Int)+mx ((0:Nat):Int) ((0:Nat):Int) by decide) rfl (by dsimp only;lia) (by dsimp only;lia) (by dsimp only;lia) (by dsimp only;lia)))⟩
theorem LA:Cm (lU (nT bs sd)) (lU (bT bs sd))=false:=by
 refine List.any_eq_false.mpr λc e h=>?_
 obtain⟨d,f,h⟩:=Qc.mp h
 obtain⟨p,b,rfl⟩:=N0.mp e
 obtain⟨q,a,rfl⟩:=N0.mp f
 have h1:p.1=0:=by
  have b:p∈[((0,bs,sd):P3),(0,bs+2,sd+2)]:=b
  simp only[NK,N3,or_false] at b
  rcases b with rfl|rfl<;>rfl
 have h2:q.1=1:=by
  have a:q∈[((1,bs,sd):P3),(1,bs+2,sd),(1,bs+1,sd+1)]:=a
  simp only[NK,N3,or_false] at a
  rcases a with rfl|rfl|rfl<;>rfl
 have h:(decide (((p.1:Nat):Int)=(q.1:Nat))&&_)=true:=h
 rw[N8,decide_eq_true_iff] at h
 omega
theorem mB {gs:List Tg}(h:(gs.map (·.nm)).Nodup):¬Ao gs:=λ⟨i,j,g,k,a,hi,b,e⟩=>by
 obtain⟨c,hi⟩:=Ov.mp hi
 obtain⟨d,b⟩:=Ov.mp b
 have:=List.pairwise_iff_getElem.mp h i j (by rw[NG];exact c) (by rw[NG];exact d) a
 rw[List.getElem_map,List.getElem_map,hi,b] at this
 exact this e
noncomputable def HY (s:PS):Bool:=(fY 1 s.a&&fY 1 s.b)&&((fY 1 s.c&&fY 1 s.d)&&fY 1 s.e)
def Gs (l:List Rw):Bool:=(l.filterMap vO).all (fY 0)
theorem yo(h:Gs l=false):Gs (l++x)=false:=by
 unfold Gs at h|-
 rw[O5,List.all_append,h];rfl
structure Iv (R C bs sd:Nat) (J:List Nat) (s:PS):Prop where
 bz:gN s.z
 bp:(s.a<10^18/\s.b<10^18)/\(s.c<10^18/\s.d<10^18)/\s.e<10^18
 z0:1∉J->s.z=(2,R,C)
 z1:1∈J->oK s.z ((s.rest.filterMap oM).length+2) ((s.rest.filterMap lQ).length+1)=false
 p0:2∉J->HY s=true
 p1:2∈J->HY s=false\/Gs s.rest=false
 al:∀r∈s.rest,∃j∈J,xT R C bs sd j r
 ha:∀j∈J,3<=j->∃r∈s.rest,xT R C bs sd j r
 pr:(∀j∈J,3<=j)->Paired (xT R C bs sd) J s.rest
 ln:s.rest.length<=2*J.length
theorem Iv.noly{s:PS}(h:Iv R C bs sd J s)(n:1∉J):s.rest.filterMap oM=[]/\s.rest.filterMap lQ=[]:=by
 have a:∀r∈s.rest,oM r=none/\lQ r=none:=λr b=>by
  obtain⟨j,d,c⟩:=h.al r b
  exact yb c λe=>n (e▸d)
 exact⟨jH λr b=>(a r b).1,jH λr b=>(a r b).2⟩
theorem jy {c:Type}{a b:c}{l:List c}(h:a∈l++[b]):a∈l\/a=b:=by simpa using h
theorem qh {c:Type}{a b:c}{l:List c}(h:a∉l++[b]):a∉l:=λm=>h (Ou _ m)
theorem Lj(h:oM r=none):(l++[r]).filterMap oM=l.filterMap oM:=by rw[O5,OB,h];exact Os _
theorem LQ(h:lQ r=none):(l++[r]).filterMap lQ=l.filterMap lQ:=by rw[O5,OB,h];exact Os _
theorem II(h:¬Sz z):oK z m n=false:=by
 unfold oK
 cases e:decide ((1<=z.1/\z.1<=4)/\(1<=z.2.1/\z.2.1<=16)/\(1<=z.2.2/\z.2.2<=16)) with
 |false=>rfl
 |true=>exact absurd (of_decide_eq_true e) h
theorem uL(h:m≠z.1\/n+1≠z.1):oK z m n=false:=by
 unfold oK
 cases e:(decide (m=z.1)&&decide (n+1=z.1)) with
 |false=>exact Om _
 |true=>
  rw[N8,decide_eq_true_iff,decide_eq_true_iff] at e
  lia
theorem Iv.size{s:PS}(h:Iv R C bs sd J s)(n:1∉J)(i:gN z)(hx:(¬Sz z/\x=[])\/(z=(2,R,C)/\(x=[.layer 3 4]\/x=[.via 3]))\/(z=(3,R,C)/\x=[])):Iv R C bs sd (J++[1]) {s with z:=z,rest:=s.rest++x}:=by
 obtain⟨b,f⟩:=h.noly n
 have one:∀r∈x,xT R C bs sd 1 r:=λr hr=>by
  rcases hx with ⟨_,rfl⟩|⟨_,rfl|rfl⟩|⟨_,rfl⟩
  ·cases hr
  ·exact .inl ⟨rfl,.inl (NR.mp hr)⟩
  ·exact .inl ⟨rfl,.inr (NR.mp hr)⟩
  ·cases hr
 have l:x.length<=1:=by rcases hx with ⟨_,rfl⟩|⟨_,rfl|rfl⟩|⟨_,rfl⟩<;>decide
 refine⟨i,h.bp,λm=>absurd (Of _ (.head _)) m,λ_=>?_,λm=>h.p0 (qh m),λm=>?_,λr hr=>?_,λj a g=>?_,λa=>absurd (a 1 (Of _ (.head _))) (by decide),?_⟩
 ·show oK z (((s.rest++x).filterMap oM).length+2) (((s.rest++x).filterMap lQ).length+1)=false
  rw[O5,O5,b,f]
  rcases hx with ⟨d,rfl⟩|⟨rfl,rfl|rfl⟩|⟨rfl,rfl⟩
  ·exact II d
  ·exact uL (.inl (by show 3≠2;decide))
  ·exact uL (.inr (by show 3≠2;decide))
  ·exact uL (.inl (by show 2≠3;decide))
 ·rcases jy m with m|m
  ·rcases h.p1 m with e|e
   ·exact .inl e
   ·exact .inr (yo e)
  ·cases m
 ·rcases Ot.mp hr with hr|hr
  ·obtain⟨j,a,c⟩:=h.al r hr
   exact⟨j,Ou _ a,c⟩
  ·exact⟨1,Of _ (.head _),one r hr⟩
 ·rcases jy a with a|rfl
  ·obtain⟨r,hr,c⟩:=h.ha j a g
   exact⟨r,Ou _ hr,c⟩
  ·lia
 ·show(s.rest++x).length<=_
  rw[NM,NM,Qm]
  have:=h.ln
  lia
theorem Iv.price{s t:PS}(h:Iv R C bs sd J s)(i:t.z=s.z)(f:t.rest=s.rest++x)(n:(t.a<10^18/\t.b<10^18)/\(t.c<10^18/\t.d<10^18)/\t.e<10^18)(hx:∀r∈x,xT R C bs sd 2 r)(u:x.length<=2)(p:HY t=false\/Gs x=false):Iv R C bs sd (J++[2]) t:=by
 have q:x.filterMap oM=[]:=jH λr f=>(yb (hx r f) (by decide)).1
 have l:x.filterMap lQ=[]:=jH λr f=>(yb (hx r f) (by decide)).2
 refine⟨by rw[i];exact h.bz,n,λm=>by rw[i];exact h.z0 (qh m),λm=>?_,λm=>absurd (Of _ (.head _)) m,λ_=>?_,λr hr'=>?_,λj g o=>?_,λg=>absurd (g 2 (Of _ (.head _))) (by decide),?_⟩
 ·rcases jy m with m|m
  ·rw[f,O5,O5,q,l,Os,Os,i]
   exact h.z1 m
  ·cases m
 ·rcases p with e|e
  ·exact .inl e
  ·refine .inr ?_
   rw[f]
   unfold Gs at e|-
   rw[O5,List.all_append,e,Om]
 ·rw[f] at hr'
  rcases Ot.mp hr' with hr'|hr'
  ·obtain⟨j,g,c⟩:=h.al r hr'
   exact⟨j,Ou _ g,c⟩
  ·exact⟨2,Of _ (.head _),hx r hr'⟩
 ·rcases jy g with g|rfl
  ·obtain⟨r,hr',c⟩:=h.ha j g o
   exact⟨r,by rw[f];exact Ou _ hr',c⟩
  ·lia
 ·rw[f,NM,NM,Qm]
  have:=h.ln
  lia
theorem Iv.row{s:PS}(h:Iv R C bs sd J s)(l:3<=j)(c:xT R C bs sd j r):Iv R C bs sd (J++[j]) {s with rest:=s.rest++[r]}:=by
 have g:=yb c (by lia)
 refine⟨h.bz,h.bp,λm=>h.z0 (qh m),λm=>?_,λm=>h.p0 (qh m),λm=>?_,λd hr'=>?_,λi a f=>?_,λa=>?_,?_⟩
 ·rcases jy m with m|m
  ·show oK s.z (((s.rest++[r]).filterMap oM).length+2) (((s.rest++[r]).filterMap lQ).length+1)=false
   rw[Lj g.1,LQ g.2]
   exact h.z1 m
  ·lia
 ·rcases jy m with m|m
  ·rcases h.p1 m with e|e
   ·exact .inl e
   ·exact .inr (yo e)
  ·lia
 ·rcases Ot.mp hr' with hr'|hr'
  ·obtain⟨j,a,c⟩:=h.al d hr'
   exact⟨j,Ou _ a,c⟩
  ·rw[NR.mp hr']
   exact⟨j,Of _ (.head _),c⟩
 ·rcases jy a with a|rfl
  ·obtain⟨d,hr',c⟩:=h.ha i a f
   exact⟨d,Ou _ hr',c⟩
  ·exact⟨r,Of _ (.head _),c⟩
 ·exact dy c (h.pr λj b=>a j (Ou _ b))
 ·show(s.rest++[r]).length<=_
  rw[NM,NM,Qm,Qm]
  have:=h.ln
  lia
theorem vG {s:PS}(h:fY 1 s.a=false\/fY 1 s.d=false\/fY 1 s.e=false):HY s=false:=by
 unfold HY
 rcases h with e|e|e<;>rw[e]<;>simp
theorem Iv.step{s t:PS}(h:Iv R C bs sd J s)(o:Op R C bs sd j s t)(n:j∉J)(h0:j≠0):Iv R C bs sd (J++[j]) t:=by
 cases o with
 |no _=>exact absurd rfl h0
 |size _ z x hb hx=>exact h.size n hb hx
 |price _ _ p h1 h18 ht=>
  obtain⟨⟨b,c⟩,⟨e,d⟩,f⟩:=h.bp
  rcases ht with rfl|rfl|rfl|⟨h0,rfl⟩
  ·exact h.price (x:=[]) rfl (Os _).symm ⟨⟨h18,by show 7<_;lia⟩,⟨e,d⟩,f⟩ (λ_ h=>nomatch h) (by decide) (.inl (vG (.inl h1)))
  ·exact h.price (x:=[]) rfl (Os _).symm ⟨⟨b,c⟩,⟨by show 7<_;lia,h18⟩,f⟩ (λ_ h=>nomatch h) (by decide) (.inl (vG (.inr (.inl h1))))
  ·exact h.price (x:=[]) rfl (Os _).symm ⟨⟨b,c⟩,⟨e,d⟩,h18⟩ (λ_ h=>nomatch h) (by decide) (.inl (vG (.inr (.inr h1))))
  ·refine h.price rfl rfl ⟨⟨b,c⟩,⟨e,d⟩,f⟩ (λr a=>?_) (NI 2) (.inr ?_)
   ·simp only[NK,N3,or_false] at a
    rcases a with rfl|rfl
    ·exact .inr (.inl ⟨rfl,.inl ⟨p,h18,rfl⟩⟩)
    ·exact .inr (.inl ⟨rfl,.inr rfl⟩)
   ·show(fY 0 p&&_)=false
    rw[h0];rfl
 |row _ _ r h3 a=>exact h.row h3 a
theorem Iv.none(g:tO R C bs sd)(o:JP a)(m:JP b)(j:JP e):Iv R C bs sd [] ⟨(2,R,C),a,b,1000000000000,1,e,[]⟩:=by
 obtain⟨⟨s,r⟩,p,q⟩:=g.rg
 obtain⟨c,d⟩:=o
 obtain⟨f,b2⟩:=m
 obtain⟨i,l⟩:=j
 refine⟨⟨by show 2<_;lia,by show R<_;lia,by show C<_;lia⟩,⟨⟨by show a<_;lia,by show b<_;lia⟩,⟨by show 1000000000000<_;lia,by show 1<_;lia⟩,by show e<_;lia⟩,λ_=>rfl,(λh=>nomatch h),λ_=>?_,(λh=>nomatch h),(λ_ h=>nomatch h),(λ_ h=>nomatch h),λ_=> .nil,N9 _⟩
 have k:∀{n:Nat},1<=n->n<=1000000000000->fY 1 n=true:=λh1 h2=>by unfold fY;rw[decide_eq_true h1,decide_eq_true h2];rfl
 show((fY 1 a&&fY 1 b)&&((fY 1 1000000000000&&fY 1 1)&&fY 1 e))=true
 rw[k c d,k f b2,k i l]
 decide
section
variable {R C bs sd n:Nat} {J:List Nat} {s:PS}
theorem Gy:(PS.body bs sd n s).filterMap oM=(s.a,s.b)::(s.c,s.d)::s.rest.filterMap oM:=rfl
theorem GF:(PS.body bs sd n s).filterMap lQ=s.e::s.rest.filterMap lQ:=rfl
theorem J6:(PS.body bs sd n s).filterMap vO=n::s.rest.filterMap vO:=rfl
theorem Lx:(PS.body bs sd n s).filterMap vq=(.bl true,(0,bs+4,sd+4),(0,bs+4,sd+4))::s.rest.filterMap vq:=rfl
theorem LI:(PS.body bs sd n s).filterMap rH=(.int ((n:Nat):Int),(1,bs,sd),(1,bs,sd))::s.rest.filterMap rH:=rfl
theorem CQ:(PS.body bs sd n s).filterMap kJ=nT bs sd::bT bs sd::s.rest.filterMap kJ:=rfl
theorem uv(h:r∈s.rest):r∈PS.body bs sd n s:=.tail _ (.tail _ (.tail _ (.tail _ (.tail _ (.tail _ (.tail _ h))))))
theorem Iv.s1 (h:Iv R C bs sd J s)(m:1∈J):mj s.z (PS.body bs sd n s)=false:=h.z1 m
theorem Iv.s1t (h:Iv R C bs sd J s)(g:tO R C bs sd)(m:1∉J):mj s.z (PS.body bs sd n s)=true:=by
 obtain⟨a,b⟩:=h.noly m
 obtain⟨⟨f,e⟩,c,d⟩:=g.rg
 unfold mj
 rw[Gy,GF,a,b,h.z0 m]
 show oK (2,R,C) 2 1=true
 unfold oK
 rw[decide_eq_true (show(1<=(2,R,C).1/\(2,R,C).1<=4)/\(1<=(2,R,C).2.1/\(2,R,C).2.1<=16)/\(1<=(2,R,C).2.2/\(2,R,C).2.2<=16) by dsimp only;lia)]
 rfl
theorem Iv.s2e (h:Iv R C bs sd J s)(m:1∉J):pM (PS.body bs sd n s)=true↔(HY s=true/\fY 0 n=true/\Gs s.rest=true):=by
 obtain⟨f,g⟩:=h.noly m
 have e:pM (PS.body bs sd n s)=(((((fY 1 s.a&&fY 1 s.b)&&((fY 1 s.c&&fY 1 s.d)&&true))&&(fY 1 s.e&&true)))&&(fY 0 n&&Gs s.rest)):=by
  unfold pM
  rw[Gy,GF,f,g];rfl
 rw[e]
 unfold HY
 simp only[N8,and_true]
 constructor
 ·rintro⟨⟨⟨a,b⟩,e⟩,c⟩;exact⟨⟨a,b,e⟩,c⟩
 ·rintro⟨⟨a,b,e⟩,c⟩;exact⟨⟨⟨a,b⟩,e⟩,c⟩
theorem Iv.s2 (h:Iv R C bs sd J s)(m:1∉J)(c:2∈J):pM (PS.body bs sd n s)=false:=by
 rw[<-Bool.not_eq_true,h.s2e m]
 rintro⟨a,_,b⟩
 rcases h.p1 c with e|e
 ·rw[e] at a;cases a
 ·rw[e] at b;cases b
theorem Iv.s2t (h:Iv R C bs sd J s)(b:n<=1000000000000)(m:1∉J)(a:2∉J):pM (PS.body bs sd n s)=true:=by
 rw[h.s2e m]
 refine⟨h.p0 a,by unfold fY;rw[decide_eq_true (N9 _),decide_eq_true b];rfl,Oa.mpr λk d=>?_⟩
 obtain⟨r,f,e⟩:=Oy.mp d
 obtain⟨j,g,c⟩:=h.al r f
 exact LD c (λe=>a (e▸g)) k e
theorem Iv.s3 (h:Iv R C bs sd J s)(g:tO R C bs sd)(m:1∉J)(f:3∈J):xq s.z (PS.body bs sd n s)=false:=by
 obtain⟨r,d,c⟩:=h.ha 3 f (NI 3)
 rw[h.z0 m]
 rcases CD c (by decide) (by decide) with ⟨e,_⟩|⟨_,o,i,a⟩
 ·cases e
 have no:∀v:V,¬Ai (2,R,C) (v,o.1,o.2)=true:=λv e=>by
  unfold Ai at e
  rw[N8,decide_eq_true_iff,decide_eq_true_iff] at e
  obtain⟨p,b,rfl|rfl|rfl⟩:=i
  ·exact iX g.rg b e.1
  ·exact iX g.rg b e.1
  ·exact iX g.rg b e.2
 refine QF.mpr ?_
 rcases a with rfl|rfl
 ·exact⟨_,Ou _ (Oy.mpr ⟨_,uv d,rfl⟩),no _⟩
 ·exact⟨_,Of _ (Oy.mpr ⟨_,uv d,rfl⟩),no _⟩
theorem Iv.no4 (h:Iv R C bs sd J s)(m:∀j∈J,4<=j):∀r∈s.rest,kd r=5\/kd r=6:=λr a=>by
 obtain⟨j,b,c⟩:=h.al r a
 exact wW c (m j b)
theorem Iv.one (h:Iv R C bs sd J s)(m:∀j∈J,4<=j):L5 (PS.body bs sd n s) (0,bs+4,sd+4) (1,bs,sd) n:=by
 have k:=h.no4 m
 refine⟨?_,?_,?_⟩
 ·rw[Lx,jH λr a=>(yS (k r a)).2.2.1]
 ·rw[LI,jH λr a=>(yS (k r a)).2.2.2.1]
 ·rw[J6,jH λr a=>(yS (k r a)).2.2.2.2]
theorem Iv.s3t (h:Iv R C bs sd J s)(g:tO R C bs sd)(m:∀j∈J,4<=j):xq s.z (PS.body bs sd n s)=true:=by
 have o:=h.one (n:=n) m
 obtain⟨⟨⟨l,i⟩,c,f⟩,b,d⟩:=g
 unfold xq
 rw[h.z0 (λe=>absurd (m 1 e) (by decide)),o.rk,o.tl]
 have k:∀{p:P3} {v:V},In (2,R,C) p->Ai (2,R,C) (v,p,p)=true:=λa=>by unfold Ai;rw[decide_eq_true a];rfl
 show(Ai _ _&&(Ai _ _&&true))=true
 rw[k (p:=(0,bs+4,sd+4)) (show 0<2/\bs+4<R/\sd+4<C by lia),k (p:=(1,bs,sd)) (show 1<2/\bs<R/\sd<C by lia)];rfl
theorem Iv.t4 (h:Iv R C bs sd J s)(m:4∈J):(PS.body bs sd n s).all lK=false:=by
 obtain⟨r,a,c⟩:=h.ha 4 m (by decide)
 refine QF.mpr ⟨r,uv a,?_⟩
 rcases c with ⟨e,_⟩|⟨e,_⟩|⟨e,_⟩|⟨_,c⟩|⟨e,_⟩|⟨e,_⟩|⟨e,_⟩<;>first|cases e|(rw[c.1];decide)
theorem Fq:lK (Dr bs sd)=true:=iI AY (by decide) (by decide) (jY (by lia))
theorem Eh:lK (C3 bs sd)=true:=by
 have a:([((1,bs,sd):P3)]++[(1,bs+2,sd),(1,bs+1,sd+1)]).Nodup:=by
  show [((1,bs,sd):P3),(1,bs+2,sd),(1,bs+1,sd+1)].Nodup
  simp
 show f_ _ _ _ _=true
 unfold f_ kR
 rw[AD,decide_eq_true a]
 rfl
theorem Iv.t4t (h:Iv R C bs sd J s)(g:tO R C bs sd)(m:∀j∈J,5<=j):(PS.body bs sd n s).all lK=true:=by
 show(true&&(true&&(true&&(true&&(true&&(lK (Dr bs sd)&&(lK (C3 bs sd)&&s.rest.all lK)))))))=true
 rw[Fq,Eh]
 refine Oa.mpr λr a=>?_
 obtain⟨j,b,c⟩:=h.al r a
 exact Kz g (ke c (m j b))
theorem Iv.rb (h:Iv R C bs sd J s)(g:tO R C bs sd)(m:n<=1000000000000):∀r∈PS.rows bs sd n s,RB r/\Hi r:=by
 obtain⟨⟨⟨u,q⟩,i,p⟩,b,d⟩:=id g
 obtain⟨⟨x,o⟩,⟨v,B⟩,D⟩:=h.bp
 obtain⟨y,l,A⟩:=h.bz
 intro r hr
 have hr:r∈Rw.floor s.z::.layer s.a s.b::.layer s.c s.d::.via s.e::.rock (0,bs+4,sd+4) (0,bs+4,sd+4)::.toll n (1,bs,sd) (1,bs,sd)::Dr bs sd::C3 bs sd::s.rest:=hr
 simp only[NK] at hr
 rcases hr with rfl|rfl|rfl|rfl|rfl|rfl|rfl|rfl|hr
 ·exact⟨show gV s.z by unfold gV;lia,trivial⟩
 ·exact⟨⟨by unfold Bn;lia,by unfold Bn;lia⟩,trivial⟩
 ·exact⟨⟨by unfold Bn;lia,by unfold Bn;lia⟩,trivial⟩
 ·exact⟨show Bn s.e by unfold Bn;lia,trivial⟩
 ·exact⟨⟨by unfold gV;dsimp only;lia,by unfold gV;dsimp only;lia⟩,trivial⟩
 ·exact⟨⟨by unfold Bn;lia,by unfold gV;dsimp only;lia,by unfold gV;dsimp only;lia⟩,trivial⟩
 ·exact⟨iE (iu (by decide)) (by decide) (by decide) (gY (by lia)) (gY (by lia)),kr (by dsimp only;lia) (by dsimp only;lia)⟩
 ·refine⟨⟨iu (by decide),by unfold Bn;lia,by show 1+2<=50/\(1<=6->1<=2->2<=12->1+2<=4);decide,λc f=>?_⟩,kj λc f=>?_⟩
  all_goals
   have f:c∈[((1,bs,sd):P3),(1,bs+2,sd),(1,bs+1,sd+1)]:=f
   simp only[NK,N3,or_false] at f
   rcases f with rfl|rfl|rfl<;>(try unfold gV)<;>dsimp only<;>lia
 ·obtain⟨j,w,c⟩:=h.al r hr
  exact⟨(Cp g c).1,(Cp g c).2.1⟩
theorem Iv.k0 (h:Iv R C bs sd J s)(g:tO R C bs sd):∀r∈PS.body bs sd n s,kd r≠0:=by
 intro r hr
 have hr:r∈Rw.layer s.a s.b::.layer s.c s.d::.via s.e::.rock (0,bs+4,sd+4) (0,bs+4,sd+4)::.toll n (1,bs,sd) (1,bs,sd)::Dr bs sd::C3 bs sd::s.rest:=hr
 simp only[NK] at hr
 rcases hr with rfl|rfl|rfl|rfl|rfl|rfl|rfl|hr
 ·exact(show(1:Nat)≠0 by decide)
 ·exact(show(1:Nat)≠0 by decide)
 ·exact(show(2:Nat)≠0 by decide)
 ·exact(show(3:Nat)≠0 by decide)
 ·exact(show(4:Nat)≠0 by decide)
 ·exact(show(5:Nat)≠0 by decide)
 ·exact(show(6:Nat)≠0 by decide)
 obtain⟨j,f,c⟩:=h.al r hr
 exact(Cp g c).2.2
inductive K8 (J:List Nat):Nat->Prop
 |no (_:J=[]):K8 J 0
 |mk (k:Nat) (_:k∈J) (_:∀j∈J,k<=j):K8 J k
theorem wI {b:List Tn}{a:P3}(h:∀g∈b,Cd R C a g):qw ((2:Nat):Int) (R:Nat) (C:Nat) [r3 a] (b.map lU):=λg f c e=>by
 obtain⟨t,d,rfl⟩:=N0.mp f
 exact h t d c e
set_option tactic.hygienic true in
theorem Iv.things (h:Iv R C bs sd J s)(g:tO R C bs sd)(E:J.Nodup)(M:J.length<=2)(le:∀j∈J,5<=j/\j<=7){k:Nat}(U:K8 J k):lE ((2:Nat):Int) (R:Nat) (C:Nat) [r3 (0,bs+4,sd+4)] ((nT bs sd::bT bs sd::s.rest.filterMap kJ).map lU) (if k=0 then 0 else k - 4):=by
 have pr:=h.pr λj w=>by have:=(le j w).1;lia
 obtain⟨I,q⟩:∃I,I=s.rest:=⟨_,rfl⟩
 rw[<-q] at pr|-
 have B:=Kd g
 have H:=KI g
 cases U with
 |no e=>
  subst e
  cases pr
  refine .inr (.inr (.inr ⟨rfl,mB ?_,wI λt u=>?_,?_⟩))
  ·show [ss fP,ss fQ].Nodup
   decide+kernel
  ·simp only[QG,NK,N3,or_false] at u
   rcases u with rfl|rfl
   ·exact B
   ·exact H
  ·rintro⟨i,j,a,b,O,hi,w,e⟩
   have o:j<2:=bU w
   obtain rfl:i=0:=by lia
   obtain rfl:j=1:=by lia
   cases hi
   cases w
   rw[LA] at e
   cases e
 |mk k hk hl=>
  have X:=le k hk
  have k0:¬k=0:=by lia
  rw[if_neg k0]
  rcases(show k=5\/k=6\/k=7 by lia) with rfl|rfl|rfl
  ·refine .inl ⟨rfl,?_⟩
   subst q
   obtain⟨r,A,c⟩:=h.ha 5 hk (by decide)
   obtain⟨t,p,_,l,_⟩:=pT (ke c (NI 5))
   have Q:t∈s.rest.filterMap kJ:=Oy.mpr ⟨r,A,p⟩
   obtain⟨i,hi⟩:=List.mem_iff_getElem?.mp Q
   have K:((nT bs sd::bT bs sd::s.rest.filterMap kJ).map lU)[i+2]?=some (lU t):=by
    show((s.rest.filterMap kJ).map lU)[i]?=_
    rw[Od,hi];rfl
   rcases l rfl with e|e
   ·exact⟨0,i+2,_,_,by lia,rfl,K,e.symm⟩
   ·exact⟨1,i+2,_,_,by lia,rfl,K,e.symm⟩
  ·refine .inr (.inl ⟨rfl,?_,?_⟩)
   ·cases pr with
    |nil=>cases hk
    |cons c1 t=>
     rename_i j1 r1 J1 rs1
     obtain⟨D,G,_,_,F,x⟩:=pT (ke c1 (le _ (.head _)).1)
     have d:j1=6\/j1=7:=by have:=le j1 (.head _);have:=hl j1 (.head _);lia
     cases t with
     |nil=>
      refine mB ?_
      rw[OB,G]
      show [ss fP,ss fQ,D.nm].Nodup
      rcases d with e|e
      ·rw[F e];decide+kernel
      ·rw[x e];decide+kernel
     |cons c2 t=>
      rename_i j2 r2 J2 rs2
      obtain⟨T,y,_,_,S,P⟩:=pT (ke c2 (le _ (.tail _ (.head _))).1)
      have m:j2=6\/j2=7:=by have:=le j2 (.tail _ (.head _));have:=hl j2 (.tail _ (.head _));lia
      have W:j1≠j2:=λe=>(OT.mp E).1 (by rw[e];exact .head _)
      cases t with
      |nil=>
       refine mB ?_
       rw[OB,G,OB,y]
       show [ss fP,ss fQ,D.nm,T.nm].Nodup
       rcases d with e|e<;>rcases m with f|f
       ·lia
       ·rw[F e,P f];decide+kernel
       ·rw[x e,S f];decide+kernel
       ·lia
      |cons c3 t=>simp only[NU] at M;lia
   ·intro f
    subst q
    obtain⟨r,A,c⟩:=h.ha 6 hk (by decide)
    have v:=ke c (by decide)
    obtain⟨t,p,_⟩:=pT v
    obtain⟨c,N,z⟩:=Iw g v p
    exact z (f _ (List.mem_map_of_mem (.tail _ (.tail _ (Oy.mpr ⟨r,A,p⟩)))) c N)
  ·cases pr with
   |nil=>cases hk
   |cons c1 t=>
    rename_i j1 r1 J1 rs1
    obtain rfl:j1=7:=by have:=le j1 (.head _);have:=hl j1 (.head _);lia
    cases t with
    |cons c2 t=>
     rename_i j2 r2 J2 rs2
     have y:j2=7:=by have:=le j2 (.tail _ (.head _));have:=hl j2 (.tail _ (.head _));lia
     exact absurd (by rw[y];exact .head _) (OT.mp E).1
    |nil=>
     have v:=ke c1 (by decide)
     obtain⟨t,p,_,_,_,x⟩:=pT v
     obtain⟨z,n⟩:=Ig g v p
     rw[OB,p,QG]
     refine .inr (.inr (.inl ⟨rfl,mB ?_,wI λt u=>?_,?_⟩))
     ·show [ss fP,ss fQ,t.nm].Nodup
      rw[x rfl];decide+kernel
     ·simp only[NK,N3,or_false] at u
      rcases u with rfl|rfl|rfl
      ·exact B
      ·exact H
      ·exact z
     ·rcases n with e|e
      ·exact⟨0,2,_,_,by decide,rfl,rfl,e⟩
      ·exact⟨1,2,_,_,by decide,rfl,rfl,e⟩
theorem Iv.due (h:Iv R C bs sd J s)(g:tO R C bs sd)(q:n<=1000000000000)(E:J.Nodup)(D:J.length<=2)(le:∀j∈J,1<=j/\j<=7){k:Nat}(p:K8 J k):Ka (PS.rows bs sd n s) k:=by
 refine⟨s.z,PS.body bs sd n s,rfl,h.rb g q,?_,h.k0 g,?_⟩
 ·have big:∀i,(k=0\/i<k)->∀j∈J,i<j:=λi hi j o=>by
   cases p with
   |no e=>rw[e] at o;cases o
   |mk k hk hl=>have:=hl j o;have:=le k hk;lia
  have a:k≠0->k∈J:=λz=>by
   cases p with
   |no e=>exact absurd rfl z
   |mk k hk hl=>exact hk
  have H:k<=7:=by
   cases p with
   |no e=>decide
   |mk k hk hl=>exact(le k hk).2
  by_cases e1:k=1
  ·rw[e1];exact .d1 (h.s1 (e1▸a (by lia)))
  have B:=big 1 (by lia)
  have f:1∉J:=λm=>absurd (B 1 m) (by decide)
  by_cases e2:k=2
  ·rw[e2];exact .d2 (h.s1t g f) (h.s2 f (e2▸a (by lia)))
  have b2:=big 2 (by lia)
  have w:2∉J:=λm=>absurd (b2 2 m) (by decide)
  by_cases e3:k=3
  ·rw[e3];exact .d3 (h.s1t g f) (h.s2t q f w) (h.s3 g f (e3▸a (by lia)))
  have x:=big 3 (by lia)
  have ok:Mx s.z (PS.body bs sd n s):=⟨h.s1t g f,h.s2t q f w,h.s3t g x⟩
  have y:=h.one (n:=n) x
  by_cases e4:k=4
  ·rw[e4];exact .d4 _ _ _ ok y (h.t4 (e4▸a (by lia)))
  have v:=big 4 (by lia)
  have b:∀j∈J,5<=j/\j<=7:=λj o=>⟨v j o,(le j o).2⟩
  have d:=h.things g E D b p
  have A:k=(if (if k=0 then 0 else k - 4)=0 then 0 else (if k=0 then 0 else k - 4)+4):=by
   by_cases z:k=0
   ·rw[z];rfl
   ·rw[if_neg z,if_neg (by lia)];lia
  rw[A]
  refine .d5 _ _ _ _ ok y (h.t4t g v) ?_ ?_ ?_
  ·rw[h.z0 f,CQ];exact d
  ·rw[CQ,NU,NU]
   have:=QH kJ s.rest
   have:=h.ln
   lia
  ·intro t ht
   rw[CQ] at ht
   rcases NK.mp ht with rfl|ht
   ·show 2<=7;decide
   rcases NK.mp ht with rfl|ht
   ·show 3<=7;decide
   obtain⟨r,F,e⟩:=Oy.mp ht
   obtain⟨j,o,c⟩:=h.al r F
   obtain⟨G,u,l,_⟩:=pT (ke c (b j o).1)
   rw[e] at u
   cases u
   rw[l];decide
 ·show s.rest.length+7<=20
  have:=h.ln
  lia
end
theorem CB{ks:List Rk}(h:Paired gu xs ks):∃c:List (List Str×Str),c.map (·.2)=xs/\(∀p∈c,sX p.1 p.2)/\Paired (λd k=>iH (d.map cp)=k) (c.map (·.1)) ks:=by
 induction h with
 |nil=>exact⟨[],rfl,(λ_ h=>nomatch h),.nil⟩
 |cons r t ih=>
  obtain⟨c,e,a,b⟩:=ih
  obtain⟨d,j,i⟩:=r
  refine⟨(d.map ss,_)::c,by rw[NQ,e],λp hp=>?_,.cons ?_ b⟩
  ·rcases NK.mp hp with rfl|hp
   ·exact j
   ·exact a p hp
  ·show iH ((d.map ss).map cp)=_
   rw[Ol,QE (f:=cp∘ss) (g:=id) (λz _=>cU z),List.map_id];exact i
theorem xN {w:List Nat}{ws:List (List Nat)}:iH (w::ws)=match jh (w::ws) with
 |none=> .ba
 |some r=> .gd r:=if_neg (by simp)
theorem Ej {c:List (List Str)}{ks:List Rk}(h:Paired (λa k=>iH (a.map cp)=k) c ks):∀(b:Bool) (i:Nat),gC b ((c.zipIdx i).filter λp=>!p.1.isEmpty)=tk b i ks:=by
 induction h with
 |nil=>intro b i;rfl
 | @cons a k c ks r t ih=>
  intro b i
  rw[List.zipIdx_cons]
  cases a with
  |nil=>
   cases r
   exact ih b (i+1)
  |cons w a=>
   show gC b ((w::a,i)::_)=_
   rw[jE]
   have r:iH (cp w::a.map cp)=k:=r
   rw[xN] at r
   show(match jh (cp w::a.map cp) with|none=>_|some v=>_)=_
   cases e:jh (cp w::a.map cp) with
   |none=>
    rw[e] at r
    cases r
    rfl
   |some v=>
    rw[e] at r
    cases r
    have:=ih false (i+1)
    show(if decide (kd v=0)=b then (match gC false ((c.zipIdx (i+1)).filter λp=>!p.1.isEmpty) with| .ok W=>Except.ok (v::W)| .error n=>Except.error n) else Except.error (i+1))=_
    rw[this]
    rfl
theorem yr {b:List (List Str)}{c:List Rk}(h:Paired (λa k=>iH (a.map cp)=k) b c):∀i:Nat,((b.zipIdx i).filter λp=>!p.1.isEmpty)=[]↔c.all EO=true:=by
 induction h with
 |nil=>intro i;exact⟨λ_=>rfl,λ_=>rfl⟩
 | @cons a k b c r t ih=>
  intro i
  rw[List.zipIdx_cons]
  cases a with
  |nil=>
   cases r
   exact ih (i+1)
  |cons w a=>
   have r:iH (cp w::a.map cp)=k:=r
   have:EO k=false:=by
    rw[<-r,xN]
    cases jh (cp w::a.map cp)<;>rfl
   constructor
   ·intro h;cases h
   ·intro h
    rw[PL,this] at h;cases h
theorem Fi {a:List (List Str)}{ks:List Rk}(h:Paired (λb k=>iH (b.map cp)=k) a ks):gv a=gw ks:=by
 unfold gv gw
 by_cases e:ks.all EO=true
 ·rw[if_pos e,if_pos (show iz a=[] from(yr h 0).mpr e)]
 ·rw[if_neg e,if_neg (show¬iz a=[] from λz=>e ((yr h 0).mp z))]
  exact Ej h true 0
theorem Ed:sX [] (ss []):=sX.plain (by decide+kernel) (λd a=>by rw[cU] at a;cases a) (by rw[cU];decide)
theorem JZ{ks:List Rk}(h:Paired gu xs ks)(j:xs.length<=100):∃Ws,Pg (ss (jl 10 (xs.map cp))) Ws/\gv Ws=gw ks:=by
 obtain⟨a,e,g,d⟩:=CB h
 cases a with
 |nil=>
  cases e
  cases d
  exact⟨[[]],⟨[([],ss [])],rfl,by simp,by decide,by rw[cU];rfl,λp b=>by rw[NR.mp b];exact Ed,by rw[cU];decide⟩,rfl⟩
 |cons r a=>
  have len:(r::a).length<=100:=by rw[<-NG (f:=(·.2)),e];exact j
  refine⟨_,⟨r::a,rfl,by simp,len,by rw[cU,<-e,Ol];rfl,g,?_⟩,Fi d⟩
  rw[cU]
  refine NP (CF λp b=>?_) ?_
  ·obtain⟨x,c,rfl⟩:=N0.mp b
   rw[<-e] at c
   obtain⟨q,i,rfl⟩:=N0.mp c
   obtain⟨_,_,_,_,_,_,_,l⟩:=g q i
   exact l
  ·rw[NG];lia
def Bk (m i:Nat) (k:Rk):Prop:=k=.ba\/(∃w,k=.gd w/\kd w=0/\m<i)\/(∃w,k=.gd w/\kd w≠0/\i<=m)
theorem B0 {w:Rw}{i:Nat}{r:List Rk}(h:kd w≠0):tk true i (.gd w::r)=.error (i+1):=by
 show(if decide (kd w=0)=true then _ else _)=_
 rw[if_neg (by simpa using h)]
theorem C7 {w:Rw}{i:Nat}{r:List Rk}(h:kd w=0):tk false i (.gd w::r)=.error (i+1):=by
 show(if decide (kd w=0)=false then _ else _)=_
 rw[if_neg (by simpa using h)]
theorem Hd {w:Rw}{i n:Nat}{b:Bool}{r:List Rk}(h:decide (kd w=0)=b)(e:tk false (i+1) r=.error n):tk b i (.gd w::r)=.error n:=by
 show(if decide (kd w=0)=b then _ else _)=_
 rw[if_pos h,e]
theorem El {k:Rk}{rest:List Rk}(c:k=.ba\/∃w,k=.gd w/\kd w=0):∀(X:List Rw),(∀r∈X,kd r≠0)->∀a i,a<=X.length->tk false i ((X.map Rk.gd).take a++k::rest)=.error (i+a+1):=by
 intro X
 induction X with
 |nil=>
  intro _ a i b
  obtain rfl:a=0:=by simpa using b
  rcases c with rfl|⟨w,rfl,h⟩
  ·rfl
  ·exact C7 h
 |cons x X ih=>
  intro d a i b
  cases a with
  |zero=>
   rcases c with rfl|⟨w,rfl,h⟩
   ·rfl
   ·exact C7 h
  |succ a=>
   have:=ih (λr e=>d r (.tail _ e)) a (i+1) (by simpa using b)
   exact Hd (by simpa using d x (.head _)) (this.trans (by congr 1;lia))
theorem Jf {k:Rk}{rest:List Rk}{z:P3}{X:List Rw}(c:∀r∈X,kd r≠0):∀m a i,a<=m+1+X.length->Bk m a k->tk true i ((vF m (.floor z::X)).take a++k::rest)=.error (i+a+1):=by
 intro m
 induction m with
 |zero=>
  intro a i d b
  cases a with
  |zero=>
   rcases b with rfl|⟨w,rfl,h,l⟩|⟨w,rfl,h,l⟩
   ·rfl
   ·lia
   ·exact B0 h
  |succ a=>
   have:=El (k:=k) (rest:=rest) (by
    rcases b with rfl|⟨w,rfl,h,l⟩|⟨w,rfl,h,l⟩
    ·exact .inl rfl
    ·exact .inr ⟨w,rfl,h⟩
    ·lia) X c a (i+1) (by lia)
   exact Hd (w:=.floor z) rfl (this.trans (by congr 1;lia))
 |succ m ih=>
  intro a i d b
  cases a with
  |zero=>
   rcases b with rfl|⟨w,rfl,h,l⟩|⟨w,rfl,h,l⟩
   ·rfl
   ·lia
   ·exact B0 h
  |succ a=>
   have:=ih a (i+1) (by lia) (by
    rcases b with rfl|⟨w,rfl,h,l⟩|⟨w,rfl,h,l⟩
    ·exact .inl rfl
    ·exact .inr (.inl ⟨w,rfl,h,by lia⟩)
    ·exact .inr (.inr ⟨w,rfl,h,by lia⟩))
   exact this.trans (by congr 1;lia)
theorem AW {k:Rk}{rest:List Rk}(c:∀r∈X,kd r≠0)(d:a<=m+1+X.length)(b:Bk m a k):gw ((vF m (.floor z::X)).take a++k::rest)=.error (a+1):=by
 unfold gw
 rw[if_neg,Jf c m a 0 d b,Pw]
 rw[Bool.not_eq_true,QF]
 refine⟨k,Of _ (.head _),?_⟩
 rcases b with rfl|⟨w,rfl,_⟩|⟨w,rfl,_⟩<;>exact NY
theorem Hm(a:∀r∈X,kd r≠0):∀i,tk false i (X.map Rk.gd)=.ok X:=by
 induction X with
 |nil=>intro i;rfl
 |cons x X ih=>
  intro i
  show(if decide (kd x=0)=false then _ else _)=_
  rw[if_pos (by simpa using a x (.head _)),ih (λr b=>a r (.tail _ b)) (i+1)]
theorem Fy(a:∀r∈X,kd r≠0):∀m i,tk true i (vF m (.floor z::X))=.ok (.floor z::X):=by
 intro m
 induction m with
 |zero=>
  intro i
  show(if decide (kd (.floor z)=0)=true then (match tk false (i+1) (X.map Rk.gd) with| .ok W=>Except.ok (Rw.floor z::W)| .error n=>Except.error n) else _)=_
  rw[if_pos (show decide (kd (Rw.floor z)=0)=true from rfl),Hm a]
 |succ m ih=>intro i;exact ih (i+1)
theorem Ac(a:∀r∈X,kd r≠0):gw (vF m (.floor z::X))=.ok (.floor z::X):=by
 unfold gw
 rw[if_neg,Fy a]
 rw[Bool.not_eq_true,QF]
 exact⟨.gd (.floor z),Of _ (.head _),NY⟩
theorem FF:∀m,gw (List.replicate m .si)=.error 1:=λm=>by
 unfold gw
 rw[if_pos]
 rw[Oa]
 intro k a
 rw[(List.mem_replicate.mp a).2];rfl
theorem CL {a:List (List Str)}(h:Ka W k)(e:gv a=gw (vF m W)):pW a k 0:=by
 cases h with
 |mk z X eW hr hd hX hl=>
  subst eW
  rw[Ac hX] at e
  exact .ok z X k e hr hd
section
variable {α β:Type} {T:α->β->Prop}
theorem mq {xs:List α}{ys:List β}(h:Paired T xs ys):∀n,Paired T (xs.take n) (ys.take n):=by
 induction h with
 |nil=>intro n;simp;exact .nil
 |cons r t ih=>
  intro n
  cases n with
  |zero=>exact .nil
  |succ n=>exact .cons r (ih n)
theorem wu {xs:List α}{ys:List β}(h:Paired T xs ys):∀n,Paired T (xs.drop n) (ys.drop n):=by
 induction h with
 |nil=>intro n;simp;exact .nil
 |cons r t ih=>
  intro n
  cases n with
  |zero=>exact .cons r t
  |succ n=>exact ih n
end
theorem vk(y z:List Nat)(e:cp x=y++59::z)(h:(decide (wf y=[])&&(y.all (λd=>decide (d<128)&&(decide (d≠59)&&decide (d≠10)))&&(z.all (λd=>decide (d<128)&&decide (d≠10))&&decide ((y++59::z).length<=100))))=true):gu x .si:=by
 simp only[N8,Oa,decide_eq_true_eq] at h
 obtain⟨h1,h2,b,c⟩:=h
 exact⟨[],sX.tail e h1 (λd a=>h2 d a) (λd a=>(b d a).symm) (by rw[e];exact c),rfl⟩
theorem qR(h:(KN (cp x)&&decide (wf (cp x)=[]))=true):gu x .si:=by
 rw[N8,decide_eq_true_iff] at h
 have:=j9 h.1
 rwa [h.2] at this
noncomputable def Mw:List Str:=[Str.ofString "",Str.ofString "; net a",Str.ofString "  "]
noncomputable def Mv:List Str:=[Str.ofString "",Str.ofString " ;",Str.ofString "; floor 1 1 1",Str.ofString "  "]
theorem MF:Paired gu Mw (List.replicate 3 .si):=.cons (qR (by decide+kernel)) (.cons (vk [] [32,110,101,116,32,97] (by decide+kernel) (by decide+kernel)) (.cons (qR (by decide+kernel)) .nil))
theorem MI:Paired gu Mv (List.replicate 4 .si):=.cons (qR (by decide+kernel)) (.cons (vk [32] [] (by decide+kernel) (by decide+kernel)) (.cons (vk [] [32,102,108,111,111,114,32,49,32,49,32,49] (by decide+kernel) (by decide+kernel)) (.cons (qR (by decide+kernel)) .nil)))
noncomputable def jj (i j:Nat):List Nat:=(if i=0 then [] else [i])++(if j=i\/j=0 then [] else [j])
theorem Lh:∀i,i<8->∀j,j<8->(jj i j).Nodup/\(jj i j).length<=2/\∀x∈jj i j,1<=x/\x<=7:=by decide+kernel
theorem kY:x∈jj i j↔x≠0/\(x=i\/x=j):=by
 unfold jj
 rw[Ot]
 constructor
 ·rintro(h|h)
  ·split at h
   ·cases h
   ·cases NR.mp h;lia
  ·split at h
   ·cases h
   ·cases NR.mp h;lia
 ·rintro⟨b,h⟩
  by_cases e:x=i
  ·subst e;rw[if_neg b];exact .inl (.head _)
  ·have a:x=j:=by lia
   subst a;rw[if_neg (show¬(x=i\/x=0) by lia)];exact .inr (.head _)
def flt (l:List Nat):List Nat:=l.filter λk=>decide (0<k)
theorem Hq(hi:i<8)(g:j<8)(e:M∈flt [i,j]++[8])(d:∀a∈flt [i,j]++[8],M<=a):K8 (jj i j) (M%8):=by
 have b:∀x,x≠0->(x=i\/x=j)->M<=x:=λx f h=>d x (Ou _ (Pd.mpr ⟨by simpa using h,by simpa using Nat.pos_of_ne_zero f⟩))
 rcases Ot.mp e with h|h
 ·obtain⟨h1,h2⟩:=Pd.mp h
  have h1:M=i\/M=j:=by simpa using h1
  have h2:0<M:=by simpa using h2
  rw[Nat.mod_eq_of_lt (by lia)]
  exact .mk M (kY.mpr ⟨by lia,h1⟩) λx c=>b x (kY.mp c).1 (kY.mp c).2
 ·cases NR.mp h
  refine .no (List.eq_nil_iff_forall_not_mem.mpr λx c=>?_)
  have:=b x (kY.mp c).1 (kY.mp c).2
  have:=(kY.mp c).2
  lia
section
variable {R C bs sd i j:Nat} {s t:PS}
theorem La (o:Op R C bs sd 0 s t):t=s:=by
 cases o with
 |no _=>rfl
 |row _ _ r h3 hr=>omega
theorem Jc (h:Iv R C bs sd [] s)(o:Op R C bs sd i s t):Iv R C bs sd (if i=0 then [] else [i]) t:=by
 by_cases e:i=0
 ·subst e;rw[if_pos rfl,La o];exact h
 ·rw[if_neg e];exact h.step o (λh=>nomatch h) e
theorem Il (h:Iv R C bs sd (if i=0 then [] else [i]) s)(o:Op R C bs sd j s t)(n:j≠i):Iv R C bs sd (jj i j) t:=by
 unfold jj
 by_cases e:j=0
 ·subst e;rw[if_pos (show 0=i\/0=0 from .inr rfl),La o,Os];exact h
 ·rw[if_neg (show¬(j=i\/j=0) by lia)]
  refine h.step o (λm=>?_) e
  split at m
  ·cases m
  ·exact n (NR.mp m)
theorem DS (h:Iv R C bs sd (if i=0 then [] else [i]) s)(n:j=i):Iv R C bs sd (jj i j) s:=by
 unfold jj
 rw[if_pos (show j=i\/j=0 from .inl n),Os];exact h
end
theorem xZ(vs:List V)(h:lH tl σ H vs)(b:vs.length<=1000)(q:∀p H',au H H'->H p=none->H' p=some (.lst vs)->Q (.ref p) H'):mU tl σ H Q:=h _ ⟨by have:sizeLine=2^24:=rfl;lia,λp a=>q p _ ((au.refl H).upd a) a ah⟩
theorem jV(vs:List V)(h:lH tl σ H vs)(b:vs.length<=1000)(q:∀p H',au H H'->H p=none->H' p=some (.tup vs)->Q (.ref p) H'):vK tl σ H Q:=h _ ⟨by have:sizeLine=2^24:=rfl;lia,λp a=>q p _ ((au.refl H).upd a) a ah⟩
theorem jQ(h1:H l=some (.lst xs))(c:H b=some (.lst zs))(d:xs.length+zs.length<=1000)(q:∀p H',au H H'->H p=none->H' p=some (.lst (xs++zs))->Q (.ref p) H'):zD (.ref l) (.ref b) H Q:=⟨l,b,xs,zs,rfl,rfl,h1,c,(by have:sizeLine=2^24:=rfl;lia),λp a=>q p _ ((au.refl H).upd a) a ah⟩
theorem Cw(n:H l=none)(s:au H H1)(b:Sb l H1 H2):au H H2:=λx o e=>b x o (tS e n) (s _ _ e)
theorem sR(ys:List Str)(d:lH ta σ H vs)(e:vs=ys.map V.str)(b:ys.length<=1000)(hi:∀H',au H H'->Ev te σ H' (.int (k:Nat)))(c:k<=ys.length)(q:∀p H',au H H'->H p=none->H' p=some (.lst ((ys.take k).map V.str))->Q (.ref p) H'):FH (qt K) (mU ta) gz (jv te) σ H Q:=
 HV (iR ys d e b λp H1 s1 _ h1=>bB (hi H1 s1) ⟨_,rfl,p,_,rfl,bf.of h1,λp2 a=>q p2 _ (s1.upd a) (mV s1 a) (by rw[ah,Bv _ k (by rw[NG];exact c),List.map_take])⟩)
inductive K6 (H:Hp) (R C bs sd n i j:Nat) (sz cl pg w:Addr):St->Hp->Prop
 |mk (H':Hp) (s:PS) (_:au H H') (_:H' w=some (.lst [.int (i:Nat),.int (j:Nat)])) (_:oE H' pg (PS.rows bs sd n s)) (_:Iv R C bs sd (jj i j) s):K6 H R C bs sd n i j sz cl pg w [some (.ref sz),some (.ref cl),some (.ref pg),some (.ref w),none] H'
theorem A8 {K:NJ}{i j:TE}{σ:St}{H:Hp}{m l:Addr}{g h ix a b:Nat}{xa xb:List Str}{x:Str}{Q:VK}(w:σ[g]?=some (some (.ref m)))(vb:σ[h]?=some (some (.ref l)))(B:σ[ix]?=some (some (.str x)))(C:H m=some (.lst (xa.map V.str)))(u:H l=some (.lst (xb.map V.str)))(hi:∀H',Ev i σ H' (.int (a:Nat)))(r:∀H',Ev j σ H' (.int (b:Nat)))(n:a<=xa.length)(v:b<=xb.length)(F:xa.length<=100)(G:xb.length<=100)(q:∀p H',au H H'->H' p=some (.lst ((xa.take a++x::xb.drop b).map V.str))->Q (.ref p) H'):
  gb zD (gb zD (FH (qt K) (cV g) gz (jv i)) (mU (b9 (cV ix) dv))) (FH (qt K) (cV h) (jv j) gz) σ H Q:=by
 refine dH (dH (DP (aa w) (hi H) (bf.of C) λd y=>?_))
 rw[Bv _ a (by rw[NG];exact n)]
 have s1:au H (upd H d (.lst ((xa.map V.str).take a))):=(au.refl H).upd y
 have h1:upd H d (.lst ((xa.map V.str).take a)) d=some (.lst ((xa.map V.str).take a)):=ah
 revert s1 h1
 generalize upd H d _=H1
 intro s1 h1
 refine iR [x] (ag (aa B) az) rfl (by show 1<=1000;decide) λp2 H2 s2 M h2=>jQ (s2 _ _ h1) h2 (by rw[N_,NG];show _+1<=1000;lia) λI H3 s3 N z=>Dj (aa vb) (r H3) (bf.of ((s1.trans (s2.trans s3)) _ _ u)) λe s=>?_
 rw[Do _ b (by rw[NG];exact v)]
 have c:au H3 (upd H3 e (.lst ((xb.map V.str).drop b))):=(au.refl H3).upd s
 have f:upd H3 e (.lst ((xb.map V.str).drop b)) e=some (.lst ((xb.map V.str).drop b)):=ah
 revert c f
 generalize upd H3 e _=J
 intro c f
 refine jQ (c _ _ z) f (by rw[NM,N_,OC,NG,NG,NG];show _+1+_<=1000;lia) λo H5 D E A=>q o H5 (s1.trans (s2.trans (s3.trans (c.trans D)))) ?_
 rw[A,NW,List.map_take,show(x::xb.drop b).map V.str=V.str x::(xb.map V.str).drop b by rw[NQ,List.map_drop],Pq];rfl
inductive M3 (H0:Hp) (l cl:Addr) (m:Nat) (ks:List Rk) (i:Nat):St->Hp->Prop
 |mk (rw:Addr) (due:Nat) (x5 x6 x7:Option V) (H':Hp) (ls:List Rk) (_:au H0 H') (_:D_ H' rw ls) (_:ls.length=ks.length+i) (_:(i=0/\ls=ks)\/(∃a k rest,due=a+1/\a<=ks.length/\Bk m a k/\ls=ks.take a++k::rest)):M3 H0 l cl m ks i [some (.ref l),some (.int (m:Nat)),some (.ref cl),some (.ref rw),some (.int (due:Nat)),x5,x6,x7] H'
inductive M7 (H0:Hp) (m n:Nat) (f:Option V->Option V->St):St->Hp->Prop
 |mk (a:Nat) (x:Str) (k:Rk) (H':Hp) (_:au H0 H') (_:a<=n) (_:gu x k) (_:Bk m a k):M7 H0 m n f (f (some (.int (a:Nat))) (some (.str x))) H'
theorem IL:gu (Str.ofString "floor 2 6 6") (.gd (.floor (2,6,6))):=by
 have h:=j9 (x:=Str.ofString "floor 2 6 6") (by decide+kernel)
 rwa [show iH (wf (cp (Str.ofString "floor 2 6 6")))=.gd (.floor (2,6,6)) by with_unfolding_all rfl] at h
theorem Jq:gu (Str.ofString "layer 1 1") (.gd (.layer 1 1)):=by
 have h:=j9 (x:=Str.ofString "layer 1 1") (by decide+kernel)
 rwa [show iH (wf (cp (Str.ofString "layer 1 1")))=.gd (.layer 1 1) by with_unfolding_all rfl] at h
inductive BP (ks:List Rk):Nat->Nat->Prop
 |row (n:Nat) (_:gw ks=.error n):BP ks 8 n
 |ok (m k:Nat) (W:List Rw) (_:ks=vF m W) (_:Ka W k):BP ks k 0
theorem HN {b:List (List Str)}{a:List Rk}(h:BP a k n)(e:gv b=gw a):pW b k n:=by
 cases h with
 |row n h=>exact .row n (e.trans h)
 |ok m k W ek gd=>subst ek;exact CL gd e
theorem Ki {a:List Rk}(h:BP a k n):k<=8:=by
 cases h with
 |row n h=>exact NI 8
 |ok m k W ek gd=>
  cases gd with
  |mk z X _ _ d=>have:=d.le;lia
theorem FN:∀k,k<=8->decide (k≠0)=!decide (kN k=Str.ofString "read"):=by decide+kernel
theorem LV:∀k,k<=8->PyData.strOk (kN k)=true:=by decide+kernel
theorem Fk{a:List Rk}(h:Paired gu xs a):∀x∈xs,x.length<=1000:=by
 induction h with
 |nil=>intro x hx;cases hx
 |cons r _ ih=>
  intro x hx
  rcases NK.mp hx with rfl|hx
  ·obtain⟨_,b,_⟩:=r
   exact b.len
  ·exact ih x hx
theorem ES (xs:List Str):Txt.join (Str.ofString "\n") xs=ss (jl 10 (xs.map cp)):=nM (by rw[show Str.ofString "\n" =⟨#[10]⟩ by decide+kernel,rP])
theorem Kt(q:Q (.bl (a !=b)) H):KB (.bl a) (.bl b) H Q:=(I0 (σ:=[]) (ta:=tC (.bl a)) (tb:=tC (.bl b)) aq aq) Q q
inductive JC (H0:Hp) (a c D sa:Addr) (kk:Int) (x9:Option V):St->Hp->Prop
 |mk (H':Hp) (lp dd:Addr) (x6 x8:Option V) (k n:Nat) (ks:List Rk) (_:au H0 H') (_:D_ H' lp ks) (_:H' dd=some (.tup [.str (kN k),.int (n:Nat)])) (_:ks.length<=40) (_:BP ks k n):JC H0 a c D sa kk x9 [some (.ref a),some (.ref c),some (.int kk),some (.ref D),some (.ref sa),some (.ref lp),x6,some (.ref dd),x8,x9] H'
theorem nV(a:k<=8)(h:H t=some (.tup [.str (kN k),.int (n:Nat)])):Dp K H (.ref t) (.tuple [.str (kN k),.int (n:Nat)]):=.tup (bY.of h) (.cons (.str _ (LV k a)) (.cons (.int _) .nil))
theorem Ii {a:List Tg}(h:ps.length=a.length)(nt:¬Ao a):((FZ a ps).map (·.1)).Nodup:=by
 unfold FZ
 rw[Ol]
 have e:((a.zip ps).map ((λkv:dq×V=>kv.1)∘λb:Tg×Addr=>((.inr b.1.nm:dq),V.ref b.2)))=a.map λg=>(.inr g.nm:dq):=by
  have f:((λkv:dq×V=>kv.1)∘λb:Tg×Addr=>((.inr b.1.nm:dq),V.ref b.2))=(λg:Tg=>(.inr g.nm:dq))∘Prod.fst:=rfl
  rw[f,<-Ol,List.map_fst_zip (by lia)]
 rw[e]
 refine List.pairwise_iff_getElem.mpr λi j hi d c=>?_
 rw[List.getElem_map,List.getElem_map]
 rw[NG] at hi d
 intro z
 exact nt ⟨i,j,a[i],a[j],c,Ox hi,Ox d,Sum.inr.inj z⟩
variable {cThing cNet cBundle cFloor cBoard cWireError cBadSize cBadPrice cOutOfFloor cBadThing cTwice cNoFit cCrowded cBadRow cMS:Addr} (T:Txt K mg cThing cNet cBundle cFloor cBoard cWireError cBadSize cBadPrice cOutOfFloor cBadThing cTwice cNoFit cCrowded cBadRow cMS)
include T
theorem E3:fK P w K mg base 1 "_law_cell_at" Hf ["script", "k"] (AV K):=by
 refine rd ["script", "k"] λm _ _ _ _ _ H vs Q E l h=>?_
 obtain⟨a,ns,i,rfl,d,f,q⟩:=h
 refine⟨_,(aY (cL (bP tX (aw 1) (dn bS T.len_ (aE (aw 0)))) (aN (aR aH (aw 0) (aw 1)))) (aN ae)),?_⟩
 dsimp only[fo]
 refine gi (aA (aP (aa rfl) (dB (ag (aa rfl) az) λQ' c=>⟨_,_,rfl,by first|exact .inl ⟨_,by assumption,rfl⟩|exact .inl ⟨_,bf.of (by assumption),rfl⟩|exact .inr ⟨_,by assumption,rfl⟩|exact .inr ⟨_,bY.of (by assumption),rfl⟩,c⟩))) (λe=>?_) (λ_=>?_)
 ·have b:i<((ns.map V.int).length:Int):=of_decide_eq_true e
  rw[NG] at b
  obtain⟨j,rfl⟩:=OO f
  have g:j<ns.length:=by omega
  exact dF (dG (v:=.int ns[j]) (aa rfl) (aa rfl) d (eg (by simp[g]))) (q _)
 ·exact q 0
theorem CV:fK P w K mg base 1 "number_in" BQ ["word"] mv:=by
 refine rd ["word"] λF _ _ _ _ _ H vs Q E I h=>?_
 obtain⟨w,rfl,p,q⟩:=h
 refine⟨_,(aj (cL (fR (eG (eK dJ dJ ae (dn bS T.len_ (aE (aw 0))) (b_ (by rfl) (by exact T.g_MOST_FIGURES)))) (eU (gG (dn (nv rfl) T.any_ (aE (gU ["sign"] [] [] (AE (aw 0)) (dU 0) cM (mD j8 (aw 0) (b_ (by rfl) (by exact T.g_FIGURES)) (by with_unfolding_all rfl)))))))).pt (aN cy)) (aY (cL (Cz (bP cw (aR DC (aw 0) ae) ar) (wm (bP wq (dn bS T.len_ (aE (aw 0))) ae))).pt (aN cy)) (aN (dW zR T.int_ (aE (aw 0)))))),?_⟩
 dsimp only[fo]
 have f:=p.sz
 refine qy ?_
 by_cases hl:1<=w.length/\w.length<=18
 ·refine JW (fj (aA (cW aq (mf (aa rfl) f) aq))) (by simp;omega) ?_
  refine⟨_,rfl,w,rfl,p.as,λD B=>?_⟩
  refine Df (λi r H'=>∃n,r=[n]/\H'=upd H D (.lst ((((cp w).map λc=>!decide (c∈ku)).take i).map V.bl))) ⟨none,rfl,rfl⟩ ?_ ?_
  ·rintro i c r H' e ⟨n,rfl,rfl⟩
   refine gn (gA ?_)
   refine F9 (b:=!decide (c∈ku)) (by rw[DJ]) (pP (aa rfl) aq) _ ?_
   refine⟨_,ah,?_,_,rfl,?_⟩
   ·rw[NG,N_]
    exact Qo (Nat.min_le_right _ _) (by rw[NG,dS];exact f7 p.ln)
   ·rw[eo,Pa,Od,e,NW];rfl
  ·rintro r H' ⟨n,rfl,rfl⟩
   have x:((cp w).map λc=>!decide (c∈ku)).take w.length=(cp w).map λc=>!decide (c∈ku):=O3 (by rw[NG,dS];exact NI _)
   rw[x]
   have s1:au H (upd H D (.lst (((cp w).map λc=>!decide (c∈ku)).map V.bl))):=(au.refl H).upd B
   refine⟨D,_,rfl,bf.of ah,_,rfl,?_⟩
   have v:(((cp w).map λc=>!decide (c∈ku)).any id)=decide (∃c∈cp w,¬(48<=c/\c<=57)):=by
    rw[PB,Qc,decide_eq_true_iff]
    constructor
    ·rintro⟨b,l,m⟩
     obtain⟨c,e,rfl⟩:=N0.mp l
     exact⟨c,e,λz=>by rw[id,decide_eq_true (pj.mpr z)] at m;cases m⟩
    ·rintro⟨c,e,o⟩
     exact⟨_,N0.mpr ⟨c,e,rfl⟩,by rw[id,decide_eq_false λz=>o (pj.mp z)];rfl⟩
   rw[v]
   have d:(cp w).length=w.length:=dS w
   rcases q with ⟨g,q⟩|⟨b,q⟩
   ·obtain⟨u,C,s,A⟩:=g
    rw[decide_eq_false λ⟨c,e,o⟩=>o (s c e)]
    refine iC ?_
    refine kM (vN (aA (lD (vL (c:=(cp w)[0]'(by omega)) (aa rfl) aq f (eg (j:=0) (by simp))) aq)) λ_=>aA (aP (mf (aa rfl) f) aq)) ?_ ?_
    ·by_cases h0:(cp w)[0]?=some 48
     ·have:=A h0
      simp;intro _;omega
     ·have:¬(⟨#[(cp w)[0]'(by omega)]⟩:Str)=Str.ofString "0" :=λz=>by
       have a:Str.ofString "0" =⟨#[48]⟩:=by decide+kernel
       rw[a] at z
       injection z with z
       have z:=congrArg Array.toList z
       simp only[List.cons.injEq,and_true] at z
       exact h0 (by rw[Ox (by omega),z])
      rw[decide_eq_false this,Pz]
    ·refine⟨_,rfl,w,_,rfl,intText_digits s (λz=>by have G:(cp w).length=0:=congrArg List.length z;omega) (by omega),by omega,q _ s1⟩
   ·by_cases l:∃c∈cp w,¬(48<=c/\c<=57)
    ·rw[decide_eq_true l]
     exact gZ (q _ s1)
    ·rw[decide_eq_false l]
     refine iC ?_
     have y:(cp w)[0]?=some 48/\1<(cp w).length:=by
      rcases b with b|b|b|b
      ·omega
      ·omega
      ·exact absurd b l
      ·exact b
     have a:Str.ofString "0" =⟨#[48]⟩:=by decide+kernel
     refine cI (vN (aA (lD (vL (c:=48) (aa rfl) aq f (eg (j:=0) y.1)) aq)) λ_=>aA (aP (mf (aa rfl) f) aq)) (λ_=>q _ s1) (λz=>?_)
     rw[a] at z
     simp at z
     omega
 ·have l:qx (cp w):=by
   unfold qx
   rw[dS]
   omega
  have d:(cp w).length=w.length:=dS w
  refine fj (aA (cW aq (mf (aa rfl) f) aq)) _ ?_
  rw[show(!(decide ((1:Int)<=(w.length:Nat))&&decide (((w.length:Nat):Int)<=18)))=true by
   rw[Pp,Bool.and_eq_false_iff,decide_eq_false_iff_not,decide_eq_false_iff_not]
   omega,if_pos rfl]
  refine gZ ?_
  rcases q with ⟨g,q⟩|⟨b,q⟩
  ·obtain⟨u,C,_⟩:=g
   omega
  ·exact q _ (au.refl H)
set_option tactic.hygienic true in
theorem zG (m:aG P w K mg base "number_in" 1 ["word"] mv):fK P w K mg base 2 "spot_in" ye ["word"] rQ:=by
 refine rd ["word", "numbers"] λI _ _ _ _ _ H vs Q E M h=>?_
 obtain⟨w,rfl,y,q⟩:=h
 refine⟨_,(aj (s_ 1 ["part"] [] [] I (bw (bI Qu PySem.F.slot_str_split PySem.F.type_str_split nR (aw 0) (aE ar))) (dU 0) cM (bt (by exact m) (by exact M) (aE (aw 0)))) (aY (cL (fR (bP iq (dn bS T.len_ (aE (aw 1))) ae) (eU (j_ p9 cy (aw 1) (by with_unfolding_all rfl)))).pt (aN cy)) (aN (dW eM T.tuple_ (aE (aw 1)))))),?_⟩
 dsimp only[fo]
 have i:sizeLine=2^24:=rfl
 have d:(ss w).length<=100:=by rw[<-dS,cU];exact y.2
 have ep:Txt.split (ss w) (Str.ofString ".")=(gS 46 w).map ss:=by
  refine mW ?_
  rw[Nr,rY,cU,Ol]
  exact(List.map_id'' (λz=>cU z) _).symm
 refine⟨_,rfl,rfl,_,_,rfl,rfl,(by decide+kernel),(by lia),λl A=>⟨l,rfl,⟨_,bf.of ah⟩,λD r=>?_⟩⟩
 rw[ep] at r|-
 have o:au H (upd H l (.lst (((gS 46 w).map ss).map V.str))):=(au.refl H).upd A
 have u:upd H l (.lst (((gS 46 w).map ss).map V.str)) l=some (.lst ((gS 46 w).map sv)):=by rw[ah,Ol];rfl
 revert o u r
 generalize upd H l _=O
 intro r o u
 have j:=ym 46 w
 have f:=y.2
 refine rA (K:=K) (gS 46 w) sv (λ_ v z=>v=F5 (iN z)) (λh _ _=>h) u r (by lia) (λz B H' _ _ Qv C=>bF (ag (aa rfl) az) (Dk (Ih y B) λH2 s2=>C _ H2 s2 rfl)) λvs H' s1 p N=>?_
 cases B6 N
 have s:=tH w
 refine st ?_
 refine cI (iO (aA (kL (dB (ag (aa rfl) az) λQ' x=>⟨_,_,rfl,.inl ⟨_,bf.of p,rfl⟩,x⟩) aq)) λ_=>aA λQ' x=>⟨_,rfl,D,_,rfl,.inl (bf.of p),rfl,tZ _ _,x⟩) (λe=>?_) λe=>?_
 ·refine q _ H' (o.trans s1) ?_
  rw[s]
  rw[qM,NG] at e
  split
  ·next a b c n=>
   have:=iJ n
   rw[n,<-this] at e
   simp at e
  ·rfl
 ·rw[qM,NG,QB] at e
  obtain⟨J,n⟩:=e
  cases e3:fu iN (gS 46 w) with
  |none=>rw[e3] at n;cases n
  |some ns=>
   have g:=iJ e3
   have G:ns.length=3:=by simp at J;lia
   obtain⟨a,b,c,rfl⟩:=MV G
   rw[qL e3] at p
   rw[e3] at s
   refine⟨_,rfl,D,_,rfl,.inl ⟨bf.of p,λt nt=>?_⟩⟩
   refine q _ _ ((o.trans s1).upd nt) ?_
   rw[s]
   exact⟨(λz=>nomatch z),t,rfl,ah⟩
theorem uX (d:aG P w K mg base "number_in" 1 ["word"] mv):fK P w K mg base 2 "numbers_told" tW ["words", "many"] (gW K):=by
 refine rd ["words", "many", "numbers"] λr _ _ _ _ _ H vs Q E o h=>?_
 obtain⟨l,f,k,rfl,j,m,q⟩:=h
 refine⟨_,(aY (s_ 2 ["word"] [] [] r (bw (aw 0)) (dU 0) cM (bt (by exact d) (by exact o) (aE (aw 0)))) (aN (gh (fR (bP iq (dn bS T.len_ (aE (aw 2))) (aw 1)) (eU (j_ p9 cy (aw 2) (by with_unfolding_all rfl)))).pt cy (dW eM T.tuple_ (aE (aw 2)))))),?_⟩
 dsimp only[fo]
 have b:sizeLine=2^24:=rfl
 have a:=m.2
 refine⟨_,rfl,l,rfl,⟨_,bf.of j⟩,λD s=>?_⟩
 refine rA (K:=K) f sv (λ_ v z=>v=F5 (iN z)) (λh _ _=>h) j s (by lia) (λz p H' _ _ Qv n=>bF (ag (aa rfl) az) (Dk (m.1 z p) λH2 s2=>n _ H2 s2 rfl)) λvs H' s1 g u=>?_
 cases B6 u
 refine st ?_
 refine eX (iD (fO (c:=(dC f k).isNone) (iO (aA (kL (dB (ag (aa rfl) az) λQ' i=>⟨_,_,rfl,.inl ⟨_,bf.of g,rfl⟩,i⟩) (aa rfl))) (λ_=>aA λQ' i=>⟨_,rfl,D,_,rfl,.inl (bf.of g),rfl,tZ _ _,i⟩)) ?_) ?_)
 ·rw[qM,NG]
  unfold dC
  by_cases hk:f.length=k
  ·simp[hk]
  ·rw[if_neg hk,decide_eq_false (by lia)];rfl
 cases e:dC f k with
 |none=>exact gZ (q _ _ s1 (by rw[e];rfl))
 |some ns=>
  refine iC ?_
  have x:fu iN f=some ns:=by
   unfold dC at e
   split at e
   ·exact e
   ·cases e
  rw[qL x] at g
  refine⟨_,rfl,D,_,rfl,.inl ⟨bf.of g,λt nt=>?_⟩⟩
  refine q _ _ (s1.upd nt) ?_
  rw[e]
  exact⟨(λz=>nomatch z),t,rfl,ah⟩
theorem zU (c:aG P w K mg base "spot_in" 2 ["word"] rQ):fK P w K mg base 3 "spots_told" wN ["words"] (jW K):=by
 refine rd ["words", "spots"] λA _ _ _ _ _ H vs Q E n h=>?_
 obtain⟨l,j,rfl,g,o,q⟩:=h
 refine⟨_,(aY (s_ 1 ["word"] [] [] A (bw (aw 0)) (dU 0) cM (bt (by exact c) (by exact n) (aE (aw 0)))) (aN (gh (j_ (HI n) cy (aw 1) (by with_unfolding_all rfl)) cy (aw 1)))),?_⟩
 dsimp only[fo]
 have b:sizeLine=2^24:=rfl
 have a:=o.2
 refine⟨_,rfl,l,rfl,⟨_,bf.of g⟩,λD u=>?_⟩
 refine rA (K:=K) j sv (λH v w=>EJ (LY H) v (dN w)) (fun{H H' v w} h s G=>?_) g u (by omega) (λp f H' _ _ Qv B=>bF (ag (aa rfl) az) ⟨p,rfl,o.1 p f,λv H2 s2 d=>B _ H2 s2 d⟩) λvs H' s1 m x=>?_
 ·cases e:dN w with
  |none=>rw[e] at h;exact h
  |some p=>rw[e] at h;obtain⟨C,t,rfl,d⟩:=h;exact⟨C,t,rfl,CT d s G⟩
 obtain⟨h1,h2⟩:=IC x
 refine st ?_
 refine eX (iD (aA λQ' F=>⟨_,rfl,D,_,rfl,rfl,bf.of m,λz y=>?_,F⟩) ?_)
 ·obtain⟨i,hi⟩:=List.getElem?_of_mem y
  obtain⟨w,_,r⟩:=bK x hi
  cases e:dN w with
  |none=>rw[e] at r;rw[show z=.non from r];trivial
  |some p=>rw[e] at r;obtain⟨_,t,rfl,d⟩:=r;exact⟨_,bY.of d⟩
 rw[h1]
 cases e:fu dN j with
 |none=>
  refine gZ (q _ _ s1 ?_)
  rw[e];rfl
 |some ps=>
  refine iC ?_
  obtain⟨as,rfl,d⟩:=h2 ps e
  refine(aa rfl:Ev (cV 1) _ _ _) _ (q _ H' s1 ?_)
  rw[e]
  exact⟨(λz=>nomatch z),D,rfl,u,as,m,d⟩
theorem uB (j:aG P w K mg base "spots_told" 3 ["words"] (jW K)):fK P w K mg base 4 "corners_told" tP ["words"] kK:=by
 refine rd ["words", "spots"] λy _ _ _ _ _ H vs Q E F h=>?_
 obtain⟨l,s,rfl,x,G,q⟩:=h
 refine⟨_,(aj (aX 1 y (bt j F (aE (aw 0)))) (aY (cL (fR (bP gq (aw 1) cy) (eU (eG (eK dJ dJ ae (dn bS T.len_ (aE (aw 1))) ae)))).pt (aN cy)) (aN (c9 (aJ (aR aH (aw 1) ae) (aR aH (aw 1) (Kn HH ae))))))),?_⟩
 dsimp only[fo]
 refine cG (bF (ag (aa rfl) az) ⟨l,s,rfl,x,G,λv H1 s1 o=>?_⟩)
 try dsimp only
 refine eJ (σ':=[_,_]) rfl ?_
 unfold lL at q
 cases e:fu dN s with
 |none=>
  rw[e] at o q
  cases(show v=.non from o)
  exact cI (vS (vM (aa rfl))) (λ_=>q _ _ s1 rfl) λz=>nomatch z
 |some ps=>
  rw[e] at o q
  dsimp only at q
  obtain⟨I,p,rfl,J,as,r,m⟩:=o
  have g:=Bp m
  have d:(as.map V.ref).length=ps.length:=by rw[NG,g]
  refine cI (u7 (BM (aa rfl)) (fj (aA (cW aq (jG (K:=K) (aa rfl) r) aq)))) (λe=>?_) λe=>?_
  ·refine q _ _ s1 ?_
   rw[ET λz=>?_]
   ·rfl
   ·rw[d] at e;simp at e;omega
  ·have f:1<=ps.length/\ps.length<=2:=by rw[d] at e;simp at e;omega
   have i:∃a b c,oN (as.map V.ref) 0=some (.ref a)/\oN (as.map V.ref) (-1)=some (.ref b)/\A3 H1 a c.1/\A3 H1 b c.2/\sZ ps=some c:=by
    match ps,m,f with
    |[p1],m,_=>obtain⟨a,rfl,n⟩:=K2 m;exact⟨a,a,(p1,p1),rfl,rfl,n,n,rfl⟩
    |[p1,p2],m,_=>obtain⟨a,b,rfl,n,C⟩:=KR m;exact⟨a,b,(p1,p2),rfl,rfl,n,C,rfl⟩
   obtain⟨a,b,c,D,h1,u,A,B⟩:=i
   refine vB (vs:=[.ref a,.ref b]) (ag (dG (v:=.ref a) (aa rfl) aq (bf.of r) D) (ag (dG (v:=.ref b) (aa rfl) (Mj aq) (bf.of r) h1) az)) (by show 2<=sizeLine;decide) λt nt=>?_
   refine q _ _ (s1.trans ((au.refl H1).upd nt)) ?_
   rw[B]
   exact⟨(λz=>nomatch z),t,a,b,rfl,ah,((au.refl H1).upd nt) _ _ u,((au.refl H1).upd nt) _ _ A⟩
theorem B2 (i:aG P w K mg base "numbers_told" 2 ["words", "many"] (gW K))(j:aG P w K mg base "corners_told" 4 ["words"] kK):fK P w K mg base 5 "toll_told" BL ["words"] w8:=by
 refine rd ["words", "price", "corners"] λv _ _ _ _ _ H vs Q E y h=>?_
 obtain⟨l,m,rfl,u,A,q⟩:=h
 refine⟨_,(aj (aX 1 v (bt i y (aJ (bg bE (aw 0) bX (bq ae)) ae))) (aY (aX 2 v (bt j y (aE (bg bE (aw 0) (bq ae) bX)))) (aN (gh (fR (bP gq (aw 1) cy) (eU (bP gq (aw 2) cy))).pt cy (ao wQ (aw 1) (aw 2)))))),?_⟩
 dsimp only[fo]
 unfold sI at q
 refine cG (fH (eI (gf (m.take 1) (aa rfl) jk lY u (by exact Ea _ 1) λC H1 s1 M=>ip aq ⟨C,m.take 1,1,rfl,M,A.take 1,λR H2 s2 p=>?_⟩)))
 try dsimp only
 refine eJ (σ':=[_,_,_]) rfl ?_
 have f:=s1.trans s2
 refine cG (fH (eI (gf (m.drop 1) (aa rfl) lY jk (f _ _ u) (by exact jf _ 1) λD H3 s3 J=>⟨D,m.drop 1,rfl,J,A.drop 1,λO H4 x o=>?_⟩)))
 try dsimp only
 refine eJ (σ':=[_,_,_]) rfl ?_
 have e:=f.trans (s3.trans x)
 refine eX (iD (iO (kX (aa rfl) p) λ_=>kX (aa rfl) o) ?_)
 cases e1:dC (m.take 1) 1 with
 |none=>rw[e1] at q;exact gZ (q _ _ e rfl)
 |some ns=>
  cases e2:lL (m.drop 1) with
  |none=>
   refine gZ (q _ _ e ?_)
   rw[e1,e2]
   cases ns with
   |nil=>rfl
   |cons n r=>cases r<;>rfl
  |some c=>
   refine iC ?_
   obtain⟨n,rfl⟩:=K5 (eY e1).1
   rw[e1] at p q
   rw[e2] at o q
   obtain⟨_,I,rfl,d⟩:=p
   obtain⟨_,B,a,b,rfl,g,N,G⟩:=o
   have d:=x _ _ (s3 _ _ d)
   refine dH (bB (aa rfl) (bB (aa rfl) ⟨I,B,_,_,rfl,rfl,d,g,by show 1+2<=sizeLine;decide,λt H5 s F=>?_⟩))
   exact q _ _ (e.trans s) ⟨(λz=>nomatch z),t,a,b,rfl,F,s _ _ N,s _ _ G⟩
theorem Ga (f:aG P w K mg base "numbers_told" 2 ["words", "many"] (gW K))(i:aG P w K mg base "spots_told" 3 ["words"] (jW K)):fK P w K mg base 4 "net_told" G5 ["words"] DG:=by
 refine rd ["words", "numbers", "pins"] λs _ _ _ _ _ H vs Q E v h=>?_
 obtain⟨l,j,rfl,m,y,q⟩:=h
 refine⟨_,(aj (aX 1 s (bt f v (aJ (bg bE (aw 0) (bq ae) (bq ae)) ae))) (aY (aX 2 s (bt i v (aE (bg bE (aw 0) (bq ae) bX)))) (aN (gh (fR (bP gq (aw 1) cy) (eU (bP gq (aw 2) cy))).pt cy (c9 (ax (aR aH (aw 0) ae) (ax (aR aZ (aw 1) ae) (aJ (aR aZ (aw 1) ae) (aw 2))))))))),?_⟩
 dsimp only[fo]
 unfold Dz at q
 refine cG (fH (eI (gf ((j.drop 1).take 2) (aa rfl) lY lY m (by exact IA _ 1 3) λA H1 s1 F=>ip aq ⟨A,(j.drop 1).take 2,2,rfl,F,(y.drop 1).take 2,λJ H2 s2 o=>?_⟩)))
 try dsimp only
 refine eJ (σ':=[_,_,_]) rfl ?_
 have c:=s1.trans s2
 refine cG (fH (eI (gf (j.drop 3) (aa rfl) lY jk (c _ _ m) (by exact jf _ 3) λB H3 s3 C=>⟨B,j.drop 3,rfl,C,y.drop 3,λI H4 u n=>?_⟩)))
 try dsimp only
 refine eJ (σ':=[_,_,_]) rfl ?_
 have b:=c.trans (s3.trans u)
 refine eX (iD (iO (kX (aa rfl) o) λ_=>kX (aa rfl) n) ?_)
 cases e1:dC ((j.drop 1).take 2) 2 with
 |none=>rw[e1] at q;exact gZ (q _ _ b rfl)
 |some ns=>
  obtain⟨g,r,rfl⟩:=Ms (eY e1).1
  cases e2:fu dN (j.drop 3) with
  |none=>rw[e1,e2] at q;exact gZ (q _ _ b rfl)
  |some cs=>
   refine iC ?_
   have d:=(eY e1).2
   rw[N_,OC] at d
   rw[e1] at o q
   rw[e2] at n q
   obtain⟨_,G,rfl,a⟩:=o
   obtain⟨_,p,rfl,D,al⟩:=n
   have a:=u _ _ (s3 _ _ a)
   have e:=b _ _ m
   cases j with
   |nil=>simp at d
   |cons x j=>
    refine mK (vs:=[sv x,.int (g:Nat),.int (r:Nat),.ref p]) (ag (dG (aa rfl) aq (bf.of e) Mn) (ag (bC (aa rfl) aq (bY.of a) rfl) (ag (bC (aa rfl) aq (bY.of a) rfl) (ag (aa rfl) az)))) (by show 4<=sizeLine;decide) λt nt=>?_
    exact q _ _ (b.trans ((au.refl H4).upd nt)) ⟨(λz=>nomatch z),t,p,rfl,ah,al.same ((au.refl H4).upd nt),mV (c.trans s3) D⟩
theorem Eg (J:aG P w K mg base "numbers_told" 2 ["words", "many"] (gW K))(G:aG P w K mg base "spots_told" 3 ["words"] (jW K)):fK P w K mg base 4 "bundle_told" G4 ["words"] AS:=by
 refine rd ["words", "room", "place", "starts", "goals"] λS _ _ _ _ _ H vs Q E X h=>?_
 obtain⟨l,I,rfl,N,O,q⟩:=h
 refine⟨_,(aj (aX 1 S (bt J X (aJ (bg bE (aw 0) (bq ae) (bq ae)) ae))) (aj (cL (fR (bP gq (aw 1) cy) (eU (bP iq (bI NX PySem.F.slot_list_count PySem.F.type_list_count y9 (bg bE (aw 0) (bq ae) bX) (aE ar)) ae))).pt (aN cy)) (aj (aX 2 S (ao aV (bI NX PySem.F.slot_list_index PySem.F.type_list_index zu (bg bE (aw 0) (bq ae) bX) (aE ar)) ae)) (aj (aX 3 S (bt G X (aE (bg bE (aw 0) (bq ae) (bq (aw 2)))))) (aY (aX 4 S (bt G X (aE (bg bE (aw 0) (bq (ao aV (aw 2) ae)) bX)))) (aN (gh (fR (bP gq (aw 3) cy) (eU (bP gq (aw 4) cy))).pt cy (c9 (ax (aR aH (aw 0) ae) (ax (aR aZ (aw 1) ae) (aJ (aw 3) (aw 4)))))))))))),?_⟩
 dsimp only[fo]
 have C:sizeLine=2^24:=rfl
 unfold AX at q
 refine cG (fH (eI (gf ((I.drop 1).take 1) (aa rfl) lY lY N (by exact IA _ 1 2) λl1 H1 s1 w1=>ip aq ⟨l1,(I.drop 1).take 1,1,rfl,w1,(O.drop 1).take 1,λv1 H2 s2 T=>?_⟩)))
 try dsimp only
 refine eJ (σ':=[_,_,_,_,_]) rfl ?_
 have f:=s1.trans s2
 cases e1:dC ((I.drop 1).take 1) 1 with
 |none=>
  rw[e1] at T q
  cases(show v1=.non from T)
  exact cI (vS (vM (aa rfl))) (λ_=>q _ _ f rfl) λz=>nomatch z
 |some ns=>
  obtain⟨r,rfl⟩:=K5 (eY e1).1
  have o:=(eY e1).2
  rw[N_,OC] at o
  rw[e1] at T q
  obtain⟨_,t1,rfl,d⟩:=T
  dsimp only at q
  refine qy (JW (BM (aa rfl)) rfl (vy (dH (BJ (gf (I.drop 2) (aa rfl) lY jk (f _ _ N) (by exact jf _ 2) λl2 H3 s3 w3=>⟨.inl ⟨rfl,_,bf.of w3⟩,ip aq ⟨l2,_,_,rfl,rfl,by rw[<-u4];exact w3,bB aq ⟨rfl,_,rfl,?_⟩⟩⟩)))))
  rw[Ju]
  have b:=f.trans s3
  by_cases hc:(I.drop 2).count il=1
  ·rw[if_pos hc] at q
   rw[hc]
   refine iC ?_
   obtain⟨M,n⟩:=GJ hc
   generalize hA:(I.drop 2).takeWhile (· !=il)=A at q M n
   generalize hB:((I.drop 2).dropWhile (· !=il)).drop 1=B at q M
   have v:(I.drop 2).length=A.length+(B.length+1):=by rw[M];simp
   rw[OC] at v
   have D:=O.2
   have e3:(I.drop 2).map sv=((A.map ss)++Str.ofString "to" ::(B.map ss)).map V.str:=by rw[M,u4,NW,NQ,Ay]
   refine cG (dH (BJ (gf (I.drop 2) (aa rfl) lY jk (b _ _ N) (by exact jf _ 2) λl3 H4 s4 w4=>⟨.inl ⟨rfl,_,bf.of w4⟩,ip aq ⟨l3,A.map ss,B.map ss,_,rfl,rfl,by rw[<-e3];exact w4,λhm=>?_,by rw[NG];omega,bB aq ⟨_,_,rfl,rfl,?_⟩⟩⟩)))
   ·obtain⟨w,O,e⟩:=N0.mp hm
    exact n (by rw[<-Bm (e.trans Ay.symm)];exact O)
   rw[NG]
   have m:=b.trans s4
   try dsimp only
   refine eJ (σ':=[_,_,_,_,_]) rfl ?_
   have e4:fT (I.map sv) (some 2) (some ((A.length+2:Nat):Int))=A.map sv:=by
    rw[show(2:Int)=((2:Nat):Int) from rfl,IA,M,Nat.add_sub_cancel,List.take_left]
   have wa:jB A:=⟨λw h=>O.1 w (List.mem_of_mem_drop (i:=2) (by rw[M];exact Ou _ h)),by omega⟩
   have wb:jB B:=⟨λw h=>O.1 w (List.mem_of_mem_drop (i:=2) (by rw[M];exact Of _ (NV _ h))),by omega⟩
   refine cG (fH (eI (gf A (aa rfl) lY (Nz rfl) (m _ _ N) e4 λl4 H5 Z w5=>⟨l4,A,rfl,w5,wa,λv3 H6 s6 Y=>?_⟩)))
   try dsimp only
   refine eJ (σ':=[_,_,_,_,_]) rfl ?_
   have c:=m.trans (Z.trans s6)
   have e5:fT (I.map sv) (some (((A.length+2:Nat):Int)+1)) none=B.map sv:=by
    rw[show((A.length+2:Nat):Int)+1=((2+(A.length+1):Nat):Int) by omega,jf,<-List.drop_drop,M]
    rw[show A++il::B=(A++[il])++B by simp,show A.length+1=(A++[il]).length by simp,List.drop_left]
   refine cG (fH (eI (gf B (aa rfl) (Ny λH=>aP (g:=λi j=> .int (i+j)) (aa rfl) aq) jk (c _ _ N) e5 λl5 H7 R w7=>⟨l5,B,rfl,w7,wb,λv4 H8 W U=>?_⟩)))
   try dsimp only
   refine eJ (σ':=[_,_,_,_,_]) rfl ?_
   have a:=c.trans (R.trans W)
   refine eX (iD (iO (kX (aa rfl) Y) λ_=>kX (aa rfl) U) ?_)
   cases f3:fu dN A with
   |none=>rw[f3] at q;exact gZ (q _ _ a rfl)
   |some cs=>
    cases f4:fu dN B with
    |none=>rw[f3,f4] at q;exact gZ (q _ _ a rfl)
    |some ds=>
     refine iC ?_
     rw[f3] at Y q
     rw[f4] at U q
     obtain⟨_,p,rfl,np,al⟩:=Y
     obtain⟨_,u,rfl,nu,s⟩:=U
     have d:=(s3.trans (s4.trans (Z.trans (s6.trans (R.trans W))))) _ _ d
     have y:=a _ _ N
     cases I with
     |nil=>simp at o
     |cons x I=>
      refine mK (vs:=[sv x,.int (r:Nat),.ref p,.ref u]) (ag (dG (aa rfl) aq (bf.of y) Mn) (ag (bC (aa rfl) aq (bY.of d) rfl) (ag (aa rfl) (ag (aa rfl) az)))) (by show 4<=sizeLine;decide) λt nt=>?_
      exact q _ _ (a.trans ((au.refl H8).upd nt)) ⟨(λz=>nomatch z),t,p,u,rfl,ah,(al.same (R.trans W)).same ((au.refl H8).upd nt),s.same ((au.refl H8).upd nt),mV (m.trans Z) np,mV (c.trans R) nu⟩
  ·rw[if_neg hc] at q
   rw[decide_eq_false λz:V.int ((I.drop 2).count il:Nat)=V.int 1=>hc (by injection z with z;omega)]
   exact gZ (q _ _ b rfl)
theorem Ei (d:aG P w K mg base "numbers_told" 2 ["words", "many"] (gW K))(g:aG P w K mg base "corners_told" 4 ["words"] kK)(n:aG P w K mg base "toll_told" 5 ["words"] w8)(y:aG P w K mg base "net_told" 4 ["words"] DG)(p:aG P w K mg base "bundle_told" 4 ["words"] AS):fK P w K mg base 6 "row_told" GD ["kind", "words"] C5:=by
 refine rd ["kind", "words"] λz _ _ _ _ _ H vs Q E u h=>?_
 obtain⟨l,k,m,rfl,r,x,q⟩:=h
 refine⟨_,(aj (cL (bP cw (aw 0) ar) (aN (bt d u (aJ (aw 1) ae)))) (aj (cL (bP cw (aw 0) ar) (aN (bt d u (aJ (aw 1) ae)))) (aj (cL (bP cw (aw 0) ar) (aN (bt d u (aJ (aw 1) ae)))) (aj (cL (bP cw (aw 0) ar) (aN (bt g u (aE (aw 1))))) (aj (cL (bP cw (aw 0) ar) (aN (bt n u (aE (aw 1))))) (aj (cL (bP cw (aw 0) ar) (aN (bt y u (aE (aw 1))))) (aY (cL (bP cw (aw 0) ar) (aN (bt p u (aE (aw 1))))) (aN cy)))))))),?_⟩
 unfold gK at q
 refine cI (nF (j:=0) (aa rfl)) (λe=>?_) λi=>?_
 ·rw[if_pos (of_decide_eq_true e)] at q
  refine eX (bF (ag (aa rfl) (ag aq az)) ⟨l,m,3,rfl,r,x,λv H' s o=>q _ H' s ?_⟩)
  cases f:dC m 3 with
  |none=>rw[f] at o;exact o
  |some ns=>
   obtain⟨a,b,c,rfl⟩:=MV (eY f).1
   rw[f] at o;exact o
 rw[if_neg (of_decide_eq_false i)] at q
 refine cI (nF (j:=1) (aa rfl)) (λe=>?_) λi=>?_
 ·rw[if_pos (of_decide_eq_true e)] at q
  refine eX (bF (ag (aa rfl) (ag aq az)) ⟨l,m,2,rfl,r,x,λv H' s o=>q _ H' s ?_⟩)
  cases f:dC m 2 with
  |none=>rw[f] at o;exact o
  |some ns=>
   obtain⟨a,b,rfl⟩:=Ms (eY f).1
   rw[f] at o;exact o
 rw[if_neg (of_decide_eq_false i)] at q
 refine cI (nF (j:=2) (aa rfl)) (λe=>?_) λi=>?_
 ·rw[if_pos (of_decide_eq_true e)] at q
  refine eX (bF (ag (aa rfl) (ag aq az)) ⟨l,m,1,rfl,r,x,λv H' s o=>q _ H' s ?_⟩)
  cases f:dC m 1 with
  |none=>rw[f] at o;exact o
  |some ns=>
   obtain⟨a,rfl⟩:=K5 (eY f).1
   rw[f] at o;exact o
 rw[if_neg (of_decide_eq_false i)] at q
 refine cI (nF (j:=3) (aa rfl)) (λe=>?_) λi=>?_
 ·rw[if_pos (of_decide_eq_true e)] at q
  refine eX (bF (ag (aa rfl) az) ⟨l,m,rfl,r,x,λv H' s o=>q _ H' s ?_⟩)
  cases f:lL m with
  |none=>rw[f] at o;exact o
  |some c=>rw[f] at o;exact o
 rw[if_neg (of_decide_eq_false i)] at q
 refine cI (nF (j:=4) (aa rfl)) (λe=>?_) λi=>?_
 ·rw[if_pos (of_decide_eq_true e)] at q;exact eX (bF (ag (aa rfl) az) ⟨l,m,rfl,r,x,q⟩)
 rw[if_neg (of_decide_eq_false i)] at q
 refine cI (nF (j:=5) (aa rfl)) (λe=>?_) λi=>?_
 ·rw[if_pos (of_decide_eq_true e)] at q;exact eX (bF (ag (aa rfl) az) ⟨l,m,rfl,r,x,q⟩)
 rw[if_neg (of_decide_eq_false i)] at q
 refine cI (nF (j:=6) (aa rfl)) (λe=>?_) λi=>?_
 ·rw[if_pos (of_decide_eq_true e)] at q;exact eX (bF (ag (aa rfl) az) ⟨l,m,rfl,r,x,q⟩)
 rw[if_neg (of_decide_eq_false i)] at q
 exact q _ _ (au.refl H) rfl
theorem vW:fK P w K mg base 1 "words_in" tN ["row"] oY:=by
 refine rd ["row"] λR _ _ _ _ _ H vs Q E T h=>?_
 obtain⟨x,ws,rfl,f,q⟩:=h
 refine⟨_,(aO (aN (gU ["piece"] [] [] (bw (bI Qu PySem.F.slot_str_split PySem.F.type_str_split nR (aR aZ (bI Qu PySem.F.slot_str_partition PySem.F.type_str_partition rB (aw 0) (aE ar)) ae) (aE ar))) (dU 0) (nr (bP iq (aw 0) ar)) (aw 0)))),?_⟩
 dsimp only[fo]
 obtain⟨y,z,ex,c,a,G,j,b⟩:=f
 have l:x.length<=100:=by rw[<-dS];exact b
 refine⟨_,rfl,rfl,_,_,rfl,rfl,(by decide+kernel),Py (f7 (by lia)),λP M=>?_⟩
 have O:cp (Txt.partition x (Str.ofString ";")).1=y:=by rw[Ml];exact Et ex a G
 have U:=(PyProof.Rows.fact_partition x (Str.ofString ";")).1
 refine⟨P,_,_,.str (Txt.partition x (Str.ofString ";")).1,rfl,rfl,bY.of ah,rfl,rfl,_,_,rfl,rfl,(by decide+kernel),?_,λS N=>?_⟩
 ·have:=f7 (n:=(Txt.partition x (Str.ofString ";")).1.length+2) (by lia)
  lia
 refine⟨S,rfl,⟨_,bf.of ah⟩,λD m=>?_⟩
 have es:(Txt.split (Txt.partition x (Str.ofString ";")).1 (Str.ofString " ")).map cp=gS 32 y:=by rw[J8,rY,O]
 have s3:=((au.refl H).upd M (o:=.tup [.str (Txt.partition x (Str.ofString ";")).1,.str (Txt.partition x (Str.ofString ";")).2.1,.str (Txt.partition x (Str.ofString ";")).2.2])).upd N (o:=.lst ((Txt.split (Txt.partition x (Str.ofString ";")).1 (Str.ofString " ")).map V.str))
 have A:upd (upd H P (.tup [.str (Txt.partition x (Str.ofString ";")).1,.str (Txt.partition x (Str.ofString ";")).2.1,.str (Txt.partition x (Str.ofString ";")).2.2])) S (.lst ((Txt.split (Txt.partition x (Str.ofString ";")).1 (Str.ofString " ")).map V.str)) S=some (.lst ((Txt.split (Txt.partition x (Str.ofString ";")).1 (Str.ofString " ")).map V.str)):=ah
 have g:(Txt.split (Txt.partition x (Str.ofString ";")).1 (Str.ofString " ")).length<=1000:=by
  have:=PyProof.Rows.split_le (Txt.partition x (Str.ofString ";")).1 (Str.ofString " ")
  lia
 revert m s3 A
 generalize upd (upd H P (.tup [.str (Txt.partition x (Str.ofString ";")).1,.str (Txt.partition x (Str.ofString ";")).2.1,.str (Txt.partition x (Str.ofString ";")).2.2])) S (.lst ((Txt.split (Txt.partition x (Str.ofString ";")).1 (Str.ofString " ")).map V.str))=H3
 intro m s3 A
 generalize Txt.split (Txt.partition x (Str.ofString ";")).1 (Str.ofString " ")=ps at es A g
 refine da (K:=K) (xs:=ps.map V.str) (λi u H'=>∃B,u=[B]/\H'=upd H3 D (.lst (((ps.take i).filter λs=>oP (cp s)).map V.str))) ⟨none,rfl,rfl⟩ (λi u H' _ ⟨_,_,e⟩=>e▸((au.refl H3).upd m).seq (bf.of A)) ?_ ?_
 ·rintro i v u H' r ⟨B,rfl,rfl⟩
  obtain⟨s,C,rfl⟩:∃s,ps[i]?=some s/\V.str s=v:=by
   rw[Od] at r
   cases e:ps[i]? with
   |none=>rw[e] at r;cases r
   |some s=>rw[e] at r;exact⟨s,rfl,Option.some.inj r⟩
  refine gn ?_
  refine(aA (L2.ev_neS (aa rfl) aq)) _ ?_
  refine G7 (λe=>?_) (λe=>?_)
  ·have d:s≠Str.ofString "" :=by simpa using e
   refine⟨_,rfl,_,ah,?_,_,rfl,?_⟩
   ·rw[NG]
    have h1:=Qf (λs=>oP (cp s)) (ps.take i)
    rw[N_] at h1
    exact f7 (by lia)
   ·rw[eo,Pa,C,Qe,NW]
    show _=upd H3 D (.lst (_++(List.filter (λs=>oP (cp s)) [s]).map V.str))
    rw[List.filter_cons_of_pos (p:=λs=>oP (cp s)) (Bu d)];rfl
  ·have I:s=Str.ofString "" :=by simpa using e
   refine⟨_,rfl,?_⟩
   rw[Pa,C,Qe]
   show _=upd H3 D (.lst ((_++List.filter (λs=>oP (cp s)) [s]).map V.str))
   rw[List.filter_cons_of_neg (p:=λs=>oP (cp s)) (by rw[I,EB];exact NY)]
   simp
 ·rintro u H' ⟨B,rfl,rfl⟩
  have J:((ps.take (ps.map V.str).length).filter λs=>oP (cp s))=ws:=by
   rw[NG,Ob]
   refine mW ?_
   rw[<-c]
   unfold wf
   rw[<-es,List.filter_map];rfl
  rw[J]
  exact q D _ (s3.upd m) (s3.free m) ah
theorem yI (U:aG P w K mg base "words_in" 1 ["row"] oY):fK P w K mg base 2 "rows_of" xn ["page"] rL:=by
 refine rd ["page", "rows"] λnd _ _ _ _ _ H vs Q E hr h=>?_
 obtain⟨x,M,rfl,G,J,hx,g,l,q⟩:=h
 refine⟨_,(aY (s_ 1 ["number", "row"] [] [] nd (C_ (by rfl) T.enumerate_ jZ (aE (bI Qu PySem.F.slot_str_split PySem.F.type_str_split nR (aw 0) (aE ar)))) (iW (K:=K) (n:=2) rfl rfl (aI (dU 0) (aI (dU 1) cC)) rfl rfl) cM (c9 (aJ (aw 0) (bt (by exact U) (by exact hr) (aE (aw 1)))))) (aN (gU ["number", "words"] [] [] (bw (aw 1)) (iW (K:=K) (n:=2) rfl rfl (aI (dU 0) (aI (dU 1) cC)) rfl rfl) (nr (bP wq (dn (zr (K:=K) rfl) (by exact T.len_) (aE (aw 1))) ae)) (c9 (aJ (aw 0) (aw 1)))))),?_⟩
 dsimp only[fo]
 have F:Txt.split x (Str.ofString "\n")=M.map (·.2):=by
  refine mW ?_
  rw[nl,sO x 10 (P:=M.map λp=>cp p.2) (by simpa using G) (λp hp=>?_) hx,Ol]
  ·rfl
  ·obtain⟨r,hr,rfl⟩:=N0.mp hp
   obtain⟨y,z,_,_,_,_,B,_⟩:=g r hr
   exact λz=>(B 10 z).1 rfl
 have C:x.length+2<=sizeLine:=by
  rw[dS] at l
  exact NP (Nat.add_le_add_right l 2) (by decide)
 refine MA (λσ H'=>∃(R:Addr) (vs:List V),σ=[some (.str x),some (.ref R)]/\au H H'/\H' R=some (.lst vs)/\fG H' [R] (M.map (·.1)).zipIdx vs) (λRk hR=>?_) ?_
 ·refine⟨_,rfl,rfl,_,_,rfl,rfl,(by decide+kernel),C,λS nS=>?_⟩
  rw[F]
  refine⟨S,rfl,⟨_,bf.of ah⟩,λD Y=>?_⟩
  have s1:=(au.refl H).upd nS (o:=.lst ((M.map (·.2)).map V.str))
  have e1:upd H S (.lst ((M.map (·.2)).map V.str)) S=some (.lst ((M.map (·.2)).map V.str)):=ah
  revert Y s1 e1
  generalize upd H S (.lst ((M.map (·.2)).map V.str))=H1
  intro Y s1 e1
  refine Dl (K:=K) (xs:=(M.map (·.2)).map V.str) (λi X H'=>∃(x0 x1:Option V) (vs:List V),X=[x0,x1]/\au H1 H'/\H' D=some (.lst vs)/\fG H' [D] ((M.map (·.1)).take i).zipIdx vs/\vs.length=i)
   ⟨none,none,[],rfl,(au.refl H1).upd Y,ah,fG.nil _ _,rfl⟩ (λi X H' _ ⟨_,_,_,_,s,_⟩=>s.seq (bf.of e1)) ?_ ?_
  ·rintro i y p X H' hy ⟨x0,x1,vs,rfl,s2,O,Z,A⟩ np
   obtain⟨pr,af,rfl⟩:∃pr,M[i]?=some pr/\V.str pr.2=y:=by
    rw[Od,Od] at hy
    cases e:M[i]? with
    |none=>rw[e] at hy;cases hy
    |some s=>rw[e] at hy;exact⟨s,rfl,Option.some.inj hy⟩
   have hi:i<M.length:=(Ov.mp af).1
   have hW:(M.map (·.1))[i]?=some pr.1:=by rw[Od,af];rfl
   refine⟨p,_,rfl,bY.of ah,rfl,?_⟩
   refine⟨_,_,rfl,gn ?_⟩
   refine⟨_,_,rfl,gn ?_⟩
   refine⟨rfl,gA ?_⟩
   refine⟨_,rfl,_,rfl,pr.2,pr.1,rfl,g pr (Oi af),λwl H6 s6 am aC=>⟨(by show 2<=sizeLine;decide),λtp N=>?_⟩⟩
   have d:au H' H6:=((au.refl H').upd np).trans s6
   have I:wl≠D:=λz=>by
    rw[z] at am
    rw[((au.refl H').upd np) _ _ O] at am;cases am
   have f:tp≠D:=λz=>by rw[z,d _ _ O] at N;cases N
   refine⟨vs,(by rw[ay (N6 f)];exact d _ _ O),f7 (by lia),_,_,vs++[.ref tp],rfl,λb u e=>?_,ah,?_,by simp[A]⟩
   ·have c:b≠D:=aD e Y
    have e6:=d _ _ (s2 b u e)
    rw[ay c,ay (aD e6 N)];exact e6
   ·rw[DN hW]
    exact Z.more O d N aC I rfl
  ·rintro X H' ⟨x0,x1,vs,rfl,s2,O,Z,A⟩
   rw[NG,NG] at Z
   rw[show M.length=(M.map (·.1)).length from(NG _).symm,Ob] at Z
   exact hR _ _ ⟨D,vs,rfl,s1.trans s2,O,Z⟩
 rintro σ H5 ⟨R,vs,rfl,s5,eR,Z⟩
 refine⟨_,rfl,R,rfl,⟨_,bf.of eR⟩,λD Y=>?_⟩
 have m:vs.length=M.length:=by rw[Z.1,List.length_zipIdx,NG]
 refine da (K:=K) (xs:=vs) (λi X H'=>∃(x0 x1:Option V) (W:List V),X=[x0,x1]/\au H5 H'/\H' D=some (.lst W)/\fG H' [D] (iz ((M.map (·.1)).take i)) W/\W.length<=i)
  ⟨none,none,[],rfl,(au.refl H5).upd Y,ah,fG.nil _ _,NI _⟩ (λi X H' _ ⟨_,_,_,_,s,_⟩=>s.seq (bf.of eR)) ?_ ?_
 ·rintro i v X H' hv ⟨x0,x1,W,rfl,s2,O,hu,j⟩
  have hi:i<M.length:=by rw[<-m];exact(Ov.mp hv).1
  have hW:(M.map (·.1))[i]?=some M[i].1:=by simp[hi]
  obtain⟨v',ev,a,b,rfl,ea,eb,hb⟩:=Z.2 i (M[i].1,i) (by rw[List.getElem?_zipIdx,hW];simp)
  rw[hv] at ev
  cases ev
  have c:b≠D:=aD eb Y
  refine⟨a,_,rfl,bY.of (s2 _ _ ea),rfl,?_⟩
  refine⟨_,_,rfl,gn ?_⟩
  refine⟨_,_,rfl,gn ?_⟩
  refine⟨rfl,?_⟩
  refine(aA (aP (dB (ag (aa rfl) az) λQ' q'=>⟨_,_,rfl,.inl ⟨_,bf.of (s2 _ _ eb),rfl⟩,q'⟩) aq)) _ ?_
  refine G7 (λe=>?_) (λe=>?_)
  ·have hp:(0:Int)<(((M[i].1.map V.str).length:Nat):Int):=of_decide_eq_true e
   refine⟨_,rfl,_,rfl,(by show 2<=sizeLine;decide),λtp N=>?_⟩
   have f:tp≠D:=λz=>by rw[z,O] at N;cases N
   refine⟨W,(by rw[ay (N6 f)];exact O),f7 (by lia),_,_,W++[.ref tp],rfl,λb u e=>?_,ah,?_,by simp[j]⟩
   ·have c:b≠D:=aD e Y
    have e6:=s2 b u e
    rw[ay c,ay (aD e6 N)];exact e6
   ·rw[pN hW,if_neg (λz=>by rw[NG] at hp;rw[List.isEmpty_iff.mp z] at hp;simp at hp)]
    exact hu.more O (au.refl _) N (s2 _ _ eb) c rfl
  ·have hp:¬(0:Int)<(((M[i].1.map V.str).length:Nat):Int):=of_decide_eq_false e
   refine⟨_,_,W,rfl,s2,O,?_,by lia⟩
   rw[pN hW,if_pos (List.isEmpty_iff.mpr (QK (by rw[NG] at hp;lia))),Os]
   exact hu
 ·rintro X H' ⟨x0,x1,W,rfl,s2,O,hu,j⟩
  rw[m,show M.length=(M.map (·.1)).length from(NG _).symm,Ob] at hu
  exact q D W H' (s5.trans s2) O hu
theorem Dt(F:Bz K "__init__" "BadRow.__init__" kO f fd):gr P w K mg base 1 f fd ["self", "row"] (mr K):=by
 have b:eP ["self", "row"] ["self", "row"] (aS kO):=⟨rfl,rfl,rfl,by decide+kernel,rfl,by decide+kernel,by decide+kernel⟩
 have e:=b.nd
 refine F.ok b (λvs H Q E h=>by first|(cases h;subst_vars;rfl)|repeat (first|(obtain⟨rfl,_⟩:=h;rfl)|(obtain⟨_,h⟩:=h))) (λd A outer s H vs Q E c h=>?_)
 obtain⟨x,C,f,i,rfl,hi,a,M,R,q⟩:=h
 refine⟨_,(aY (aF (EL (mX (by rfl) T.eWireError.bd) T.eWireError.ba (aJ (aw 0) (eO (fq.cons (dk ar) (fq.cons (dO c (aw 1)) (fq.cons (dk ar) fq.nil))))))) (EU (aw 0) (aw 1) rfl)),?_⟩
 dsimp only[fo]
 have lg:((i:Nat):Int).natAbs.log2<1920:=G0 (Oc hi (by decide))
 refine⟨_,rfl,⟨⟨trivial,⟨_,rfl,rfl,.int _ lg⟩,trivial,trivial⟩,λs=>⟨x,_,C,f,none,rfl,a,M,?_⟩⟩⟩
 exact⟨_,rfl,_,rfl,x,C,f,rfl,a,M,R,q⟩
theorem Cr(F:Bz K "rows_told" "rows_told" lA f fd)(an:mP P w K mg base "BadRow" cBadRow 1 ["self", "row"] (mr K))(aC:aG P w K mg base "rows_of" 2 ["page"] rL)(a1:aG P w K mg base "row_told" 6 ["kind", "words"] C5):gr P w K mg base 7 f fd ["page"] (qI cBadRow):=by
 have sc:eP ["page", "rows", "told", "number", "words", "parts"] ["page"] (aS lA):=⟨rfl,rfl,rfl,by decide+kernel,rfl,by decide+kernel,by decide+kernel⟩
 have nd:=sc.nd
 refine F.ok sc (λvs H Q E h=>by first|(cases h;subst_vars;rfl)|repeat (first|(obtain⟨rfl,_⟩:=h;rfl)|(obtain⟨_,h⟩:=h))) (λb1 A outer s H vs Q E hr h=>?_)
 obtain⟨x,W,rfl,⟨rs,rfl,h1,h2,h3,h4,h5⟩,qe,qo⟩:=h
 refine⟨_,(aj (aX 1 nd (bt aC hr (aE (aw 0)))) (aj (cL (bP cw (dn bS T.len_ (aE (aw 1))) ae) (pL an (hr.mono (by decide)) rfl (by rfl) wO (aE ae))) (aj (aX 2 nd (cf kG)) (aY (fz PassesOwn.leaving rfl (bw (aw 1)) (eF rfl (aI (cq 3 nd) (aI (cq 4 nd) cC))) (aj (aX 5 nd (bt a1 hr (aJ (aR aH (aw 4) ae) (bg bE (aw 4) (bq ae) bX)))) (aY (cL (fR (bP gq (aw 5) cy) (eU (bP iq (AU cw (aR aH (aw 4) ae) ar) (AU cw (dn bS T.len_ (aE (aw 2))) ae)))).pt (pL an (hr.mono (by decide)) rfl (by rfl) wO (aE (aw 3)))) (aF (bI NX N4 N5 aL (aw 2) (aE (c9 (aJ (aR aH (aw 4) ae) (aw 5))))))))) (aN (aw 2)))))),?_⟩
 dsimp only[fo]
 have af:sizeLine=2^24:=rfl
 obtain⟨fI,am,_,_,M,_⟩:=an.ex
 refine cG (bF (ag (aa rfl) az) ⟨x,rs,rfl,h1,h2,h3,h4,h5,λl vs H1 s1 hl hc=>?_⟩)
 try dsimp only
 have S:=xf (rs.map (·.1))
 rw[NG] at S
 have u:∀p∈iz (rs.map (·.1)),jB (p.1.map cp)/\p.1≠[]/\p.2<100:=by
  intro p hp
  obtain⟨a,b,c⟩:=Em hp
  obtain⟨r,hr,e⟩:=N0.mp a
  rw[NG] at c
  exact⟨by rw[<-e];exact Hy (h4 r hr),b,by omega⟩
 refine eJ (σ':=[_,_,_,_,_,_]) rfl ?_
 unfold gv at qe qo
 generalize iz (rs.map (·.1))=ds at hc S u qe qo
 have m:vs.length=ds.length:=hc.1
 refine cI (aA (bM (jG (K:=K) (aa rfl) hl) aq)) (λe=>?_) λe=>?_
 ·have e0:ds=[]:=List.length_eq_zero_iff.mp (by have:=of_decide_eq_true e;omega)
  exact lq (n:=1) M T.eBadRow.at_ (by decide) s1 aq (qe 1 (if_pos e0))
 have e0:ds≠[]:=λz=>by rw[z] at m;simp at m;rw[m] at e;simp at e
 rw[if_neg e0] at qe qo
 refine DT (vs:=[]) az (by show 0<=sizeLine;decide) λD nD=>?_
 have s2:au H1 (upd H1 D (.lst [])):=(au.refl H1).upd nD
 have B:upd H1 D (.lst []) D=some (.lst []):=ah
 revert s2 B
 generalize upd H1 D _=H2
 intro s2 B
 refine eJ (σ':=[_,_,_,_,_,_]) rfl ?_
 refine xY (bB (aa rfl) ⟨l,rfl,⟨_,bf.of (s2 _ _ hl)⟩,?_⟩)
 refine cZ (K:=K) (xs:=vs) (λi σ H'=>∃(x3 x4 x5:Option V) (us:List V) (Wi:List Rw),σ=[some (.str x),some (.ref l),some (.ref D),x3,x4,x5]/\au H1 H'/\H' D=some (.lst us)/\Paired (TD (λb=>b≠D) H') us Wi/\Wi.length=i/\gC true ds=Gc Wi (gC (decide (i=0)) (ds.drop i))) ⟨none,none,none,[],[],rfl,s2,B,.nil,rfl,by cases h:gC true ds<;>simp[Gc,h]⟩ (λi σ H' _ ⟨_,_,_,_,_,_,s,_⟩=>bf.of (s _ _ hl)) ?_ ?_
 ·rintro i y σ H3 hy ⟨x3,x4,x5,us,Wi,rfl,s3,d,hp,G,ht⟩
  have hi:=bU hy
  have U:i<ds.length:=by omega
  have q:ds[i]?=some ds[i]:=Ox U
  have X:ds.drop i=ds[i]::ds.drop (i+1):=List.drop_eq_getElem_cons U
  rw[X] at ht
  generalize ds[i]=pr at q ht
  obtain⟨N,Z,ad⟩:=u pr (Oi q)
  obtain⟨v,hv,a,b,rfl,ha,hb,_⟩:=hc.2 i pr q
  rw[hy] at hv
  cases hv
  rw[jE] at ht
  obtain⟨kw,rw_,a5⟩:∃k r,pr.1.map cp=k::r:=by
   cases hq:pr.1 with
   |nil=>exact(Z hq).elim
   |cons k r=>exact⟨_,_,rfl⟩
  rw[a5] at ht N
  have C:WL H3 b (kw::rw_):=by unfold WL;rw[s3 _ _ hb,<-a5,Ol];congr 2
  have ai:=Paired.length hp
  refine⟨a,_,rfl,bY.of (s3 _ _ ha),rfl,_,_,rfl,gn ⟨_,_,rfl,gn ⟨rfl,?_⟩⟩⟩
  have ew:∀{σ:St} {H':Hp},σ[4]?=some (some (.ref b))->WL H' b (kw::rw_)->Ev (gb (uh K) (cV 4) (tC (.int 0))) σ H' (sv kw):=λh e=>dG (aa h) aq (bf.of e) Mn
  try dsimp only
  refine eJ (σ':=[_,_,_,_,_,_]) rfl ?_
  refine cG (fH (ip (ew rfl C) (eI (gf rw_ (aa rfl) lY jk C (by exact jf _ 1) λw H4 s4 hw=>⟨w,kw,rw_,rfl,hw,N.drop 1,λv H5 s5 o=>?_⟩))))
  have g:=s4.trans s5
  have j:=g _ _ d
  have I:WL H5 b (kw::rw_):=g _ _ C
  try dsimp only
  refine eJ (σ':=[_,_,_,_,_,_]) rfl ?_
  have O:au H H5:=s1.trans (s3.trans g)
  have hw:jh (kw::rw_)=gK kw rw_:=rfl
  rw[hw] at ht
  cases er:gK kw rw_ with
  |none=>
   rw[er] at o ht
   cases(show v=.non from o)
   refine cI (vS (vM (aa rfl))) (λ_=>?_) λz=>nomatch z
   exact lq M T.eBadRow.at_ (by omega) O (aa rfl) (qe _ ht)
  |some r=>
   rw[er] at o ht
   obtain⟨vn,pt⟩:=o
   have hk:=E1 er
   have R:decide (ss kw=Str.ofString "floor")=decide (kd r=0):=by
    rw[hk,wH,show Str.ofString "floor" =kS 0 from rfl,Dy _ (Dh r) 0 (by decide)]
   have J:decide (((us.length:Nat):Int)=0)=decide (i=0):=by rw[decide_eq_decide];omega
   refine cI (u7 (fO (aA (lz (aa rfl) aq)) (decide_eq_false vn)) (aA λQ' q'=>(lD (ew rfl I) aq) _ ((bM (jG (K:=K) (aa rfl) j) aq) _ ⟨rfl,q'⟩))) (λe=>?_) λe=>?_
   ·rw[R,J] at e
    have e':¬decide (kd r=0)=decide (i=0):=λz=>by rw[z] at e;simp at e
    dsimp only at ht
    rw[if_neg e'] at ht
    exact lq M T.eBadRow.at_ (by omega) O (aa rfl) (qe _ ht)
   ·rw[R,J] at e
    have e':decide (kd r=0)=decide (i=0):=by
     revert e
     cases decide (kd r=0)<;>cases decide (i=0)<;>simp
    dsimp only at ht
    rw[if_pos e'] at ht
    have ac:sv kw=.str (kS (kd r)):=by rw[hk];unfold sv;rw[wH]
    refine fe (mT (aa rfl) (.inl ⟨rfl,_,bf.of j⟩) (eI (mK (vs:=[sv kw,v]) (ag (ew rfl I) (ag (aa rfl) az)) (by show 2<=sizeLine;decide) λt nt=>⟨D,us,_,rfl,rfl,((au.refl H5).upd nt) _ _ j,by omega,?_⟩)))
    try dsimp only
    rw[ac]
    refine⟨_,_,_,us++[.ref t],Wi++[r],rfl,dI (s3.trans (g.trans ((au.refl H5).upd nt))) nD,ah,?_,by rw[NM,G];rfl,?_⟩
    ·have tp:∀b xs,H5 b=some (.tup xs)->upd (upd H5 t (.tup [.str (kS (kd r)),v])) D (.lst (us++[.ref t])) b=some (.tup xs):=λb xs e=>by rw[ay (ER e j λz=>nomatch z),ay (tS e nt)];exact e
     have lp:∀b xs,b≠D->H5 b=some (.lst xs)->upd (upd H5 t (.tup [.str (kS (kd r)),v])) D (.lst (us++[.ref t])) b=some (.lst xs):=λb xs n e=>by rw[ay n,ay (tS e nt)];exact e
     refine dy ⟨t,v,rfl,by rw[ay (tS j nt).symm,ah],pt.up tp (λb xs a e=>lp b xs (λz=>by rw[z,s4 _ _ d] at a;cases a) e) λb xs a _ z=>by rw[z,s4 _ _ d] at a;cases a⟩ (Paired.mapP hp λ_ _ h=>(h.same g).up tp lp λ_ _ a _=>a)
    ·rw[ht,show decide (i+1=0)=false from rfl]
     cases gC false (ds.drop (i+1))<;>simp[Gc]
 ·rintro σ H3 ⟨x3,x4,x5,us,Wi,rfl,s3,d,hp,G,ht⟩
  rw[m,List.drop_length] at ht
  have Y:gC true ds=.ok Wi:=by rw[ht];simp[Gc,gC]
  exact dF (aa rfl) (qo _ Y D us H3 (s1.trans s3) d (Paired.mapP hp λ_ _ h=>h.up (λ_ _ e=>e) (λ_ _ _ e=>e) λ_ _ _ _=>trivial))
theorem zx:fK P w K mg base 1 "parts_of" yk ["told", "kind"] ua:=by
 refine rd ["told", "kind"] λM _ _ _ _ _ H vs Q E B h=>?_
 obtain⟨l,C,W,k,rfl,G,x,z,N,q⟩:=h
 refine⟨_,(aO (aN (gU ["one", "parts"] ["kind"] [1] (bw (aw 0)) (iW (K:=K) (n:=2) rfl rfl (aI (dU 0) (aI (dU 1) cC)) rfl rfl) (nr (bP cw (aw 0) (aw 2))) (aw 1)))),?_⟩
 dsimp only[fo]
 have c:sizeLine=2^24:=rfl
 refine eX ⟨_,rfl,l,rfl,⟨_,bf.of x⟩,λD v=>?_⟩
 have b:=Paired.length z
 refine da (K:=K) (xs:=C) (λi m H'=>∃(o p:Option V) (g:List V),m=[o,p,some (.str (kS k))]/\au H H'/\H' D=some (.lst g)/\Paired (Pt (λ_=>True) H) g (fk k (W.take i))) ⟨none,none,[],rfl,(au.refl H).upd v,ah,.nil⟩ (λi m H' _ ⟨_,_,_,_,s,_⟩=>bf.of (s _ _ x)) ?_ ?_
 ·rintro i y m H' I ⟨o,p,g,rfl,s1,j,a⟩
  obtain⟨r,B,t,u,rfl,F,J⟩:=bK z I
  refine⟨t,_,rfl,bY.of (s1 _ _ F),rfl,_,_,rfl,gn ⟨_,_,rfl,gn ⟨rfl,?_⟩⟩⟩
  have f:=Paired.length a
  have d:(fk k (W.take i)).length<=W.length:=NP (Qf _ _) (by rw[N_];lia)
  have A:fk k (W.take (i+1))=fk k (W.take i)++fk k [r]:=by rw[bO B,IP]
  refine iD (fO (aA (lD (aa rfl) (aa rfl))) (Dy _ (Dh r) k G)) (yj (λe=>?_) λe=>?_)
  ·have e:=of_decide_eq_true e
   refine(aa rfl:Ev (cV 1) _ _ _) _ ⟨g,j,?_,_,_,g++[u],rfl,dI s1 v,ah,?_⟩
   ·lia
   ·rw[A,show fk k [r]=[r] by simp[fk,e]];exact dy J a
  ·have e:=of_decide_eq_false e
   exact⟨_,_,g,rfl,s1,j,by rw[A,show fk k [r]=[] by simp[fk,e],Os];exact a⟩
 ·rintro m H' ⟨o,p,g,rfl,s1,j,a⟩
  rw[b,Ob] at a
  exact q D g H' s1 v j (Paired.mapP a λ_ _ h=>h.same s1)
theorem yE:fK P w K mg base 1 "inside" wD ["sizes", "spot"] nW:=by
 refine rd ["sizes", "spot", "layers", "rows", "columns", "layer", "row", "column"] λd _ _ _ _ _ H vs Q E g h=>?_
 obtain⟨a,b,L,R,C,l,r,c,rfl,f,e,q⟩:=h
 refine⟨_,(aj (dQ (aw 0) (eF rfl (aI (cq 2 d) (aI (cq 3 d) (aI (cq 4 d) cC))))) (aY (dQ (aw 1) (eF rfl (aI (cq 5 d) (aI (cq 6 d) (aI (cq 7 d) cC))))) (aN (uz (nj dJ tX ae (aw 5) (aw 2)) (uz (nj dJ tX ae (aw 6) (aw 3)) (vH (nj dJ tX ae (aw 7) (aw 4)))))))),?_⟩
 dsimp only[fo]
 refine rq (aa rfl) (bY.of f) ?_
 refine rq (aa rfl) (bY.of e) ?_
 exact dF (aU (qO (cW aq (aa rfl) (aa rfl)) λ_=>qO (cW aq (aa rfl) (aa rfl)) λ_=>cW aq (aa rfl) (aa rfl)) (congrArg V.bl Ln)) q
theorem uC (g:K.In base)(c:aG P w K mg base "inside" 1 ["sizes", "spot"] nW):fK P w K mg base 2 "check_inside" ud ["sizes", "spot"] (je cOutOfFloor):=by
 refine rd ["sizes", "spot"] λl _ _ _ _ _ H vs Q E d h=>?_
 obtain⟨a,b,z,p,rfl,f,e,j,bp,q,i⟩:=h
 refine⟨_,(aO (cL (eG (gG (bt c d (aJ (aw 0) (aw 1))))) (cY (eQ g T.eOutOfFloor.bd T.eOutOfFloor.ex) Oz rfl (by rfl) dz (aE (eO (fq.cons (dO d (aw 1)) (fq.cons (dk ar) (fq.cons (dO d (aw 0)) fq.nil)))))))),?_⟩
 dsimp only[fo]
 refine tM ⟨_,rfl,_,rfl,a,b,_,_,_,_,_,_,rfl,f,e,_,rfl,?_⟩
 by_cases hi:In z p
 ·rw[decide_eq_true (Bq.mpr hi)]
  exact iC (q hi)
 ·rw[decide_eq_false λz=>hi (Bq.mp z)]
  refine gZ ?_
  exact dR (t:=dv) ⟨⟨_,rfl,rfl,.tup b (t3 p) (bY.of e) (NI 3) (Me bp)⟩,trivial,⟨_,rfl,rfl,.tup a (t3 z) (bY.of f) (NI 3) (Me j)⟩,trivial⟩ (i hi)
theorem yT (u:K.In base):fK P w K mg base 1 "check_sizes" xt ["sizes", "prices", "vias"] (om cBadSize):=by
 refine rd ["sizes", "prices", "vias", "size", "most"] λJ _ _ _ _ _ H vs Q E F h=>?_
 obtain⟨a,pr,Y,z,xs,ys,rfl,q,r,O,hv,N,o⟩:=h
 refine⟨_,(aj (fz PassesOwn.leaving rfl (E5 (by rfl) T.zip_ (aJ (aw 0) (b_ (by rfl) (by exact T.g_MOST_SIZES)))) (eF rfl (aI (cq 3 J) (aI (cq 4 J) cC))) (aO (cL (eG (eK dJ dJ ae (aw 3) (aw 4))) (cY (eQ u T.eBadSize.bd T.eBadSize.ex) Oz rfl (by rfl) dz (aE (eO (fq.cons (dk ar) (fq.cons (dO F (aw 0)) (fq.cons (dk ar) (fq.cons (dO F (aw 3)) (fq.cons (dk ar) (fq.cons (dO F (aw 4)) fq.nil)))))))))))) (aY (cL (bP iq (dn bS T.len_ (aE (aw 1))) (aR aZ (aw 0) ae)) (cY (eQ u T.eBadSize.bd T.eBadSize.ex) Oz rfl (by rfl) dz (aE ar))) (cL (bP iq (dn bS T.len_ (aE (aw 2))) (ao bZ (aR aZ (aw 0) ae) ae)) (cY (eQ u T.eBadSize.bd T.eBadSize.ex) Oz rfl (by rfl) dz (aE ar))))),?_⟩
 dsimp only[fo]
 obtain⟨L,R,C⟩:=z
 refine⟨_,rfl,a,cMS,rfl,⟨_,bY.of q⟩,⟨_,T.t_MOST_SIZES _⟩,?_⟩
 refine Cc (K:=K) (xs:=[.int (L:Nat),.int (R:Nat),.int (C:Nat)]) (ys:=[.int 4,.int 16,.int 16]) rfl (λi σ H'=>∃A G:Option V,σ=[some (.ref a),some (.ref pr),some (.ref Y),A,G]/\au H H'/\(1<=i->1<=L/\L<=4)/\(2<=i->1<=R/\R<=16)/\(3<=i->1<=C/\C<=16)) ⟨none,none,rfl,au.refl H,λh=>absurd h (by decide),λh=>absurd h (by decide),λh=>absurd h (by decide)⟩ (λi σ H' _ ⟨_,_,_,s,_⟩=>⟨bY.of (s _ _ q),T.t_MOST_SIZES _⟩) ?_ ?_
 ·rintro i x y p σ H2 j g Z ⟨A,G,rfl,s2,f,l,M⟩
  obtain⟨n,m,rfl,rfl,X,bm,no,I⟩:∃n m:Nat,x=.int (n:Nat)/\y=.int (m:Nat)/\Bn n/\Bn m/\(¬(1<=n/\n<=m)->oK (L,R,C) xs.length ys.length=false)/\(1<=n/\n<=m->(1<=i+1->1<=L/\L<=4)/\(2<=i+1->1<=R/\R<=16)/\(3<=i+1->1<=C/\C<=16)):=by
   match i,j,g,f,l with
   |0,j,g,_,_=>exact⟨L,4,(Option.some.inj j).symm,(Option.some.inj g).symm,r.1,(show 4<10^20 by decide),λh=>B5 λz=>h z.1,λh=>⟨λ_=>h,λz=>absurd z (by decide),λz=>absurd z (by decide)⟩⟩
   |1,j,g,f,_=>exact⟨R,16,(Option.some.inj j).symm,(Option.some.inj g).symm,r.2.1,(show 16<10^20 by decide),λh=>B5 λz=>h z.2.1,λh=>⟨λ_=>f (by decide),λ_=>h,λz=>absurd z (by decide)⟩⟩
   |2,j,g,f,l=>exact⟨C,16,(Option.some.inj j).symm,(Option.some.inj g).symm,r.2.2,(show 16<10^20 by decide),λh=>B5 λz=>h z.2.2,λh=>⟨λ_=>f (by decide),λ_=>l (by decide),λ_=>h⟩⟩
  refine⟨p,_,rfl,bY.of ah,rfl,_,_,rfl,_,_,rfl,rfl,?_⟩
  have s3:au H (upd H2 p (.tup [.int (n:Nat),.int (m:Nat)])):=s2.upd Z
  revert s3
  generalize upd H2 p (.tup [.int (n:Nat),.int (m:Nat)])=H3
  intro s3
  refine gi (fj (aA (cW aq (aa rfl) (aa rfl)))) (λe=>?_) (λe=>?_)
  ·have d:=no λz=>by simp at e;omega
   exact dR (t:=dv) ⟨trivial,⟨_,rfl,rfl,.tup a (t3 (L,R,C)) (bY.of (s3 _ _ q)) (NI 3) (Me r)⟩,trivial,⟨_,rfl,rfl,.int _ (JM X)⟩,trivial,⟨_,rfl,rfl,.int _ (JM bm)⟩,trivial⟩ (o d _ s3)
  ·obtain⟨S,W,U⟩:=I (by simp at e;omega)
   exact⟨_,_,rfl,s3,S,W,U⟩
 ·rintro σ H2 ⟨A,G,rfl,s2,f,l,M⟩
  have c:=s2 _ _ q
  have eS:oK (L,R,C) xs.length ys.length=(decide (xs.length=L)&&decide (ys.length+1=L)):=by
   unfold oK;rw[decide_eq_true ⟨f (by show 1<=3;decide),l (by show 2<=3;decide),M (by show 3<=3;decide)⟩];rfl
  have hL:=f (by show 1<=3;decide)
  rw[eS] at N o
  refine st ?_
  refine cI (b:=!decide ((xs.length:Int)=(L:Nat))) (aA (kL (dB (ag (aa rfl) az) λQ' D=>⟨_,_,rfl,.inl ⟨_,bf.of (s2 _ _ O),rfl⟩,D⟩) (bC (v:=.int (L:Nat)) (aa rfl) aq (bY.of c) rfl))) (λe=>?_) (λe=>?_)
  ·exact iV (o (by rw[decide_eq_false (λz=>by simp at e;omega)];rfl) _ s2)
  refine gi (b:=!decide ((ys.length:Int)=(L:Nat) - 1)) (aA (kL (dB (ag (aa rfl) az) λQ' D=>⟨_,_,rfl,.inl ⟨_,bf.of (s2 _ _ hv),rfl⟩,D⟩) (aP (bC (v:=.int (L:Nat)) (aa rfl) aq (bY.of c) rfl) aq))) (λB=>?_) (λB=>?_)
  ·exact iV (o (by rw[decide_eq_false (p:=ys.length+1=L) (λz=>by simp at B;omega),Om]) _ s2)
  ·exact N (by rw[decide_eq_true (by simp at e;omega),decide_eq_true (by simp at B;omega)];rfl) _ s2
theorem zq (d:K.In base):fK P w K mg base 1 "check_price" wJ ["price", "least"] (n_ cBadPrice):=by
 refine rd ["price", "least"] λg _ _ _ _ _ H vs Q E a h=>?_
 obtain⟨x,m,rfl,bx,bm,f,c⟩:=h
 refine⟨_,(aO (cL (eG (eK dJ dJ (aw 1) (aw 0) (b_ (by rfl) (by exact T.g_MOST_PRICE)))) (cY (eQ d T.eBadPrice.bd T.eBadPrice.ex) Oz rfl (by rfl) dz (aE (eO (fq.cons (dO a (aw 0)) (fq.cons (dk ar) (fq.cons (dO a (aw 1)) (fq.cons (dk ar) (fq.cons (dO a (b_ (by rfl) (by exact T.g_MOST_PRICE))) fq.nil)))))))))),?_⟩
 dsimp only[fo]
 refine gi (b:=!fY m x) (fO (fj (aA (cW (aa rfl) (aa rfl) aq))) ?_) (λe=>?_) (λe=>f (by simpa using e))
 ·unfold fY
  congr 1
  congr 1
  ·rw[decide_eq_decide];omega
  ·rw[decide_eq_decide];omega
 exact dR (t:=dv) ⟨⟨_,rfl,rfl,.int _ (JM bx)⟩,trivial,⟨_,rfl,rfl,.int _ (JM bm)⟩,trivial,⟨rfl,.int _ (by decide)⟩,trivial⟩ (c (nb e))
theorem u_ (r:aG P w K mg base "check_price" 1 ["price", "least"] (n_ cBadPrice)):fK P w K mg base 2 "check_prices" so ["prices", "vias", "tolls"] (kH cBadPrice):=by
 refine rd ["prices", "vias", "tolls", "ahead", "across", "price", "toll"] λB _ _ _ _ _ H vs Q E D h=>?_
 obtain⟨pr,F,d,ps,C,l,rfl,⟨as,R,T⟩,q,X,m,W,n,O,G⟩:=h
 refine⟨_,(aj (fz PassesOwn.leaving rfl (bw (aw 0)) (eF rfl (aI (cq 3 B) (aI (cq 4 B) cC))) (aY (aF (fF r D di (aJ (aw 3) ae))) (aF (fF r D di (aJ (aw 4) ae))))) (aY (fz PassesOwn.leaving rfl (bw (aw 1)) (cq 5 B) (aO (aF (fF r D di (aJ (aw 5) ae))))) (Av (fz PassesOwn.leaving rfl (yV (aw 2)) (cq 6 B) (aO (aF (fF r D di (aJ (aw 6) ae)))))))),?_⟩
 dsimp only[fo]
 have M:Bn 1:=(show 1<10^20 by decide)
 have b0:Bn 0:=(show 0<10^20 by decide)
 have len:as.length=ps.length:=Paired.length T
 refine⟨_,rfl,pr,rfl,⟨_,bf.of R⟩,?_⟩
 refine cZ (K:=K) (xs:=as.map V.ref) (λi σ H'=>∃y z:Option V,σ=[some (.ref pr),some (.ref F),some (.ref d),y,z,none,none]/\H'=H/\(ps.take i).all (λp=>fY 1 p.1&&fY 1 p.2)=true) ⟨none,none,rfl,rfl,rfl⟩ (λi σ H' _ ⟨_,_,_,e,_⟩=>e▸bf.of R) ?_ ?_
 ·rintro i x σ H2 J ⟨y,z,rfl,rfl,f⟩
  obtain⟨a,Y,rfl⟩:=iL J
  obtain⟨c,U,e⟩:=bK T Y
  have u:=Oi U
  obtain⟨bu,Z⟩:=q c u
  refine⟨a,_,rfl,bY.of e,rfl,_,_,rfl,_,_,rfl,rfl,?_⟩
  refine⟨_,rfl,c.1,1,rfl,bu,M,λI=>?_,λs=>G (by unfold D9;rw[jJ u (by rw[s];rfl)];rfl) _ (au.refl _)⟩
  refine⟨_,rfl,c.2,1,rfl,Z,M,λo2=>?_,λn2=>G (by unfold D9;rw[jJ u (by rw[n2,Om])];rfl) _ (au.refl _)⟩
  exact⟨_,_,rfl,rfl,gR f U (by rw[I,o2];rfl)⟩
 ·rintro σ H2 ⟨y,z,rfl,rfl,f⟩
  rw[NG,len,Ob] at f
  refine st ?_
  refine⟨_,rfl,F,rfl,⟨_,bf.of X⟩,?_⟩
  refine cZ (K:=K) (xs:=ni C) (λi σ H'=>∃A:Option V,σ=[some (.ref pr),some (.ref F),some (.ref d),y,z,A,none]/\H'=H2/\(C.take i).all (fY 1)=true) ⟨none,rfl,rfl,rfl⟩ (λi σ H' _ ⟨_,_,e,_⟩=>e▸bf.of X) ?_ ?_
  ·rintro i x σ H3 J ⟨A,rfl,rfl,g⟩
   obtain⟨j,S,rfl⟩:=iL J
   have u:=Oi S
   refine gn ?_
   exact⟨_,rfl,j,1,rfl,m j u,M,λI=>⟨_,rfl,rfl,gR g S I⟩,λs=>G (by unfold D9;rw[jJ u s,Om]) _ (au.refl _)⟩
  ·rintro σ H3 ⟨A,rfl,rfl,g⟩
   rw[show(ni C).length=C.length from NG ..,Ob] at g
   have O:=O (by unfold D9;rw[f,g];rfl)
   refine⟨d,.dT l,W,trivial,λo=>?_⟩
   refine⟨_,rfl,d,o,.dT l,rfl,ah,trivial,?_⟩
   refine BD (λi σ H'=>∃N:Option V,σ=[some (.ref pr),some (.ref F),some (.ref d),y,z,A,N]/\H'=upd H3 d (.frz o (.dT l))) ⟨none,rfl,rfl⟩ (λi σ H' _ ⟨_,_,e⟩=>e▸ah) ?_ ?_
   ·rintro i x v σ H' ⟨k,b,hk,rfl,_⟩ hi ⟨N,rfl,rfl⟩
    obtain⟨j,e,j2⟩:=n _ (Oi hk)
    have e:v=.int (j:Nat):=e
    subst e
    refine gn ?_
    exact⟨_,rfl,j,0,rfl,(show j<10^20 by omega),b0,λ_=>⟨_,rfl,rfl⟩,λs=>by unfold fY at s;rw[decide_eq_true (N9 j),decide_eq_true j2] at s;cases s⟩
   ·rintro σ H' ⟨N,rfl,rfl⟩
    exact⟨ah,O _ (o6 W)⟩
theorem Iq:fK P w K mg base 1 "between" Ku ["one", "two"] GN:=by
 refine rd ["one", "two"] λe _ _ _ _ _ H vs Q E d h=>?_
 obtain⟨a,b,rfl,g,f,q⟩:=h
 refine⟨_,(aO (aN (dW (oH rfl) T.list_ (aE (dW tT T.range_ (aJ (dn (iZ rfl) T.min_ (aJ (aw 0) (aw 1))) (ao aV (dn (fZ rfl) T.max_ (aJ (aw 0) (aw 1))) ae))))))),?_⟩
 refine⟨_,rfl,_,rfl,_,_,rfl,_,rfl,_,rfl,_,_,rfl,_,1,rfl,rfl,_,_,rfl,λp c=>?_⟩
 rw[K1,Kq]
 refine⟨p,min (a:Int) b,max (a:Int) b+1,rfl,ah,by omega,by omega,λl nl=>?_⟩
 refine q l _ (((au.refl H).upd c).upd nl) (nw nl).2 ?_
 rw[ah]
 unfold ui
 rw[List.range'_eq_map_range,Ol,show(max (a:Int) b+1 - min (a:Int) b).toNat=max a b - min a b+1 by omega]
 refine congrArg (λl=>some (HO.lst l)) (QE λk _=>?_)
 show V.int _=V.int _
 congr 1
 show min (a:Int) b+(k:Nat)=((min a b+k:Nat):Int)
 omega
theorem IU (S:aG P w K mg base "between" 1 ["one", "two"] GN):fK P w K mg base 2 "box" Lz ["one", "two"] GV:=by
 refine rd ["one", "two", "spots", "layer", "row"] λnd _ _ _ _ _ H vs Q E hr h=>?_
 obtain⟨b,c,f,s,rfl,hb,hc,⟨f1,f2,f3⟩,⟨g1,g2,g3⟩,q⟩:=h
 refine⟨_,(aj (aX 2 nd (cf kG)) (aY (oG (bw (bt S hr (aJ (aR aZ (aw 0) ae) (aR aZ (aw 1) ae)))) (cq 3 nd) (aO (oG (bw (bt S hr (aJ (aR aZ (aw 0) ae) (aR aZ (aw 1) ae)))) (cq 4 nd) (aO (aF (bI NX PySem.F.slot_list_extend PySem.F.type_list_extend qc (aw 2) (aE (gU ["column"] ["layer", "row"] [3,4] (bw (bt S hr (aJ (aR aZ (aw 0) ae) (aR aZ (aw 1) ae)))) (dU 0) cM (c9 (ax (aw 1) (aJ (aw 2) (aw 0)))))))))))) (aN (aw 2)))),?_⟩
 dsimp only[fo]
 have R:sizeLine=2^24:=rfl
 refine DT (vs:=[]) az (by show 0<=sizeLine;decide) λl nl=>?_
 have W:au H (upd H l (.lst [])):=(au.refl H).upd nl
 have l0:upd H l (.lst []) l=some (.lst []):=ah
 revert W l0
 generalize upd H l (.lst [])=H1
 intro W l0
 refine eJ (σ':=[_,_,_,_,_]) rfl ?_
 have e1:=zQ f1 g1
 have e2:=zQ f2 g2
 have e3:=zQ f3 g3
 refine EM (ag (y4 rfl (W _ _ hb) rfl) (ag (y4 rfl (W _ _ hc) rfl) az)) ⟨f.1,s.1,rfl,f1,g1,λla H2 s2 ac X=>?_⟩
 have N:la≠l:=λe=>by rw[e,l0] at ac;cases ac
 refine⟨la,rfl,⟨_,bf.of X⟩,cZ (K:=K) (a:=la) (xs:=(ui f.1 s.1).map λn=>V.int (n:Nat)) (λi σ H'=>∃(x3 U:Option V) (bs:List Addr),σ=[some (.ref b),some (.ref c),some (.ref l),x3,U]/\Sb l H2 H'/\H' l=some (.lst (bs.map V.ref))/\dw H' bs ((((ui f.1 s.1).take i).flatMap λa=>Au f s a).map t3)/\bs.length<=256*i)
  ⟨none,none,[],rfl,Sb.refl l H2,s2 _ _ l0,.nil,by simp⟩ (λi σ H' _ ⟨_,_,_,_,sb,_⟩=>bf.of (sb _ _ N X)) ?_ ?_⟩
 ·rintro i v σ H3 hi ⟨x3,U,bs,rfl,d,u,o,O⟩
  obtain⟨y,hy,rfl⟩:=iL hi
  have li:=bU hy
  refine gn ?_
  have T:∀{H':Hp} {p:Addr} {g:P3},Sb l H2 H'->A3 H p g->A3 H' p g:=λz e=>z _ _ (aD e nl) (s2 _ _ (W _ _ e))
  refine yq (ag (y4 rfl (T d hb) rfl) (ag (y4 rfl (T d hc) rfl) az)) ⟨f.2.1,s.2.1,rfl,f2,g2,λlb H4 s4 ad Z=>?_⟩
  have M:lb≠l:=λe=>by rw[e,u] at ad;cases ad
  refine⟨lb,rfl,⟨_,bf.of Z⟩,cZ (K:=K) (a:=lb) (xs:=(ui f.2.1 s.2.1).map λn=>V.int (n:Nat)) (λj σ H'=>∃(U:Option V) (bs:List Addr),σ=[some (.ref b),some (.ref c),some (.ref l),some (.int (y:Nat)),U]/\Sb l H4 H'/\H' l=some (.lst (bs.map V.ref))/\dw H' bs (((((ui f.1 s.1).take i).flatMap λa=>Au f s a)++((ui f.2.1 s.2.1).take j).flatMap λb=>uT f s y b).map t3)/\bs.length<=256*i+16*j)
   ⟨_,bs,rfl,Sb.refl l H4,s4 _ _ u,by rw[List.take_zero,List.flatMap_nil,Os];exact o.same s4,by lia⟩ (λi σ H' _ ⟨_,_,_,sb,_⟩=>bf.of (sb _ _ M Z)) ?_ ?_⟩
  ·rintro j v σ H5 hj ⟨U,bs,rfl,r,x,m,G⟩
   obtain⟨z,hz,rfl⟩:=iL hj
   have lj:=bU hz
   have F:=(d.trans (Sb.of s4)).trans r
   refine gn ?_
   refine⟨_,rfl,.inl ⟨rfl,_,bf.of x⟩,?_⟩
   refine bF (ag (y4 rfl (T F hb) rfl) (ag (y4 rfl (T F hc) rfl) az)) ⟨f.2.2,s.2.2,rfl,f3,g3,λlc H6 s6 bc Y=>?_⟩
   refine⟨lc,rfl,⟨_,bf.of Y⟩,λD nD=>?_⟩
   refine rA (K:=K) (rest:=[some (.int (y:Nat)),some (.int (z:Nat))]) (ui f.2.2 s.2.2) (λn=>V.int (n:Nat)) (λH v n=>∃t,v=.ref t/\A3 H t (y,z,n)) (λ⟨t,e,h⟩ s e'=>⟨t,e,CT h s e'⟩) Y nD (by lia) (λn hn H' _ _ Qv qv=>mK (vs:=[.int (y:Nat),.int (z:Nat),.int (n:Nat)]) (ag (aa rfl) (ag (aa rfl) (ag (aa rfl) az))) (by show 3<=sizeLine;decide) λp np=>qv _ _ ((au.refl H').upd np) ⟨p,rfl,ah⟩) λvs H7 s7 hD hv=>?_
   obtain⟨rs,rfl,J⟩:=FM (ps:=uT f s y z) (C6 (g:=λc=>(y,z,c)) hv)
   have C:=Paired.length J
   rw[NG] at C
   unfold uT at C
   rw[NG] at C
   have B:=s6.trans s7
   have A:=B _ _ x
   refine⟨l,D,_,_,rfl,rfl,A,hD,(by rw[NG,NG];lia),_,bs++rs,rfl,(r.trans (Sb.of B)).set,?_,?_,?_⟩
   ·rw[ah,NW]
   ·rw[bO hz,List.flatMap_append,List.flatMap_singleton,<-Pq,NW]
    have I:Sb l H7 (upd H7 l (.lst (bs.map V.ref++rs.map V.ref))):=(Sb.refl l H7).set
    exact nk (I.tups A (m.same B)) (I.tups A J)
   ·rw[NM];lia
  ·rintro σ H5 ⟨U,bs,rfl,r,x,m,G⟩
   rw[NG,Ob] at m
   rw[NG] at G
   refine⟨_,_,bs,rfl,(d.trans (Sb.of s4)).trans r,x,?_,by lia⟩
   rw[bO hy,List.flatMap_append,List.flatMap_singleton]
   exact m
 ·rintro σ H3 ⟨x3,U,bs,rfl,d,u,o,O⟩
  rw[NG,Ob] at o
  exact⟨_,rfl,q l H3 (((Sb.of (W.trans s2)).trans d).same nl) nl ⟨bs,u,o⟩⟩
theorem zN (A:aG P w K mg base "box" 2 ["one", "two"] GV):fK P w K mg base 3 "marked" vX ["boxes"] tD:=by
 refine rd ["boxes", "marks", "mark", "one", "two", "spot"] λr _ _ _ _ _ H vs Q E S h=>?_
 obtain⟨l,T,bs,rfl,O,R,a,n,q⟩:=h
 refine⟨_,(aj (aX 1 r mL) (aY (oG (bw (aw 0)) (eF rfl (aI (cq 2 r) (aI (cq 3 r) (aI (cq 4 r) cC)))) (aO (oG (bw (bt A S (aJ (aw 3) (aw 4)))) (cq 5 r) (aO (xo (dh.one S) (aw 1) (aw 5) (aw 2) (by rfl)))))) (aN (aw 1)))),?_⟩
 dsimp only[fo]
 have o:sizeLine=2^24:=rfl
 refine cG λd r=>?_
 have s1:au H (upd H d (.dT [])):=(au.refl H).upd r
 have J:upd H d (.dT []) d=some (.dT []):=ah
 revert s1 J
 generalize upd H d _=H1
 intro s1 J
 try dsimp only
 refine eJ (σ':=[_,_,_,_,_,_]) rfl ?_
 have j:=Paired.length R
 refine xY (bB (aa rfl) ⟨l,rfl,⟨_,bf.of (s1 _ _ O)⟩,?_⟩)
 refine cZ (K:=K) (xs:=T) (λi σ H'=>∃N G M D:Option V,σ=[some (.ref l),some (.ref d),N,G,M,D]/\au H H'/\H' d=some (.dT (mk (bs.take i)))) ⟨none,none,none,none,rfl,s1,J⟩ (λi σ H' _ ⟨_,_,_,_,_,s,_⟩=>bf.of (s _ _ O)) ?_ ?_
 ·rintro i x σ H2 Z ⟨N,G,M,D,rfl,s2,f⟩
  obtain⟨b,C,t,y,z,rfl,W,Y,U⟩:=bK R Z
  have c:=Oi C
  have m:=HR (bs:=bs.take i) λb C=>a b (List.mem_of_mem_take C)
  rw[N_] at m
  have p:=Du (a b c).1 (a b c).2
  refine⟨t,_,rfl,bY.of (s2 _ _ W),rfl,_,_,rfl,gn ⟨_,_,rfl,gn ⟨_,_,rfl,gn ⟨rfl,?_⟩⟩⟩⟩
  try dsimp only
  refine eJ (σ':=[_,_,_,_,_,_]) rfl ?_
  refine yq (ag (aa rfl) (ag (aa rfl) az)) ⟨y,z,b.2.1,b.2.2,rfl,s2 _ _ Y,s2 _ _ U,(a b c).1,(a b c).2,λla H3 s3 ac ⟨as,u,I⟩=>⟨la,rfl,⟨_,bf.of u⟩,?_⟩⟩
  refine F3 u I (s3 _ _ f) (by lia) (λ_=>rfl) (λ_=>rfl) (λ_ _=>aa rfl) λB H4 F X e=>?_
  have e:H4 d=some (.dT (mk (bs.take (i+1)))):=by rw[bO C,xC];exact e
  have g:=(((Sb.of (s2.trans s3)).trans X).same r)
  rcases F with rfl|⟨v,rfl⟩
  ·exact⟨_,_,_,_,rfl,g,e⟩
  ·exact⟨_,_,_,_,rfl,g,e⟩
 ·rintro σ H2 ⟨N,G,M,D,rfl,s2,f⟩
  rw[j,Ob] at f
  exact dF (aa rfl) (q d H2 s2 r f)
theorem BX(F:zh K "__init__" "Floor.__init__" h_ f fd)(b5:aG P w K mg base "check_sizes" 1 ["sizes", "prices", "vias"] (om cBadSize))(b4:aG P w K mg base "check_prices" 2 ["prices", "vias", "tolls"] (kH cBadPrice))(b0:aG P w K mg base "check_inside" 2 ["sizes", "spot"] (je cOutOfFloor)):gr P w K mg base 3 f fd ["self", "sizes", "prices", "vias", "rocks", "tolls"] (qj cFloor):=by
 have sc:eP ["self", "sizes", "prices", "vias", "rocks", "tolls", "told_rocks", "told_tolls", "spot"] ["self", "sizes", "prices", "vias", "rocks", "tolls"] (aS h_):=⟨rfl,rfl,rfl,by decide+kernel,rfl,by decide+kernel,by decide+kernel⟩
 have nd:=sc.nd
 refine F.ok sc (λvs H Q E h=>by first|(cases h;subst_vars;rfl)|repeat (first|(obtain⟨rfl,_⟩:=h;rfl)|(obtain⟨_,h⟩:=h))) (λd4 A outer s H vs Q E hr h=>?_)
 obtain⟨p,dx,z,pr,vi,ro,td,g,rfl,hp,hg,br,hz,B,M,X,C,q⟩:=h
 refine⟨_,(aj (aX 6 nd (gh (bP gq (aw 4) cy) (cf kG) (aw 4))) (aj (aX 7 nd (gh (bP gq (aw 5) cy) mL (aw 5))) (aj (aF (fF b5 hr gM (ax (aw 1) (aJ (aw 2) (aw 3))))) (aj (aF (fF b4 hr gM (ax (aw 2) (aJ (aw 3) (aw 7))))) (aj (oG (bw (aw 6)) (cq 8 nd) (aO (aF (fF b0 hr gM (aJ (aw 1) (aw 8)))))) (aj (Av (oG (Gh (aw 7)) (cq 8 nd) (aO (aF (fF b0 hr gM (aJ (aw 1) (aw 8))))))) (aj (fw (aw 0) (aw 1) rfl) (aj (fw (aw 0) (gU ["ahead", "across"] [] [] (bw (aw 2)) (iW (K:=K) (n:=2) rfl rfl (aI (dU 0) (aI (dU 1) cC)) rfl rfl) cM (c9 (aJ (aw 0) (aw 1)))) rfl) (aj (fw (aw 0) (dW fV T.list_ (aE (aw 3))) rfl) (aY (fw (aw 0) (dW (oj rfl hr) T.dict_ (aE (gU ["spot"] [] [] (bw (aw 6)) (dU 0) cM (c9 (aJ (aw 0) iG))))) rfl) (fw (aw 0) (dW zY T.dict_ (aE (aw 7))) rfl))))))))))),?_⟩
 dsimp only[fo]
 have bn:sizeLine=2^24:=rfl
 refine wo (λv H1=>v=.ref ro/\H=H1) (λQ' hQ=>Kp (fO (aA (lz (aa rfl) aq)) (by rfl)) ⟨_,rfl,hQ _ _ ⟨rfl,rfl⟩⟩) ?_
 rintro _ _ ⟨rfl,rfl⟩
 refine wo (λv H1=>v=.ref td/\H=H1) (λQ' hQ=>Kp (fO (aA (lz (aa rfl) aq)) (by rfl)) ⟨_,rfl,hQ _ _ ⟨rfl,rfl⟩⟩) ?_
 rintro _ _ ⟨rfl,rfl⟩
 obtain⟨ps,h3,h4⟩:=B
 have bz:gV g.z:=by have:=hg.z;unfold Sz at this;unfold gV;omega
 have a4:oK g.z (ps.map V.ref).length (ni g.vs).length=true:=by
  unfold oK
  rw[decide_eq_true (p:=(1<=g.z.1/\g.z.1<=4)/\(1<=g.z.2.1/\g.z.2.1<=16)/\(1<=g.z.2.2/\g.z.2.2<=16)) hg.z,NG,Paired.length h4,decide_eq_true hg.pl,NG,decide_eq_true hg.vl];rfl
 have bc:D9 g.ps g.vs=true:=by
  unfold D9 fY
  rw[N8,Oa,Oa]
  exact⟨λx hx=>by have:=hg.pp x hx;unfold Pr at this;simp;omega,λx hx=>by have:=hg.vv x hx;unfold Pr at this;simp;omega⟩
 have B:wt H pr g.ps:=⟨ps,h3,h4⟩
 refine iT (jO (ag (aa rfl) (ag (aa rfl) (ag (aa rfl) az))) ⟨z,pr,vi,g.z,_,_,rfl,hz,bz,h3,M,λ_ H3 s3=>?_,λe=>by rw[a4] at e;cases e⟩)
 refine iT (jO (ag (aa rfl) (ag (aa rfl) (ag (aa rfl) az))) ⟨pr,vi,td,g.ps,g.vs,_,rfl,B.up (λ_ e=>s3 _ _ e) (λ_ _ e=>s3 _ _ e),(λx hx=>by have:=hg.pp x hx;unfold Pr at this;unfold Bn;omega),s3 _ _ M,(λx hx=>by have:=hg.vv x hx;unfold Pr at this;unfold Bn;omega),s3 _ _ C,?_,λ_ H4 db=>?_,λe=>by rw[bc] at e;cases e⟩)
 ·intro x hx
  obtain⟨y,hy,rfl⟩:=N0.mp hx
  exact⟨_,rfl,(hg.ti y hy).2⟩
 have s4:=s3.trans db
 have J:=s4 _ _ C
 obtain⟨as,I,a7⟩:=X.same s4
 refine⟨_,rfl,ro,rfl,⟨_,bf.of I⟩,?_⟩
 refine cZ (K:=K) (xs:=as.map V.ref) (λi σ H'=>∃x8:Option V,σ=[some (.ref p),some (.ref z),some (.ref pr),some (.ref vi),some (.ref ro),some (.ref td),some (.ref ro),some (.ref td),x8]/\H4=H') ⟨none,rfl,rfl⟩ (λi σ H' _ ⟨_,_,e⟩=>e▸bf.of I) ?_ ?_
 ·rintro i x σ H' hx ⟨x8,rfl,rfl⟩
  obtain⟨a,ha,rfl⟩:=fm hx
  obtain⟨c,hc,r⟩:=xE a7 ha
  obtain⟨n,hn,rfl⟩:=N0.mp (Oi hc)
  refine gn ?_
  exact⟨_,rfl,_,rfl,z,a,g.z,n,rfl,s4 _ _ hz,r,bz,G_ bz (hg.ri n hn),λ_=>⟨_,rfl,rfl⟩,λh=>(h (hg.ri n hn)).elim⟩
 rintro σ H' ⟨x8,rfl,rfl⟩
 refine st ?_
 refine⟨td,.dT (yR g.ts),J,trivial,λo=>?_⟩
 refine⟨_,rfl,td,o,.dT (yR g.ts),rfl,ah,trivial,?_⟩
 have bh:z≠td:=lO (s4 _ _ hz) J (λz=>nomatch z)
 refine DO (λi σ H'=>∃x8:Option V,σ=[some (.ref p),some (.ref z),some (.ref pr),some (.ref vi),some (.ref ro),some (.ref td),some (.ref ro),some (.ref td),x8]/\H'=upd H4 td (.frz o (.dT (yR g.ts)))) ⟨x8,rfl,rfl⟩ (λi σ H' _ ⟨_,_,e⟩=>e▸ah) ?_ ?_
 ·rintro i x v σ H' ⟨k,b,hk,rfl,hb⟩ hi ⟨x8,rfl,rfl⟩
  obtain⟨y,hy,e⟩:=N0.mp (Oi hk)
  have e:(iK (t3 y.1),V.int (y.2:Nat))=(k,v):=e
  cases e
  have hb:upd H4 td (.frz o (.dT (yR g.ts))) b=some (.tup ((t3 y.1).map V.int)):=by
   have:=hb
   unfold iK at this
   rw[i7] at this
   exact this
  refine gn ?_
  exact⟨_,rfl,_,rfl,z,b,g.z,y.1,rfl,(by show upd H4 td _ z=_;rw[ay bh];exact s4 _ _ hz),hb,bz,G_ bz (hg.ti y hy).1,λ_=>⟨_,rfl,rfl⟩,λh=>(h (hg.ti y hy).1).elim⟩
 rintro σ H5 ⟨x8,rfl,rfl⟩
 refine⟨ah,?_⟩
 generalize e5:upd (upd H4 td (.frz o (.dT (yR g.ts)))) td (.dT (yR g.ts))=H5
 have s5:au H H5:=s4.trans (e5▸o6 J)
 have d:=s5 _ _ hp
 have bi:=s5 _ _ C
 have ba:A3 H5 z g.z:=s5 _ _ hz
 have bm:=s5 _ _ M
 have bd:=X.same s5
 have ai:wt H5 pr g.ps:=B.up (λ_ e=>s5 _ _ e) (λ_ _ e=>s5 _ _ e)
 refine st ?_
 refine⟨_,rfl,_,rfl,p,cFloor,dx,[],rfl,d,T.cl_Floor,T.na_Floor_sizes,(by decide),?_⟩
 rw[Np]
 generalize e6:upd H5 p (.ins cFloor dx [("sizes",.ref z)])=H6
 have b6:bQ H5 H6 p:=e6▸(bQ.of (au.refl H5)).up
 have an:H6 p=some (.ins cFloor dx [("sizes",.ref z)]):=e6▸ah
 obtain⟨a5,k6,t6⟩:=ai.bp b6 d
 refine st ?_
 refine⟨_,rfl,pr,rfl,⟨_,bf.of k6⟩,λD nD=>?_⟩
 refine da (K:=K) (xs:=a5.map V.ref) (λi τ H'=>∃(x0 x1:Option V) (us:List Addr),τ=[x0,x1]/\au H6 H'/\H' D=some (.lst (us.map V.ref))/\Paired (P2 H') us (g.ps.take i)/\us.length=i) ⟨none,none,[],rfl,(au.refl H6).upd nD,ah,.nil,rfl⟩ (λi τ H' _ ⟨_,_,_,_,s,_⟩=>bf.of (s _ _ k6)) ?_ ?_
 ·rintro i x τ H' hx ⟨x0,x1,us,rfl,s,hD,a1,a8⟩
  obtain⟨a,ha,rfl⟩:=fm hx
  obtain⟨c,hc,r⟩:=bK t6 ha
  have hi:i<g.ps.length:=(Ov.mp hc).1
  have bu:=hg.pl
  have:=hg.z.1
  refine⟨a,_,rfl,bY.of (s _ _ r),rfl,?_⟩
  refine⟨_,_,rfl,gn ?_⟩
  refine⟨_,_,rfl,gn ?_⟩
  refine⟨rfl,?_⟩
  refine gA ?_
  refine⟨_,rfl,_,rfl,(by show 2<=sizeLine;decide),λt nt=>?_⟩
  have j:t≠D:=N6 (aD hD nt)
  refine⟨us.map V.ref,(by rw[ay (N6 j)];exact hD),by rw[NG];omega,_,_,us++[t],rfl,dI (s.upd nt) nD,by rw[ah,NW];rfl,?_,by simp[a8]⟩
  rw[bO hc]
  refine dy (R:=P2 _) ?_ (Paired.mapP a1 λa c (e:H' a=some (.tup _))=>kx hD nt _ _ e)
  unfold P2;rw[ay j,ah]
 rintro τ H7 ⟨x0,x1,us,rfl,s7,a0,S,_⟩
 rw[NG,Paired.length t6,Ob] at S
 have am:wt H7 D g.ps:=⟨us,a0,S⟩
 have ac:=s7 _ _ an
 refine⟨_,rfl,p,cFloor,dx,_,rfl,ac,T.cl_Floor,T.na_Floor_prices,(by simp),?_⟩
 rw[Nv]
 generalize e8:upd H7 p (.ins cFloor dx [("sizes",.ref z),("prices",.ref D)])=H8
 have b8:bQ H7 H8 p:=e8▸(bQ.of (au.refl H7)).up
 have aB:H8 p=some (.ins cFloor dx [("sizes",.ref z),("prices",.ref D)]):=e8▸ah
 have U:bQ H5 H8 p:=e8▸(b6.st s7).up
 refine st ?_
 refine⟨_,rfl,vi,_,rfl,.inl (bf.of (ko U d (λz=>nomatch z) bm)),λl nl=>?_⟩
 generalize e9:upd H8 l (.lst (ni g.vs))=H9
 have s9:au H8 H9:=e9▸(au.refl H8).upd nl
 have be:H9 l=some (.lst (ni g.vs)):=e9▸ah
 have Y:=s9 _ _ aB
 refine⟨_,rfl,p,cFloor,dx,_,rfl,Y,T.cl_Floor,T.na_Floor_vias,(by simp),?_⟩
 rw[NB]
 generalize eA:upd H9 p (.ins cFloor dx [("sizes",.ref z),("prices",.ref D),("vias",.ref l)])=HA
 have bA:bQ H9 HA p:=eA▸(bQ.of (au.refl H9)).up
 have av:HA p=some (.ins cFloor dx [("sizes",.ref z),("prices",.ref D),("vias",.ref l)]):=eA▸ah
 have W:bQ H5 HA p:=eA▸(U.st s9).up
 have ap:bQ H7 HA p:=eA▸(b8.st s9).up
 obtain⟨G,kA,tA⟩:=bd.bp W d
 have af:G.length=g.rs.length:=by rw[Paired.length tA,NG]
 refine st ?_
 refine⟨_,rfl,ro,rfl,⟨_,bf.of kA⟩,λD2 cP=>?_⟩
 refine da (K:=K) (xs:=G.map V.ref) (λi τ H'=>∃(x0:Option V) (es:List Addr),τ=[x0]/\au HA H'/\H' D2=some (.lst (es.map V.ref))/\FJ H' es (Ib (g.rs.take i))/\es.length=i) ⟨none,[],rfl,(au.refl HA).upd cP,ah,.nil,rfl⟩ (λi τ H' _ ⟨_,_,_,s,_⟩=>bf.of (s _ _ kA)) ?_ ?_
 ·rintro i x τ H' hx ⟨x0,es,rfl,s,hD,u,O⟩
  obtain⟨a,ha,rfl⟩:=fm hx
  obtain⟨c,hc,r⟩:=xE tA ha
  rw[Od] at hc
  obtain⟨n,hn,rfl⟩:=P9.mp hc
  have hi:i<G.length:=(Ov.mp ha).1
  refine gn (gA ?_)
  refine⟨_,rfl,(by show 2<=sizeLine;decide),λt nt=>?_⟩
  have j:t≠D2:=N6 (aD hD nt)
  refine⟨es.map V.ref,(by rw[ay (N6 j)];exact hD),by rw[NG];omega,_,es++[t],rfl,dI (s.upd nt) cP,by rw[ah,NW];rfl,?_,by simp[O]⟩
  rw[bO hn]
  unfold Ib
  rw[NW]
  exact EI (FJ.mono u (kx hD nt)) (.cons ⟨a,by rw[ay j,ah],kx hD nt _ _ (GM (s _ _ r))⟩ .nil)
 rintro τ HB ⟨bv,es,rfl,sB,aC,u,O⟩
 rw[NG,af,Ob] at u
 refine⟨D2,es,Ib g.rs,rfl,aC,u,λrd c8=>?_⟩
 rw[Je _ (by unfold Ib;rw[Ol];exact Qr.mpr (hg.rn.imp λn e=>n (DW (IB e))))]
 generalize eC:upd HB rd (.dT (Ib g.rs))=HC
 have sC:au HA HC:=sB.trans (eC▸(au.refl HB).upd c8)
 have bb:HC rd=some (.dT (Ib g.rs)):=eC▸ah
 have Z:=sC _ _ av
 refine⟨_,rfl,p,cFloor,dx,_,rfl,Z,T.cl_Floor,T.na_Floor_rocks,(by simp),?_⟩
 rw[Nf]
 generalize eD:upd HC p (.ins cFloor dx [("sizes",.ref z),("prices",.ref D),("vias",.ref l),("rocks",.ref rd)])=HD
 have bD:bQ HC HD p:=eD▸(bQ.of (au.refl HC)).up
 have a2:HD p=some (.ins cFloor dx [("sizes",.ref z),("prices",.ref D),("vias",.ref l),("rocks",.ref rd)]):=eD▸ah
 have N:bQ H5 HD p:=eD▸(W.st sC).up
 have a6:bQ H7 HD p:=eD▸(ap.st sC).up
 have bl:bQ H9 HD p:=eD▸(bA.st sC).up
 refine⟨_,rfl,td,rfl,.inr ⟨_,.inl (ko N d (λz=>nomatch z) bi),Gg hg,λt nt=>?_⟩⟩
 generalize eE:upd HD t (.dT (yR g.ts))=HE
 have sE:au HD HE:=eE▸(au.refl HD).upd nt
 have a3:HE t=some (.dT (yR g.ts)):=eE▸ah
 have ad:=sE _ _ a2
 refine⟨_,rfl,p,cFloor,dx,_,rfl,ad,T.cl_Floor,T.na_Floor_tolls,(by simp),?_⟩
 rw[Nj]
 refine q _ ((bQ.of s5).tr (N.st sE).up) ⟨dx,_,z,D,l,rd,t,⟨ah,by kernel_rfl,by kernel_rfl,by kernel_rfl,by kernel_rfl,by kernel_rfl,?_,?_,?_,?_,?_,?_⟩⟩
 ·intro m hm
  simp only[M5,NK,N3,or_false] at hm
  rcases hm with rfl|rfl|rfl|rfl|rfl<;>kernel_rfl
 ·exact ko (N.st sE).up d (λz=>nomatch z) ba
 ·exact am.bp (a6.st sE).up ac
 ·exact ko (bl.st sE).up Y (λz=>nomatch z) be
 ·exact ko (bD.st sE).up Z (λz=>nomatch z) bb
 ·exact ko ((bQ.of (au.refl HE)).up) ad (λz=>nomatch z) a3
theorem yO (cc:aG P w K mg base "check_sizes" 1 ["sizes", "prices", "vias"] (om cBadSize))(b8:aG P w K mg base "check_price" 1 ["price", "least"] (n_ cBadPrice))(b6:aG P w K mg base "check_prices" 2 ["prices", "vias", "tolls"] (kH cBadPrice))(b3:aG P w K mg base "check_inside" 2 ["sizes", "spot"] (je cOutOfFloor))(ce:fW P w K mg base cFloor "Floor" 3 ["self", "sizes", "prices", "vias", "rocks", "tolls"] (qj cFloor))(bD:aG P w K mg base "parts_of" 1 ["told", "kind"] ua)(b5:aG P w K mg base "marked" 3 ["boxes"] tD):fK P w K mg base 5 "floor_told" xg ["told"] (tf cFloor cBadSize cBadPrice cOutOfFloor):=by
 refine rd ["told", "sizes", "prices", "vias", "rocks", "tolls", "price", "one", "two", "mark"] λnd _ _ _ _ _ H vs Q E hr h=>?_
 obtain⟨l,us,z,W,rfl,hl,hp,hu,rb,q1,q2,q3,q4⟩:=h
 refine⟨_,(aj (aX 1 nd (aR aZ (aR aH (aw 0) ae) ae)) (aj (aX 2 nd (bt bD hr (aJ (aw 0) ar))) (aj (s_ 3 ["parts"] [] [] nd (bw (bt bD hr (aJ (aw 0) ar))) (dU 0) cM (aR (Fw (K:=K) rfl) (aw 0) ae)) (aj (s_ 4 ["one", "two"] [] [] nd (bw (bt bD hr (aJ (aw 0) ar))) (iW (K:=K) (n:=2) rfl rfl (aI (dU 0) (aI (dU 1) cC)) rfl rfl) cM (c9 (ax iG (aJ (aw 0) (aw 1))))) (aj (aX 5 nd (bt bD hr (aJ (aw 0) ar))) (aj (aF (fF cc hr di (ax (aw 1) (aJ (aw 2) (aw 3))))) (aj (aF (fF b6 hr di (ax (aw 2) (aJ (aw 3) mL)))) (aj (fz PassesOwn.leaving rfl (bw (aw 5)) (eF rfl (aI (cq 6 nd) (aI (cq 7 nd) (aI (cq 8 nd) cC)))) (aO (aF (fF b8 hr di (aJ (aw 6) ae))))) (aY (fz PassesOwn.leaving rfl (bw (ao eB (aw 4) (aw 5))) (eF rfl (aI (cq 9 nd) (aI (cq 7 nd) (aI (cq 8 nd) cC)))) (aY (aF (fF b3 hr di (aJ (aw 1) (aw 7)))) (aF (fF b3 hr di (aJ (aw 1) (aw 8)))))) (aN (qT ce (hr.mono (by decide)) (by rfl) gM (ax (aw 1) (ax (aw 2) (ax (aw 3) (aJ (dW (ux rfl) T.list_ (aE (bt b5 hr (aE (aw 4))))) (bt b5 hr (aE (aw 5)))))))))))))))))),?_⟩
 dsimp only[fo]
 have bA:sizeLine=2^24:=rfl
 have bz:gV z:=rb _ N7
 have lW:W.length<=100:=by have:=Paired.length hp;rw[NU] at this;lia
 obtain⟨v0,ct,rfl,h0⟩:∃v0 ct,us=v0::ct/\TD (λ_=>True) H v0 (.floor z):=by
  cases hp with
  |cons a b=>exact⟨_,_,rfl,a⟩
 obtain⟨t0,u0,rfl,bc,za,rfl,R⟩:=h0
 have up:∀{H'},au H H'->Paired (TD (λ_=>True) H') (.ref t0::ct) (.floor z::W):=λs=>Paired.mapP hp λ_ _ e=>e.same s
 refine cK (v:=.ref za) (bC (dG (aa rfl) aq (bf.of hl) (eg (j:=0) rfl)) aq (bY.of bc) (eg (j:=1) rfl)) ?_
 refine cG (bF (ag (aa rfl) (ag aq az)) ⟨l,_,_,1,rfl,by decide,hl,hp,by lia,λpr fC H1 s1 n1 d6 ep=>?_⟩)
 obtain⟨a5,rfl,a6⟩:=jd (f:=oM) (S:=P2 H1) (λr e=>by cases r<;>first|rfl|exact absurd rfl e) (λv r e h=>by
  cases r<;>first|cases e|skip
  obtain⟨t,rfl,h⟩:=h
  exact⟨_,_,rfl,rfl,h⟩) ep
 have bu:wt H1 pr (W.filterMap oM):=⟨a5,d6,a6⟩
 refine⟨_,rfl,l,_,_,2,rfl,by decide,s1 _ _ hl,up s1,by lia,λdt gg H2 s2 n2 cB dj=>⟨dt,rfl,⟨_,bf.of cB⟩,λD nD=>?_⟩⟩
 obtain⟨a2,rfl,I⟩:=jd (f:=lQ) (S:=λa (n:Nat)=>H2 a=some (.tup [.int (n:Nat)])) (λr e=>by cases r<;>first|rfl|exact absurd rfl e) (λv r e h=>by
  cases r<;>first|cases e|skip
  obtain⟨t,rfl,h⟩:=h
  exact⟨_,_,rfl,rfl,h⟩) dj
 have lv:(W.filterMap lQ).length<=100:=NP (QH _ _) lW
 have I:Paired (λa (n:Nat)=>H2 a=some (.tup [.int (n:Nat)])) a2 (W.filterMap lQ):=I
 refine da (K:=K) (xs:=a2.map V.ref) (λi τ H'=>∃x0:Option V,τ=[x0]/\H'=upd H2 D (.lst (ni ((W.filterMap lQ).take i)))) ⟨none,rfl,rfl⟩ (λi τ H' _ ⟨_,_,e⟩=>bf.of (by rw[e,ay (aD cB nD)];exact cB)) ?_ ?_
 ·rintro i x τ H' hx ⟨x0,rfl,rfl⟩
  obtain⟨a,ha,rfl⟩:=fm hx
  obtain⟨n,hn,e⟩:=bK I ha
  have hi:=bU hn
  refine gn (gA ?_)
  refine(bC (K:=K) (aa rfl) aq (bY.of (((au.refl H2).upd nD) _ _ e)) (eg (j:=0) rfl)) _ ⟨_,ah,by rw[NG,N_];lia,_,rfl,?_⟩
  rw[eo,bO hn];unfold ni;rw[NW];rfl
 rintro τ H' ⟨x0,rfl,rfl⟩
 rw[NG,Paired.length I,Ob]
 generalize k3:upd H2 D (.lst (ni (W.filterMap lQ)))=H3
 have aB:au H1 H3:=s2.trans (k3▸(au.refl H2).upd nD)
 have ai:H3 D=some (.lst (ni (W.filterMap lQ))):=k3▸ah
 have s3:=s1.trans aB
 refine⟨_,rfl,l,_,_,3,rfl,by decide,s3 _ _ hl,up s3,by lia,λrk f5 H4 s4 n4 cS d0=>⟨rk,rfl,⟨_,bf.of cS⟩,λD2 c6=>?_⟩⟩
 obtain⟨ap,rfl,O⟩:=jd (f:=vq) (S:=λa b=>b.1=.bl true/\∃x y,H4 a=some (.tup [.ref x,.ref y])/\A3 H4 x b.2.1/\A3 H4 y b.2.2) (λr e=>by cases r<;>first|rfl|exact absurd rfl e) (λv r e h=>by
  cases r<;>first|cases e|skip
  obtain⟨t,a,b,rfl,h⟩:=h
  exact⟨_,_,rfl,rfl,rfl,a,b,h⟩) d0
 have O:Paired (λa b=>b.1=.bl true/\∃x y,H4 a=some (.tup [.ref x,.ref y])/\A3 H4 x b.2.1/\A3 H4 y b.2.2) ap (W.filterMap vq):=O
 have lr:(W.filterMap vq).length<=100:=NP (QH _ _) lW
 refine da (K:=K) (xs:=ap.map V.ref) (λi τ H'=>∃(x0 x1:Option V) (ws:List V),τ=[x0,x1]/\au H4 H'/\H' D2=some (.lst ws)/\Paired (MB H') ws ((W.filterMap vq).take i)/\ws.length=i) ⟨none,none,[],rfl,(au.refl H4).upd c6,ah,.nil,rfl⟩ (λi τ H' _ ⟨_,_,_,_,s,_⟩=>bf.of (s _ _ cS)) ?_ ?_
 ·rintro i x τ H' hx ⟨x0,x1,ws,rfl,s,hD,hw,bn⟩
  obtain⟨a,ha,rfl⟩:=fm hx
  obtain⟨b,hb,eb,bx,F,e1,e2,e3⟩:=bK O ha
  have hi:=bU hb
  refine⟨a,_,rfl,bY.of (s _ _ e1),rfl,?_⟩
  refine⟨_,_,rfl,gn ?_⟩
  refine⟨_,_,rfl,gn ?_⟩
  refine⟨rfl,?_⟩
  refine gA ?_
  refine⟨_,rfl,_,rfl,(by show 3<=sizeLine;decide),λt nt=>?_⟩
  have av:t≠D2:=N6 (aD hD nt)
  refine⟨ws,(by rw[ay (N6 av)];exact hD),by lia,_,_,ws++[.ref t],rfl,dI (s.upd nt) c6,ah,?_,by simp[bn]⟩
  rw[bO hb]
  have kt:∀b' xs,H' b'=some (.tup xs)->upd (upd H' t (.tup [.bl true,.ref bx,.ref F])) D2 (.lst (ws++[.ref t])) b'=some (.tup xs):=kx hD nt
  refine dy ⟨t,bx,F,rfl,by rw[eb,ay av,ah],kt _ _ (s _ _ e2),kt _ _ (s _ _ e3)⟩ (Paired.mapP hw ?_)
  rintro _ _ ⟨t',x',y',e,f1,f2,f3⟩
  exact⟨t',x',y',e,kt _ _ f1,kt _ _ f2,kt _ _ f3⟩
 rintro τ H5 ⟨x0,x1,A,rfl,Y,ba,a3,_⟩
 rw[NG,Paired.length O,Ob] at a3
 have s5:=s3.trans (s4.trans Y)
 refine cG (bF (ag (aa rfl) (ag aq az)) ⟨l,_,_,4,rfl,by decide,s5 _ _ hl,up s5,by lia,λtl hd H6 ca n6 ec d3=>?_⟩)
 obtain⟨u,rfl,ac⟩:=jd (f:=rH) (S:=λa b=>MB H6 (.ref a) b) (λr e=>by cases r<;>first|rfl|exact absurd rfl e) (λv r e h=>by
  cases r<;>first|cases e|skip
  obtain⟨t,a,b,rfl,h⟩:=h
  exact⟨_,_,rfl,rfl,t,a,b,rfl,h⟩) d3
 have ac:Paired (λa b=>MB H6 (.ref a) b) u (W.filterMap rH):=ac
 have s6:=s5.trans ca
 have aC:au H1 H6:=aB.trans ((s4.trans Y).trans ca)
 have af:au H3 H6:=(s4.trans Y).trans ca
 have G:wt H6 pr (W.filterMap oM):=bu.up (λ_ e=>aC _ _ e) (λ_ _ e=>aC _ _ e)
 obtain⟨a7,be,bh⟩:=id G
 have e1:oK z (a7.map V.ref).length (ni (W.filterMap lQ)).length=mj z W:=by unfold mj;rw[NG,Paired.length bh,NG]
 refine iT (jO (ag (aa rfl) (ag (aa rfl) (ag (aa rfl) az))) ⟨za,pr,D,z,_,_,rfl,s6 _ _ R,bz,be,af _ _ ai,λo1 H7 s7=>?_,λo1 H7 s7=>q1 (e1▸o1) _ (s6.trans s7)⟩)
 rw[e1] at o1
 refine⟨_,rfl,_,rfl,λd nd=>?_⟩
 have B:=s7.upd (o:=.dT []) nd
 have bl:∀p∈W.filterMap oM,Bn p.1/\Bn p.2:=λb hb=>by
  obtain⟨r,hr,e⟩:=Oy.mp hb
  cases r<;>cases e
  exact rb _ (NV _ hr)
 have bv:∀v∈W.filterMap lQ,Bn v:=λb hb=>by
  obtain⟨r,hr,e⟩:=Oy.mp hb
  cases r<;>cases e
  exact rb _ (NV _ hr)
 refine⟨pr,D,d,W.filterMap oM,W.filterMap lQ,[],rfl,G.up (λ_ e=>B _ _ e) (λ_ _ e=>B _ _ e),bl,B _ _ (af _ _ ai),bv,ah,(λ_ h=>nomatch h),λo2 H8 s8=>?_,λo2 H8 s8=>q2 o1 (by unfold pM;rw[o2];rfl) _ (s6.trans (B.trans s8))⟩
 have m:au H6 H8:=B.trans s8
 have M:=m _ _ ec
 have a1:=m _ _ (ca _ _ ba)
 have C:Paired (MB H8) (u.map V.ref) (W.filterMap rH):=uZ (Paired.mapP ac λ_ _ e=>e.same m)
 have Z:Paired (MB H8) A (W.filterMap vq):=Paired.mapP a3 λ_ _ e=>e.same (ca.trans m)
 have lt:(W.filterMap rH).length<=100:=NP (QH _ _) lW
 have bd:∀(V:List Rw) (i:Nat) b,(V.filterMap rH)[i]?=some b->∃n:Nat,b.1=.int (n:Nat)/\(V.filterMap vO)[i]?=some n:=by
  intro V
  induction V with
  |nil=>intro i b h;cases h
  |cons r V ih=>
   intro i b h
   cases r with
   |toll n p q=>
    cases i with
    |zero=>cases h;exact⟨n,rfl,rfl⟩
    |succ i=>exact ih i b h
   |_=>exact ih i b h
 have a8:∀n∈W.filterMap vO,Bn n:=λb hb=>by
  obtain⟨r,hr,e⟩:=Oy.mp hb
  cases r<;>cases e
  exact(rb _ (NV _ hr)).1
 have bm:(W.filterMap vO).length=(W.filterMap rH).length:=by
  have:∀V:List Rw,(V.filterMap vO).length=(V.filterMap rH).length:=by
   intro V
   induction V with
   |nil=>rfl
   |cons r V ih=>cases r<;>simp[OB,vO,rH,ih]
  exact this W
 refine⟨_,rfl,tl,rfl,⟨_,bf.of M⟩,?_⟩
 refine cZ (K:=K) (xs:=u.map V.ref) (λi σ H'=>∃x6 x7 x8:Option V,σ=[some (.ref l),some (.ref za),some (.ref pr),some (.ref D),some (.ref D2),some (.ref tl),x6,x7,x8,none]/\H8=H'/\((W.filterMap vO).take i).all (fY 0)=true) ⟨none,none,none,rfl,rfl,rfl⟩ (λi σ H' _ ⟨_,_,_,_,e,_⟩=>e▸bf.of M) ?_ ?_
 ·rintro i x σ H' hx ⟨x6,x7,x8,rfl,rfl,ha⟩
  obtain⟨b,hb,t,bx,F,rfl,e1,_,_⟩:=bK C hx
  obtain⟨n,en,hn⟩:=bd W i b hb
  have hm:=Oi hn
  rw[en] at e1
  refine⟨t,_,rfl,bY.of e1,rfl,_,_,rfl,_,_,rfl,_,_,rfl,rfl,?_⟩
  exact⟨_,rfl,n,0,rfl,a8 n hm,(show 0<10^20 by decide),λo=>⟨_,_,_,rfl,rfl,gR ha hn o⟩,λo=>q2 o1 (by unfold pM;rw[jJ hm o,Om]) _ (s6.trans m)⟩
 rintro σ H' ⟨x6,x7,x8,rfl,rfl,ha⟩
 rw[NG,<-NG (f:=V.ref),Paired.length C,<-bm,Ob] at ha
 have U:pM W=true:=by unfold pM;rw[o2,ha];rfl
 refine⟨_,rfl,_,rfl,D2,tl,_,_,rfl,rfl,a1,M,by rw[Paired.length Z,Paired.length C];lia,λc nc=>?_⟩
 generalize k9:upd H8 c (.lst (A++u.map V.ref))=H9
 have g:au H8 H9:=k9▸(au.refl H8).upd nc
 have an:H9 c=some (.lst (A++u.map V.ref)):=k9▸ah
 have s9:au H H9:=s6.trans (m.trans g)
 have am:Paired (MB H9) (A++u.map V.ref) (W.filterMap vq++W.filterMap rH):=jA (Paired.mapP Z λ_ _ e=>e.same g) (Paired.mapP C λ_ _ e=>e.same g)
 refine⟨c,rfl,⟨_,bf.of an⟩,?_⟩
 refine cZ (K:=K) (xs:=A++u.map V.ref) (λi σ H'=>∃x6 x7 x8 x9:Option V,σ=[some (.ref l),some (.ref za),some (.ref pr),some (.ref D),some (.ref D2),some (.ref tl),x6,x7,x8,x9]/\H9=H'/\((W.filterMap vq++W.filterMap rH).take i).all (Ai z)=true) ⟨_,_,_,_,rfl,rfl,rfl⟩ (λi σ H' _ ⟨_,_,_,_,_,e,_⟩=>e▸bf.of an) ?_ ?_
 ·rintro i x σ H' hx ⟨x6,x7,x8,x9,rfl,rfl,J⟩
  obtain⟨b,hb,t,bx,F,rfl,e1,e2,e3⟩:=bK am hx
  have hm:=Oi hb
  obtain⟨c1,c2⟩:gV b.2.1/\gV b.2.2:=by
   rcases Ot.mp hm with h|h
   ·obtain⟨r,hr,e⟩:=Oy.mp h
    cases r<;>cases e
    exact rb _ (NV _ hr)
   ·obtain⟨r,hr,e⟩:=Oy.mp h
    cases r<;>cases e
    exact(rb _ (NV _ hr)).2
  refine⟨t,_,rfl,bY.of e1,rfl,_,_,rfl,_,_,rfl,_,_,rfl,rfl,?_⟩
  refine⟨_,rfl,_,rfl,za,bx,z,b.2.1,rfl,s9 _ _ R,e2,bz,c1,λi1=>?_,λi1=>q3 o1 U (by unfold xq;exact jJ hm (by unfold Ai;rw[decide_eq_false i1];rfl)) _ s9⟩
  exact⟨_,rfl,_,rfl,za,F,z,b.2.2,rfl,s9 _ _ R,e3,bz,c2,λi2=>⟨_,_,_,_,rfl,rfl,gR J hb (by unfold Ai;rw[decide_eq_true i1,decide_eq_true i2];rfl)⟩,λi2=>q3 o1 U (by unfold xq;exact jJ hm (by unfold Ai;rw[decide_eq_false i2,Om])) _ s9⟩
 rintro σ H' ⟨x6,x7,x8,x9,rfl,rfl,J⟩
 rw[Paired.length am,Ob] at J
 have o3:xq z W=true:=J
 obtain⟨p,q,n,er,et,en,q4⟩:=q4 o1 U o3
 have fd:=GE o1 U o3 er et en
 have ir:In z p:=fd.ri p (NR.mpr rfl)
 have it:In z q:=(fd.ti (q,n) (NR.mpr rfl)).1
 have sz:Sz z:=fd.z
 have a4:=m.trans g
 refine⟨_,rfl,_,rfl,_,rfl,_,rfl,D2,A,W.filterMap vq,rfl,g _ _ a1,Paired.mapP Z (λ_ _ e=>e.same g),λb hb=>by rw[er,NR] at hb;rw[hb];exact⟨kf sz ir,kf sz ir⟩,by lia,λd1 HA sA nA c0=>?_⟩
 rw[er,BY] at c0
 refine⟨d1,_,rfl,c0,trivial,trivial,by show 1<=1000;decide,λlr ys ej hy hk=>?_⟩
 obtain⟨as,rfl,bi⟩:=GO (H:=HA) [p] ys (by rw[hy];rfl) λi y hy=>by
  obtain⟨v,k,b,e,rfl,hb⟩:=hk i y hy
  have e:(([p].map λp=>(iK (t3 p),V.bl true)):Kv)[i]?=some (k,v):=e
  rw[Od] at e
  obtain⟨p,hp,e2⟩:=P9.mp e
  cases e2
  unfold iK at hb
  rw[i7] at hb
  exact⟨p,b,hp,rfl,hb⟩
 generalize kB:upd HA lr (.lst (as.map V.ref))=HB
 have a0:au HA HB:=kB▸(au.refl HA).upd ej
 have bb:AL HB lr [p]:=⟨as,kB▸ah,dw.same bi a0⟩
 have ad:=sA.trans a0
 refine⟨_,rfl,tl,_,W.filterMap rH,rfl,ad _ _ (g _ _ M),Paired.mapP C (λ_ _ e=>e.same (g.trans ad)),λb hb=>by rw[et,NR] at hb;rw[hb];exact⟨kf sz it,kf sz it⟩,by lia,λd2 HC sC nC cX=>?_⟩
 rw[et,BY] at cX
 have br:=ad.trans sC
 have X:=a4.trans br
 intro pf dx np eq ne
 have sm:au HC (upd (upd HC dx (.own pf)) pf (.ins cFloor dx [])):=i_ np eq
 have N:=X.trans sm
 refine⟨pf,dx,za,pr,D,lr,d2,JI z W p q n,rfl,ah,fd,(show 1<=1000 by decide),N _ _ (s6 _ _ R),G.up (λ_ e=>N _ _ e) (λ_ _ e=>N _ _ e),N _ _ (af _ _ ai),bb.same (sC.trans sm),sm _ _ cX,λH' b4 hF=>⟨rfl,?_⟩⟩
 have sF:au H H':=(s6.trans X).trans (bQ.same sm np b4)
 exact q4 pf H' sF (jM (s6.trans X) np) hF
theorem E7:fK P w K mg base 1 "is_name" Gu ["name"] DB:=by
 refine rd ["name"] λB _ _ _ _ _ H vs Q E A h=>?_
 obtain⟨x,rfl,p,q⟩:=h
 refine⟨_,(aY (cL (fR (eG (eK dJ dJ ae (dn rh T.len_ (aE (aw 0))) (b_ (by rfl) (by exact T.g_MOST_SIGNS)))) (eU (j_ j8 (aR DC (aw 0) ae) (b_ (by rfl) (by exact T.g_LETTERS)) (by with_unfolding_all rfl)))).pt (aN iG)) (aN (dn (AN rfl) T.all_ (aE (gU ["sign"] [] [] (AE (aw 0)) (dU 0) cM (Kg (mD pR (aw 0) (b_ (by rfl) (by exact T.g_LETTERS)) (by with_unfolding_all rfl)) (vH (mD pR (aw 0) (b_ (by rfl) (by exact T.g_FIGURES)) (by with_unfolding_all rfl))))))))),?_⟩
 dsimp only[fo]
 have l:sizeLine=2^24:=rfl
 have g:=p.2
 by_cases hn:1<=x.length/\x.length<=12
 ·obtain⟨c,r,f⟩:=E9 hn.1
  refine cI (b:=!decide (c∈k_)) (u7 (Ew (fO (aA (cW aq (xi (aa rfl) (by lia)) aq)) ?_)) (aA (pP (vL (c:=c) (aa rfl) aq (by lia) (by rw[f];exact eg (j:=0) rfl)) aq))) (λe=>?_) (λe=>?_)
  ·rw[decide_eq_true (by lia),decide_eq_true (by lia)];rfl
  ·have m:=q H (au.refl H)
   rw[rN f hn.2,show decide (c∈k_)=false by simpa using e] at m
   exact dF aq m
  have s:decide (c∈k_)=true:=by simpa using e
  refine⟨_,rfl,x,rfl,p.1,λD u=>?_⟩
  refine Df (λi o H'=>∃n:Option V,o=[n]/\H'=upd H D (.lst ((((cp x).take i).map fS).map V.bl))) ⟨none,rfl,rfl⟩ ?_ ?_
  ·rintro i d o H2 y ⟨n,rfl,rfl⟩
   refine gn (gA ?_)
   refine(Km (CP (c:=d) (aa rfl) aq) λ_=>CP (c:=d) (aa rfl) aq) _ ⟨_,ah,by rw[NG,NG,N_,dS];lia,_,rfl,?_⟩
   rw[eo,bO y,NW,NW];rfl
  ·rintro o H2 ⟨n,rfl,rfl⟩
   refine⟨D,((cp x).take x.length).map fS,rfl,bf.of ah,?_⟩
   have m:=q (upd H D (.lst ((((cp x).take x.length).map fS).map V.bl))) ((au.refl H).upd u)
   rw[rN f hn.2,s] at m
   have v:(((cp x).take x.length).map fS).all id=(cp x).all fS:=by rw[<-dS,Ob,List.all_map];rfl
   rw[v]
   exact m
 ·have m:=q H (au.refl H)
  rw[oR hn] at m
  refine cI (b:=true) (fO (iO (a:=true) (b:=true) (fO (fj (aA (cW aq (xi (aa rfl) (by lia)) aq))) ?_) λz=>nomatch z) rfl) (λ_=>dF aq m) (λz=>nomatch z)
  by_cases h1:1<=x.length
  ·rw[decide_eq_true (by lia),decide_eq_false (by lia)];rfl
  ·rw[decide_eq_false (by lia)];rfl
theorem yU (s:K.In base):fK P w K mg base 1 "check_unlike" xH ["spots"] (mJ cBadThing):=by
 refine rd ["spots"] λm _ _ _ _ _ H vs Q E D h=>?_
 obtain⟨l,ps,rfl,⟨as,o,r⟩,G,i,I,x⟩:=h
 refine⟨_,(aO (cL (bP iq (dn uW T.len_ (aE (dW (zC rfl D) T.set_ (aE (aw 0))))) (dn bS T.len_ (aE (aw 0)))) (cY (eQ s T.eBadThing.bd T.eBadThing.ex) Oz rfl (by rfl) dz (aE ar)))),?_⟩
 dsimp only[fo]
 have len:as.length=(ps.map t3).length:=Paired.length r
 have j:(ps.map t3).length<=4:=by rw[NG];exact i
 refine tM ⟨_,rfl,l,as,ps.map t3,rfl,bf.of o,r,by lia,λc B d u e=>?_,λp n q C F=>⟨p,n,rfl,ah,by lia,_,rfl,_,_,rfl,.inl ⟨_,bf.of (by rw[ay (aD o q)];exact o),rfl⟩,rfl,_,rfl,?_⟩⟩
 ·obtain⟨a,v,rfl⟩:=N0.mp B
  obtain⟨b,A,rfl⟩:=N0.mp u
  rw[G a v b A e]
 have y:=C (dd (ps.map t3)) (nJ _) (qC _)
 have s1:au H (upd H p (Kc p n)):=(au.refl H).upd q
 revert s1
 generalize upd H p (Kc p n)=H1
 intro s1
 by_cases m:ps.Nodup
 ·have e:(!decide (V.int (n:Nat)=V.int ((as.map V.ref).length:Nat)))=false:=by
   rw[NG,len,y,(uN _).mpr (GU.mpr m)];simp
  rw[e]
  exact iC (I m _ s1)
 ·have e:(!decide (V.int (n:Nat)=V.int ((as.map V.ref).length:Nat)))=true:=by
   have g:n≠(ps.map t3).length:=λz=>m (GU.mp ((uN _).mp (by lia)))
   rw[NG (f:=V.ref),len,decide_eq_false (λz=>g (by injection z with z;lia))];rfl
  rw[e]
  exact gZ (iV (x m _ s1))
theorem A_(F:Bz K "__init__" "Thing.__init__" kQ f fd)(g:K.In base)(dr:aG P w K mg base "is_name" 1 ["name"] DB):gr P w K mg base 2 f fd ["self", "name", "half", "room"] (my cNet cBundle cBadThing):=by
 have m:eP ["self", "name", "half", "room"] ["self", "name", "half", "room"] (aS kQ):=⟨rfl,rfl,rfl,by decide+kernel,rfl,by decide+kernel,by decide+kernel⟩
 have I:=m.nd
 refine F.ok m (λvs H Q E h=>by first|(cases h;subst_vars;rfl)|repeat (first|(obtain⟨rfl,_⟩:=h;rfl)|(obtain⟨_,h⟩:=h))) (λv A outer s H vs Q E d h=>?_)
 obtain⟨p,C,dx,x,h,r,rfl,n,D,l,B,y,q,i⟩:=h
 have a:=l.2
 refine⟨_,(aj (cL (eG (gG (bt dr d (aE (aw 1))))) (cY (eQ g T.eBadThing.bd T.eBadThing.ex) Oz rfl (by rfl) dz (aE (eO (fq.cons (Fx d (aw 1)) (fq.cons (dk ar) fq.nil)))))) (aj (cL (eG (eK dJ dJ ae (aw 2) (b_ (by rfl) (by exact T.g_MOST_HALF)))) (cY (eQ g T.eBadThing.bd T.eBadThing.ex) Oz rfl (by rfl) dz (aE (eO (fq.cons (dk ar) (fq.cons (dO d (aw 2)) (fq.cons (dk ar) (fq.cons (dO d (b_ (by rfl) (by exact T.g_MOST_HALF))) fq.nil)))))))) (aj (cL (eG (eK dJ dJ ae (aw 3) (b_ (by rfl) (by exact T.g_MOST_ROOM)))) (cY (eQ g T.eBadThing.bd T.eBadThing.ex) Oz rfl (by rfl) dz (aE (eO (fq.cons (dk ar) (fq.cons (dO d (aw 3)) (fq.cons (dk ar) (fq.cons (dO d (b_ (by rfl) (by exact T.g_MOST_ROOM))) fq.nil)))))))) (aj (fw (aw 0) (aw 1) rfl) (aY (fw (aw 0) (aw 2) rfl) (fw (aw 0) (aw 3) rfl)))))),?_⟩
 dsimp only[fo]
 have c:mF K C/\bL K C "name" /\bL K C "half" /\bL K C "room" :=by rcases D with rfl|rfl<;>first|exact⟨T.cl_Net,T.na_Net_name,T.na_Net_half,T.na_Net_room⟩|exact⟨T.cl_Bundle,T.na_Bundle_name,T.na_Bundle_half,T.na_Bundle_room⟩
 refine qy ⟨_,rfl,x,rfl,l,λH1 s1=>⟨_,rfl,?_⟩⟩
 cases e0:kh x with
 |false=>
  refine gZ ?_
  exact dR (t:=dv) ⟨⟨_,rfl,rfl,x,rfl,E6 l.1,by lia⟩,trivial,trivial⟩ (i (by unfold kR;rw[e0];rfl) _ (bQ.of s1))
 |true=>
 refine iC ?_
 refine cI (fj (aA (cW aq (aa rfl) aq))) (λe=>?_) (λe=>?_)
 ·refine dR (t:=dv) ⟨trivial,⟨_,rfl,rfl,.int _ (JM B)⟩,trivial,⟨rfl,.int _ (by decide)⟩,trivial⟩ (i ?_ _ (bQ.of s1))
  unfold kR;rw[decide_eq_false (p:=h<=2) (λz=>by simp at e;lia),Pz,Om]
 have G:h<=2:=by simp at e;lia
 refine cI (fj (aA (cW aq (aa rfl) aq))) (λe=>?_) (λe=>?_)
 ·refine dR (t:=dv) ⟨trivial,⟨_,rfl,rfl,.int _ (JM y)⟩,trivial,⟨rfl,.int _ (by decide)⟩,trivial⟩ (i ?_ _ (bQ.of s1))
  unfold kR;rw[decide_eq_false (p:=r<=3) (λz=>by simp at e;lia),Om,Om]
 have u:r<=3:=by simp at e;lia
 refine⟨_,rfl,_,rfl,p,C,dx,[],rfl,s1 _ _ n,c.1,c.2.1,(by decide),?_⟩
 refine⟨_,rfl,_,rfl,p,C,dx,_,rfl,ah,c.1,c.2.2.1,Qo (bN _ _ _) (by decide),?_⟩
 refine⟨_,rfl,_,rfl,p,C,dx,_,rfl,ah,c.1,c.2.2.2,Qo (NP (bN _ _ _) (Pu (bN _ _ _))) (by decide),?_⟩
 refine q (by unfold kR;rw[e0,decide_eq_true G,decide_eq_true u];rfl) _ _ (λb o j e=>?_) ah ⟨NP (NP (bN _ _ _) (Pu (NP (bN _ _ _) (Pu (bN _ _ _))))) (by decide),?_,?_,?_,?_⟩ (NP (bN _ _ _) (Pu (NP (bN _ _ _) (Pu (bN _ _ _)))))
 ·rw[ay j,ay j,ay j];exact s1 _ _ e
 ·rw[aQ,if_neg (by decide+kernel),aQ,if_neg (by decide+kernel),aQ,if_pos rfl]
 ·rw[aQ,if_neg (by decide+kernel),aQ,if_pos rfl]
 ·rw[aQ,if_pos rfl]
 ·rw[aQ,if_neg (by decide+kernel),aQ,if_neg (by decide+kernel),aQ,if_neg (by decide+kernel)];rfl
theorem CN(F:zh K "__init__" "Net.__init__" ik f fd)(D:K.In base)(g:aG P w K mg base "check_unlike" 1 ["spots"] (mJ cBadThing))(i:hZ P w K mg base cThing "__init__" 2 ["self", "name", "half", "room"] (my cNet cBundle cBadThing)):gr P w K mg base 3 f fd ["self", "name", "pins", "half", "room"] (qH cNet cBadThing):=by
 have z:eP ["self", "name", "pins", "half", "room"] ["self", "name", "pins", "half", "room"] (aS ik):=⟨rfl,rfl,rfl,by decide+kernel,rfl,by decide+kernel,by decide+kernel⟩
 have m:=z.nd
 refine F.ok z (λvs H Q E h=>by first|(cases h;subst_vars;rfl)|repeat (first|(obtain⟨rfl,_⟩:=h;rfl)|(obtain⟨_,h⟩:=h))) (λJ A outer s H vs Q E u h=>?_)
 obtain⟨p,dx,l,x,h,r,ps,rfl,y,G,I,d,M,S,N,q,n⟩:=h
 refine⟨_,(aj (aF (we (mX (by rfl) T.mg_Thing) i (u.mono (by decide)) di (ax (aw 0) (ax (aw 1) (aJ (aw 3) (aw 4)))))) (aj (cL (eG (eK dJ dJ ae (dn bS T.len_ (aE (aw 2))) (b_ (by rfl) (by exact T.g_MOST_PINS)))) (cY (eQ D T.eBadThing.bd T.eBadThing.ex) Oz rfl (by rfl) dz (aE (eO (fq.cons (dk ar) (fq.cons (dO u (b_ (by rfl) (by exact T.g_MOST_PINS))) (fq.cons (dk ar) fq.nil))))))) (aY (aF (fF g u di (aE (aw 2)))) (fw (aw 0) (dW eM T.tuple_ (aE (aw 2))) rfl)))),?_⟩
 dsimp only[fo]
 refine⟨_,rfl,_,rfl,_,rfl,_,rfl,p,cNet,dx,x,h,r,rfl,y,.inl rfl,M,S,N,λv H1 fs j o bs R=>?_,λv H1 j=>n (by unfold jm;rw[v];rfl) _ j⟩
 have C:=G.bp j y
 obtain⟨as,b,a⟩:=C
 have len:as.length=ps.length:=by rw[Paired.length a,NG]
 refine st ?_
 refine cI (fj (aA (cW aq (dB (ag (aa rfl) az) λQ' O=>⟨_,_,rfl,.inl ⟨_,bf.of b,rfl⟩,O⟩) aq))) (λe=>?_) (λe=>?_)
 ·refine dR (t:=dv) ⟨trivial,⟨rfl,.int _ (by decide)⟩,trivial,trivial⟩ (n ?_ _ j)
  rw[NG] at e
  unfold jm
  rw[show(decide (2<=ps.length)&&decide (ps.length<=6))=false by simp at e|-;lia,Pz,Om]
 rw[NG] at e
 have B:2<=ps.length/\ps.length<=6:=by simp at e;lia
 refine⟨_,rfl,l,ps,rfl,⟨as,b,a⟩,I,by lia,λm H2 s2=>?_,λm H2 s2=>n (by unfold jm;rw[decide_eq_false m,Om,Om]) _ (j.st s2)⟩
 refine⟨_,rfl,l,_,rfl,.inl ⟨bf.of (s2 _ _ b),λt nt=>?_⟩⟩
 have tt:=vV (l:=l) nt (dw.same a s2)
 generalize U:upd H2 t (.tup (as.map V.ref))=H3 at tt
 have s3:au H1 H3:=s2.trans (U▸(au.refl H2).upd nt)
 have c:=s3 _ _ o
 refine⟨_,rfl,p,cNet,dx,fs,rfl,c,T.cl_Net,T.na_Net_pins,by have:=bs.few;lia,?_⟩
 exact q (by unfold jm;rw[v,decide_eq_true B.1,decide_eq_true B.2,decide_eq_true m];rfl) _ (j.st s3).up ⟨dx,_,t,ah,bs.put (by lia) (by decide+kernel) (by decide+kernel) (by decide+kernel) (by decide+kernel),by rw[aQ,if_pos rfl],CS tt (bQ.of (au.refl H3)).up c⟩
theorem Dd(F:zh K "__init__" "Bundle.__init__" hU f fd)(hB:K.In base)(I:aG P w K mg base "check_unlike" 1 ["spots"] (mJ cBadThing))(J:hZ P w K mg base cThing "__init__" 2 ["self", "name", "half", "room"] (my cNet cBundle cBadThing)):gr P w K mg base 3 f fd ["self", "name", "starts", "goals", "room"] (rD cBundle cBadThing):=by
 have sc:eP ["self", "name", "starts", "goals", "room"] ["self", "name", "starts", "goals", "room"] (aS hU):=⟨rfl,rfl,rfl,by decide+kernel,rfl,by decide+kernel,by decide+kernel⟩
 have X:=sc.nd
 refine F.ok sc (λvs H Q E h=>by first|(cases h;subst_vars;rfl)|repeat (first|(obtain⟨rfl,_⟩:=h;rfl)|(obtain⟨_,h⟩:=h))) (λa4 A outer s H vs Q E Y h=>?_)
 obtain⟨p,dx,l,m,x,r,ps,N,rfl,Z,hl,hm,hs,D,hA,br,q,W⟩:=h
 refine⟨_,(aj (aF (we (mX (by rfl) T.mg_Thing) J (Y.mono (by decide)) di (ax (aw 0) (ax (aw 1) (aJ ae (aw 4)))))) (aj (cL (eG (eK dJ dJ ae (dn bS T.len_ (aE (aw 2))) (b_ (by rfl) (by exact T.g_MOST_STARTS)))) (cY (eQ hB T.eBadThing.bd T.eBadThing.ex) Oz rfl (by rfl) dz (aE (eO (fq.cons (dk ar) (fq.cons (dO Y (b_ (by rfl) (by exact T.g_MOST_STARTS))) (fq.cons (dk ar) fq.nil))))))) (aj (cL (eG (eK dJ dJ (dn bS T.len_ (aE (aw 2))) (dn bS T.len_ (aE (aw 3))) (b_ (by rfl) (by exact T.g_MOST_GOALS)))) (cY (eQ hB T.eBadThing.bd T.eBadThing.ex) Oz rfl (by rfl) dz (aE (eO (fq.cons (dk ar) (fq.cons (dO Y (b_ (by rfl) (by exact T.g_MOST_GOALS))) fq.nil)))))) (aj (aF (fF I Y di (aE (ao eB (aw 2) (aw 3))))) (aY (fw (aw 0) (dW eM T.tuple_ (aE (aw 2))) rfl) (fw (aw 0) (dW eM T.tuple_ (aE (aw 3))) rfl)))))),?_⟩
 dsimp only[fo]
 have G:sizeLine=2^24:=rfl
 refine⟨_,rfl,_,rfl,_,rfl,p,cBundle,dx,x,0,r,rfl,Z,.inr rfl,hA,(show 0<10^20 by decide),br,λe0 H1 fs M O S a8=>?_,λe0 H1 M=>W (by unfold f_;rw[e0];rfl) _ M⟩
 have a1:=hl.bp M Z
 have a2:=hm.bp M Z
 obtain⟨as,a,d⟩:=a1
 obtain⟨bs,b,g⟩:=a2
 have len:as.length=ps.length:=by rw[Paired.length d,NG]
 have C:bs.length=N.length:=by rw[Paired.length g,NG]
 refine st ?_
 refine cI (fj (aA (cW aq (dB (ag (aa rfl) az) λQ' U=>⟨_,_,rfl,.inl ⟨_,bf.of a,rfl⟩,U⟩) aq))) (λe=>?_) (λe=>?_)
 ·refine dR (t:=dv) ⟨trivial,⟨rfl,.int _ (by decide)⟩,trivial,trivial⟩ (W ?_ _ M)
  rw[NG] at e
  unfold f_
  rw[show(decide (1<=ps.length)&&decide (ps.length<=6))=false by simp at e|-;lia,Pz,Om]
 rw[NG] at e
 have e1:1<=ps.length/\ps.length<=6:=by simp at e;lia
 refine cI (fj (aA (cW (dB (ag (aa rfl) az) λQ' U=>⟨_,_,rfl,.inl ⟨_,bf.of a,rfl⟩,U⟩) (dB (ag (aa rfl) az) λQ' U=>⟨_,_,rfl,.inl ⟨_,bf.of b,rfl⟩,U⟩) aq))) (λe=>?_) (λe=>?_)
 ·refine dR (t:=dv) ⟨trivial,⟨rfl,.int _ (by decide)⟩,trivial⟩ (W ?_ _ M)
  rw[NG,NG] at e
  unfold f_
  rw[show(decide (ps.length<=N.length)&&decide (N.length<=12))=false by simp at e|-;lia,Pz,Om,Om]
 rw[NG,NG] at e
 have e2:ps.length<=N.length/\N.length<=12:=by simp at e;lia
 refine⟨_,rfl,_,rfl,l,m,_,_,rfl,rfl,a,b,by rw[NG,NG];lia,λc nc=>?_⟩
 have s2:au H1 (upd H1 c (.lst (as.map V.ref++bs.map V.ref))):=(au.refl H1).upd nc
 refine⟨c,ps++N,rfl,⟨as++bs,by rw[ah,NW],by rw[NW];exact dw.same (nk d g) s2⟩,hs,by rw[NM];lia,λX H2 s3=>?_,λX H2 s3=>W (by unfold f_;rw[decide_eq_false X,Om,Om,Om]) _ (M.st (s2.trans s3))⟩
 have j:=s2.trans s3
 refine⟨_,rfl,l,_,rfl,.inl ⟨bf.of (j _ _ a),λt nt=>?_⟩⟩
 have tt:=vV (l:=l) nt (dw.same d j)
 generalize e3:upd H2 t (.tup (as.map V.ref))=H3 at tt
 have o:au H1 H3:=j.trans (e3▸(au.refl H2).upd nt)
 have v:=o _ _ O
 refine⟨_,rfl,p,cBundle,dx,fs,rfl,v,T.cl_Bundle,T.na_Bundle_starts,by have:=S.few;lia,?_⟩
 have B:=bN "starts" (.ref t) fs
 generalize e4:upd H3 p (.ins cBundle dx (fc "starts" (.ref t) fs))=R
 have b4:bQ H3 R p:=e4▸(bQ.of (au.refl H3)).up
 have i:bQ H1 R p:=e4▸(bQ.of o).up
 have y:R p=some (.ins cBundle dx (fc "starts" (.ref t) fs)):=e4▸ah
 refine⟨_,rfl,m,_,rfl,.inl ⟨bf.of (ko i O (λz=>nomatch z) b),λu nu=>?_⟩⟩
 have tu:=vV (l:=m) (ps:=N) nu (jc g λ_ _ e=>ko i O (λz=>nomatch z) e)
 generalize e5:upd R u (.tup (bs.map V.ref))=H5 at tu
 have s5:au R H5:=e5▸(au.refl R).upd nu
 have n:=s5 _ _ y
 refine⟨_,rfl,p,cBundle,dx,_,rfl,n,T.cl_Bundle,T.na_Bundle_goals,by lia,?_⟩
 exact q (by unfold f_;rw[e0,decide_eq_true e1.1,decide_eq_true e1.2,decide_eq_true e2.1,decide_eq_true e2.2,decide_eq_true X];rfl) _ (M.tr (i.st s5).up) ⟨dx,_,t,u,ah,(S.put (by lia) (by decide+kernel) (by decide+kernel) (by decide+kernel) (by decide+kernel)).put (by lia) (by decide+kernel) (by decide+kernel) (by decide+kernel) (by decide+kernel),by rw[aQ,if_neg (by decide+kernel),aQ,if_pos rfl],by rw[aQ,if_pos rfl],CS tt (b4.st s5).up v,CS tu (bQ.of (au.refl H5)).up n⟩
theorem AR:yZ P w K mg base 1 "ends" "Net.ends" A0 ["self"] (mH cNet):=by
 refine rd ["self"] λe _ _ _ _ _ H vs Q E d h=>?_
 obtain⟨p,dx,t,fs,as,rfl,b,a,c,q⟩:=h
 refine⟨_,(aO (aN (dW fV T.list_ (aE (dD (aw 0) rfl))))),?_⟩
 dsimp only[fo]
 exact eX ((dA (aa rfl) b T.cl_Net T.na_Net_pins a) _ ⟨t,_,rfl,.inr (bY.of c),λl nl=>q _ l ((au.refl H).upd nl) nl ah⟩)
theorem Ce:yZ P w K mg base 1 "ends" "Bundle.ends" AI ["self"] (lX cBundle):=by
 refine rd ["self"] λn _ _ _ _ _ H vs Q E j h=>?_
 obtain⟨p,dx,t,u,fs,as,bs,rfl,c,d,e,f,i,m,q⟩:=h
 refine⟨_,(aO (aN (dW fV T.list_ (aE (ao wQ (dD (aw 0) rfl) (dD (aw 0) rfl)))))),?_⟩
 dsimp only[fo]
 have a:sizeLine=2^24:=rfl
 refine eX (q9 (dH ((dA (aa rfl) c T.cl_Bundle T.na_Bundle_starts d) _ ((dA (aa rfl) c T.cl_Bundle T.na_Bundle_goals e) _ ⟨t,u,_,_,rfl,rfl,f,i,by rw[NG,NG];lia,λg H1 s1 b=>⟨g,_,rfl,.inr (bY.of b),λl nl=>?_⟩⟩))))
 exact q _ l (s1.upd nl) (jM s1 nl) (by rw[ah,NW])
theorem zk (c:fW P w K mg base cNet "Net" 3 ["self", "name", "pins", "half", "room"] (qH cNet cBadThing))(a:fW P w K mg base cBundle "Bundle" 3 ["self", "name", "starts", "goals", "room"] (rD cBundle cBadThing)):fK P w K mg base 5 "thing_told" xu ["kind", "parts"] (sx cNet cBundle cBadThing):=by
 refine rd ["kind", "parts", "name", "half", "room", "pins", "starts", "goals"] λd _ _ _ _ _ H vs Q E F h=>?_
 obtain⟨v,r,g,rfl,D,A,rb,C,q,B⟩:=h
 refine⟨_,(aj (ju (bP cw (aw 0) ar) (aY (dQ (aw 1) (eF rfl (aI (cq 2 d) (aI (cq 3 d) (aI (cq 4 d) (aI (cq 5 d) cC)))))) (aN (qT c (F.mono (by decide)) (by rfl) di (ax (aw 2) (ax (aw 5) (aJ (aw 3) (aw 4))))))) gB) (aY (dQ (aw 1) (eF rfl (aI (cq 2 d) (aI (cq 4 d) (aI (cq 6 d) (aI (cq 7 d) cC)))))) (aN (qT a (F.mono (by decide)) (by rfl) di (ax (aw 2) (ax (aw 6) (aJ (aw 7) (aw 4)))))))),?_⟩
 dsimp only[fo]
 refine cI (DI (j:=5) (aa rfl) (by decide)) (λe=>?_) λI=>?_
 ·cases r with
  |net x h r cs=>
   obtain⟨t,l,rfl,u,s,_⟩:=D
   obtain rfl:=Option.some.inj A
   refine⟨_,rfl,t,_,rfl,bY.of u,rfl,_,_,rfl,_,_,rfl,_,_,rfl,_,_,rfl,rfl,?_⟩
   refine⟨_,rfl,_,rfl,_,rfl,_,rfl,?_⟩
   intro p dx b n J
   have f:au H (upd (upd H dx (.own p)) p (.ins cNet dx [])):=i_ b n
   refine⟨p,dx,l,ss x,h,r,cs,rfl,ah,s.same f,C,rb.2.2.2.1,Ci rb.1,rb.2.1,rb.2.2.1,λo H4 i y=>⟨rfl,?_⟩,λo H4 i=>B o _ (bQ.same f b i)⟩
   exact q o p H4 (bQ.same f b i) b (.inl ⟨rfl,y⟩)
  |_=>cases e
 ·cases r with
  |bun x r cs ds=>
   obtain⟨t,l,m,rfl,u,s,G,_⟩:=D
   obtain rfl:=Option.some.inj A
   refine⟨_,rfl,t,_,rfl,bY.of u,rfl,_,_,rfl,_,_,rfl,_,_,rfl,_,_,rfl,rfl,?_⟩
   refine⟨_,rfl,_,rfl,_,rfl,_,rfl,?_⟩
   intro p dx b n J
   have f:au H (upd (upd H dx (.own p)) p (.ins cBundle dx [])):=i_ b n
   refine⟨p,dx,l,m,ss x,r,cs,ds,rfl,ah,s.same f,G.same f,C,rb.2.2.1,Ci rb.1,rb.2.1,λo H4 i y=>⟨rfl,?_⟩,λo H4 i=>B o _ (bQ.same f b i)⟩
   refine q o p H4 (bQ.same f b i) b (.inr ⟨λz=>?_,rfl,y⟩)
   have o:f_ (ss x) r cs ds=true:=o
   rw[show ds=[] from z] at o
   simp only[f_,N8,decide_eq_true_eq,Qn] at o
   lia
  |net x cs=>cases I
  |_=>cases A
theorem zS:fK P w K mg base 1 "square" wg ["sizes", "spot", "reach"] (tm K):=by
 refine rd ["sizes", "spot", "reach", "layer", "row", "column", "top", "bottom", "left", "right", "spots", "one"] λR _ _ _ _ _ H vs Q E hr h=>?_
 obtain⟨a,b,l,r,c,x,y,z,n,rfl,ha,S,⟨y0,y1,r1⟩,⟨z0,z1,c1⟩,⟨X,n1⟩,m1,m2,q⟩:=h
 refine⟨_,(aj (dQ (aw 1) (eF rfl (aI (cq 3 R) (aI (cq 4 R) (aI (cq 5 R) cC))))) (aj (aX 6 R (dn (fZ rfl) T.max_ (aJ ae (ao bZ (aw 4) (aw 2))))) (aj (aX 7 R (dn (iZ rfl) T.min_ (aJ (ao bZ (aR aZ (aw 0) ae) ae) (ao aV (aw 4) (aw 2))))) (aj (aX 8 R (dn (fZ rfl) T.max_ (aJ ae (ao bZ (aw 5) (aw 2))))) (aj (aX 9 R (dn (iZ rfl) T.min_ (aJ (ao bZ (aR aZ (aw 0) ae) ae) (ao aV (aw 5) (aw 2))))) (aj (aX 10 R (cf kG)) (aY (oG (pK (by rfl) T.range_ (aJ (aw 6) (ao aV (aw 7) ae))) (cq 11 R) (aO (aF (bI NX PySem.F.slot_list_extend PySem.F.type_list_extend qc (aw 10) (aE (gU ["two"] ["layer", "one"] [3,11] (pK (by rfl) T.range_ (aJ (aw 8) (ao aV (aw 9) ae))) (dU 0) cM (c9 (ax (aw 1) (aJ (aw 2) (aw 0)))))))))) (aN (aw 10))))))))),?_⟩
 dsimp only[fo]
 refine rq (aa rfl) S ?_
 refine cK (v:=.int (lo y n)) (dB (ag aq (ag (aP (aa rfl) (aa rfl)) az)) λQ' M=>⟨_,_,rfl,M⟩) ?_
 refine cK (v:=.int (hi r y n)) (dB (ag (aP (bC (aa rfl) aq ha rfl) aq) (ag (aP (aa rfl) (aa rfl)) az)) λQ' M=>⟨_,_,rfl,M⟩) ?_
 refine cK (v:=.int (lo z n)) (dB (ag aq (ag (aP (aa rfl) (aa rfl)) az)) λQ' M=>⟨_,_,rfl,M⟩) ?_
 refine cK (v:=.int (hi c z n)) (dB (ag (aP (bC (aa rfl) aq ha rfl) aq) (ag (aP (aa rfl) (aa rfl)) az)) λQ' M=>⟨_,_,rfl,M⟩) ?_
 have J:=He y0 y1 X
 have I:=He z0 z1 X
 have wy:=Gx y0 y1 X m1
 have wz:=Gx z0 z1 X m2
 refine⟨N9 _,λpS nS=>?_⟩
 refine⟨_,rfl,_,rfl,_,_,rfl,rfl,_,_,rfl,⟨by lia,by lia,by lia,by lia⟩,?_⟩
 refine pb (n:=wd r y n) (λj σ H2=>∃(o:Option V) (ps:List Addr),σ=[some (.ref a),some (.ref b),some (.int n),some (.int x),some (.int y),some (.int z),some (.int (lo y n)),some (.int (hi r y n)),some (.int (lo z n)),some (.int (hi c z n)),some (.ref pS),o]/\
   au H H2/\H2 pS=some (.lst (ps.map V.ref))/\ps.length=j*wd c z n/\JT H2 x (lo y n) (lo z n) (wd c z n) ps)
  ⟨none,[],rfl,(au.refl H).upd nS,ah,(by simp),λi q h=>nomatch h⟩ ?_ ?_
 ·rintro j σ H2 hj ⟨o,ps,rfl,s2,W,d,Y⟩
  refine⟨_,rfl,.inl ⟨rfl,_,bf.of W⟩,?_⟩
  refine⟨_,rfl,_,rfl,_,_,rfl,rfl,_,_,rfl,⟨by lia,by lia,by lia,by lia⟩,λD nD=>?_⟩
  have B:j*wd c z n<=6*7:=Nat.mul_le_mul (by lia) wz
  refine nQ (n:=wd c z n) (λi τ H3=>∃(o:Option V) (O:List Addr),τ=[o,some (.int x),some (.int (lo y n+j))]/\au H2 H3/\H3 D=some (.lst (O.map V.ref))/\O.length=i/\
    ∀(k:Nat) q,O[k]?=some q->H3 q=some (.tup [.int x,.int (lo y n+j),.int (lo z n+k)]))
   ⟨none,[],rfl,(au.refl H2).upd nD,ah,rfl,λi q h=>nomatch h⟩ ?_ ?_
  ·rintro i τ H3 hi ⟨o3,O,rfl,s3,U,f,p⟩
   refine⟨_,rfl,_,rfl,_,rfl,(by show 3<=sizeLine;decide),λpt nt=>?_⟩
   have s:D≠pt:=aD U nt
   refine⟨_,(by rw[ay s];exact U),(by rw[NG,f];exact Oc hi (NP wz (by decide))),_,O++[pt],rfl,?_,?_,?_,?_⟩
   ·intro Z ob e
    by_cases S:Z=D
    ·subst S
     rw[nD] at e;cases e
    ·rw[ay S,ay (aD (s3 _ _ e) nt)]
     exact s3 _ _ e
   ·rw[ah,NW];rfl
   ·rw[NM,f];rfl
   ·intro k qq N
    have g:∀M,(upd H3 pt (.tup [.int x,.int (lo y n+j),.int (lo z n+i)])) M=some (.tup [.int x,.int (lo y n+j),.int (lo z n+k)])->upd (upd H3 pt (.tup [.int x,.int (lo y n+j),.int (lo z n+i)])) D (.lst (O.map V.ref++[.ref pt])) M=some (.tup [.int x,.int (lo y n+j),.int (lo z n+k)]):=λM e=>by
     have:M≠D:=by
      rintro rfl
      rw[ay s,U] at e
      cases e
     rw[ay this];exact e
    by_cases hkl:k<O.length
    ·rw[Pk hkl] at N
     have:=p k qq N
     exact g _ (by rw[ay (aD this nt)];exact this)
    ·rw[OU (by lia)] at N
     have A:k - O.length=0:=by
      cases e:k - O.length with
      |zero=>rfl
      |succ m=>rw[e] at N;cases N
     rw[A] at N
     have:pt=qq:=Option.some.inj N
     subst this
     have F:k=i:=by lia
     subst F
     exact g _ ah
  ·rintro τ H3 ⟨o3,O,rfl,s3,U,f,p⟩
   have u:=s3 _ _ W
   refine⟨pS,D,_,_,rfl,rfl,u,U,(by rw[NG,NG,d,f];exact NP (Nat.add_le_add B wz) (by decide)),?_⟩
   have g:∀M xs,H3 M=some (.tup xs)->upd H3 pS (.lst (ps.map V.ref++O.map V.ref)) M=some (.tup xs):=λM xs e=>by
    have:M≠pS:=by
     rintro rfl
     rw[u] at e;cases e
    rw[ay this];exact e
   refine⟨_,ps++O,rfl,?_,?_,?_,?_⟩
   ·intro Z ob e
    have S:Z≠pS:=aD e nS
    rw[ay S]
    exact s3 _ _ (s2 _ _ e)
   ·rw[ah,NW]
   ·rw[NM,d,f,Nat.add_mul,Nat.one_mul]
   ·intro k qq N
    by_cases hkl:k<ps.length
    ·rw[Pk hkl] at N
     exact g _ _ (s3 _ _ (Y k qq N))
    ·rw[OU (by lia)] at N
     have G:k - ps.length<O.length:=(Ov.mp N).1
     have C:k - ps.length<wd c z n:=by lia
     have:=p _ qq N
     have e:=Bg (j:=j) C
     have ek:j*wd c z n+(k - ps.length)=k:=by lia
     rw[ek] at e
     refine g _ _ ?_
     rw[this]
     unfold GS
     rw[e.1,e.2]
 ·rintro σ H2 ⟨o,ps,rfl,s2,W,d,Y⟩
  exact⟨_,rfl,q pS ps H2 s2 W d Y⟩
theorem Ee (af:aG P w K mg base "inside" 1 ["sizes", "spot"] nW)(an:aG P w K mg base "square" 1 ["sizes", "spot", "reach"] (tm K))(am:fE P w K mg base cFloor "is_rock" 3 ["self", "spot"] (sg cFloor)):fK P w K mg base 4 "fits" Gr ["floor", "thing", "spot"] (Bx cNet cBundle cFloor):=by
 refine rd ["floor", "thing", "spot", "layer", "row", "column", "first", "last"] λnd _ _ _ _ _ H vs Q E hr h=>?_
 obtain⟨p,t,b,L,R,C,rs,half,G,u,rfl,hf,sz,⟨C',r,v,e1,c1,l1,m1⟩,h0,h2,hb,q⟩:=h
 refine⟨_,(aj (dQ (aw 2) (eF rfl (aI (cq 3 nd) (aI (cq 4 nd) (aI (cq 5 nd) cC))))) (aj (aX 6 nd (c9 (ax (aw 3) (aJ (ao bZ (aw 4) (dD (aw 1) rfl)) (ao bZ (aw 5) (dD (aw 1) rfl)))))) (aj (aX 7 nd (c9 (ax (aw 3) (aJ (ao aV (aw 4) (dD (aw 1) rfl)) (ao aV (aw 5) (dD (aw 1) rfl)))))) (aY (cL (fR (eG (gG (bt af hr (aJ (dD (aw 0) rfl) (aw 6))))) (eU (eG (gG (bt af hr (aJ (dD (aw 0) rfl) (aw 7))))))).pt (aN iG)) (aN (JH (dn (nv rfl) T.any_ (aE (gU ["near"] ["floor"] [0] (bw (bt an hr (ax (dD (aw 0) rfl) (aJ (aw 2) (dD (aw 1) rfl))))) (dU 0) cM (Ia (aw 1) (by exact T.cl_Floor) (by exact am) (by exact(hr.mono (by decide))) (aE (aw 0)))))))))))),?_⟩
 dsimp only[fo]
 have I:sizeLine=2^24:=rfl
 have kc:mF K C'/\bL K C' "half" :=by rcases c1 with rfl|rfl<;>first|exact⟨T.cl_Net,T.na_Net_half⟩|exact⟨T.cl_Bundle,T.na_Bundle_half⟩
 refine rq (aa rfl) (bY.of hb) ?_
 refine Cg (vs:=[.int u.1,.int (u.2.1 - half),.int (u.2.2 - half)]) (ag (aa rfl) (ag (aP (aa rfl) (dA (aa rfl) e1 kc.1 kc.2 l1)) (ag (aP (aa rfl) (dA (aa rfl) e1 kc.1 kc.2 l1)) az))) (by show 3<=sizeLine;decide) λa1 n1=>?_
 have s1:au H (upd H a1 (.tup [.int u.1,.int (u.2.1 - half),.int (u.2.2 - half)])):=(au.refl H).upd n1
 have m:L8 (upd H a1 (.tup [.int u.1,.int (u.2.1 - half),.int (u.2.2 - half)])) a1 u.1 (u.2.1 - half) (u.2.2 - half):=ah
 revert s1 m
 generalize upd H a1 (.tup [.int u.1,.int (u.2.1 - half),.int (u.2.2 - half)])=H1
 intro s1 m
 refine Cg (vs:=[.int u.1,.int (u.2.1+half),.int (u.2.2+half)]) (ag (aa rfl) (ag (aP (aa rfl) (dA (aa rfl) (s1 _ _ e1) kc.1 kc.2 l1)) (ag (aP (aa rfl) (dA (aa rfl) (s1 _ _ e1) kc.1 kc.2 l1)) az))) (by show 3<=sizeLine;decide) λa2 n2=>?_
 have s2:au H1 (upd H1 a2 (.tup [.int u.1,.int (u.2.1+half),.int (u.2.2+half)])):=(au.refl H1).upd n2
 have l:L8 (upd H1 a2 (.tup [.int u.1,.int (u.2.1+half),.int (u.2.2+half)])) a2 u.1 (u.2.1+half) (u.2.2+half):=ah
 revert s2 l
 generalize upd H1 a2 (.tup [.int u.1,.int (u.2.1+half),.int (u.2.2+half)])=H2
 intro s2 l
 have c:=s1.trans s2
 have o:=hf.same c
 obtain⟨dx,z,d,fs,N,g1,g2,g3,s,g4,g5,g6⟩:=o.ex
 refine cI (iO (fj (FQ (jN (ag (dA (aa rfl) g1 T.cl_Floor T.na_Floor_sizes g2) (ag (aa rfl) az)) λQ' q'=>⟨z,a1,L,R,C,_,_,_,rfl,g4,s2 _ _ m,q'⟩))) λ_=>fj (FQ (jN (ag (dA (aa rfl) g1 T.cl_Floor T.na_Floor_sizes g2) (ag (aa rfl) az)) λQ' q'=>⟨z,a2,L,R,C,_,_,_,rfl,g4,l,q'⟩))) (λe=>?_) (λe=>?_)
 ·refine dF aq (q _ false c ⟨λz=>absurd z (by simp),λf=>?_⟩)
  rw[Qq] at e
  rcases e with e|e
  ·exact absurd f (AM h0 (by simpa using e))
  ·exact absurd f (B1 h0 (by simpa using e))
 have i1:kE L R C u.1 (u.2.1 - half) (u.2.2 - half):=by rw[QB] at e;simpa using e.1
 have i2:kE L R C u.1 (u.2.1+half) (u.2.2+half):=by rw[QB] at e;simpa using e.2
 have M:=sz.r1
 have Z:=sz.c1
 obtain⟨j1,j2,j3,j4,j5,j6⟩:=id i1
 obtain⟨Y,X,W,ac,J,U⟩:=id i2
 refine⟨_,rfl,p,cFloor,dx,fs,_,rfl,g1,T.cl_Floor,T.na_Floor_sizes,g2,_,rfl,_,rfl,t,C',r,v,_,rfl,c _ _ e1,kc.1,kc.2,l1,z,b,L,R,C,u.1,u.2.1,u.2.2,half,rfl,bY.of g4,bY.of (c _ _ hb),⟨by omega,by omega,by omega⟩,⟨by omega,by omega,by omega⟩,⟨h0,by omega⟩,.inl (by omega),.inl (by omega),λS ps H3 s3 hS ai ad=>⟨S,rfl,⟨_,bf.of hS⟩,λD nD=>?_⟩⟩
 have O:((wd R u.2.1 half:Nat):Int)=2*half+1:=Gz h0 (by omega) (by omega)
 have g:((wd C u.2.2 half:Nat):Int)=2*half+1:=Gz h0 (by omega) (by omega)
 rw[BR (by omega),BR (by omega)] at ad
 have A:wd R u.2.1 half=wd C u.2.2 half:=by omega
 rw[A] at ai
 revert g ad ai
 generalize wd C u.2.2 half=w
 intro ai ad g
 have n:w<=5:=by omega
 have F:w*w<=5*5:=Nat.mul_le_mul n n
 have y:=o.same s3
 refine da (K:=K) (xs:=ps.map V.ref) (λi τ H'=>∃x0:Option V,τ=[x0,some (.ref p)]/\H'=upd H3 D (.lst (((List.range i).map λj=>decide (F_ u.1 (u.2.1 - half) (u.2.2 - half) w j∈rs)).map V.bl))) ⟨none,rfl,rfl⟩ (λi τ H' _ ⟨_,_,e⟩=>bf.of (by rw[e,ay (aD hS nD)];exact hS)) ?_ ?_
 ·rintro i x τ H' hx ⟨x0,rfl,rfl⟩
  obtain⟨a,ha,rfl⟩:=fm hx
  have hi:i<w*w:=by rw[<-ai];exact(Ov.mp ha).1
  have B:H3 a=some (.tup (tp (F_ u.1 (u.2.1 - half) (u.2.2 - half) w i))):=ad i a ha
  refine gn (gA ?_)
  have sD:au H3 (upd H3 D (.lst (((List.range i).map λj=>decide (F_ u.1 (u.2.1 - half) (u.2.2 - half) w j∈rs)).map V.bl))):=(au.refl H3).upd nD
  refine⟨_,rfl,p,dx,fs,rfl,sD _ _ (s3 _ _ g1),s,_,rfl,p,a,L,R,C,rs,F_ u.1 (u.2.1 - half) (u.2.2 - half) w i,rfl,y.same sD,sz,sD _ _ B,qk g i1 i2 hi,?_⟩
  refine⟨_,ah,by simp;omega,_,rfl,?_⟩
  rw[eo,List.range_succ,NW,NW];rfl
 ·rintro τ H' ⟨x0,rfl,rfl⟩
  refine⟨D,_,rfl,bf.of ah,_,rfl,q _ _ (c.trans (s3.upd nD)) ?_⟩
  rw[Ff,Hv g i1 i2,NG,ai]
  constructor
  ·intro h i hi;simpa using h i hi
  ·intro h i hi;simpa using h i hi
theorem Cn:fK P w K mg base 1 "apart" BW ["one", "two"] xA:=by
 refine rd ["one", "two"] λp _ _ _ _ _ H vs Q E o h=>?_
 obtain⟨a,b,l,r,c,l',g,f,rfl,m,i,q⟩:=h
 refine⟨_,(aY (cL (bP iq (aR aZ (aw 0) ae) (aR aZ (aw 1) ae)) (aN cy)) (aN (dn (fZ rfl) T.max_ (aJ (dn tE T.abs_ (aE (ao bZ (aR aZ (aw 0) ae) (aR aZ (aw 1) ae)))) (dn tE T.abs_ (aE (ao bZ (aR aZ (aw 0) ae) (aR aZ (aw 1) ae)))))))),?_⟩
 dsimp only[fo]
 refine cI (aA (kL (bC (v:=.int l) (aa rfl) aq (bY.of m) rfl) (bC (v:=.int l') (aa rfl) aq (bY.of i) rfl))) (λe=>?_) (λe=>?_)
 ·have j:¬l=l':=by simpa using e
  have n:KH l r c l' g f=.non:=if_neg j
  rw[n] at q
  exact q
 ·have j:l=l':=by simpa using e
  have n:KH l r c l' g f=.int (mx (ab (r - g)) (ab (c - f))):=if_pos j
  rw[n] at q
  exact dF (dB (ag (dB (ag (aP (bC (v:=.int r) (aa rfl) aq (bY.of m) rfl) (bC (v:=.int g) (aa rfl) aq (bY.of i) rfl)) az) λQ' d=>⟨_,rfl,d⟩) (ag (dB (ag (aP (bC (v:=.int c) (aa rfl) aq (bY.of m) rfl) (bC (v:=.int f) (aa rfl) aq (bY.of i) rfl)) az) λQ' d=>⟨_,rfl,d⟩) az)) λQ' d=>⟨_,_,rfl,d⟩) q
theorem BZ:fK P w K mg base 1 "reach_of" Bt ["thing", "other"] (wL cNet cBundle):=by
 refine rd ["thing", "other"] λs _ _ _ _ _ H vs Q E r h=>?_
 obtain⟨p,u,h1,o,h2,n,rfl,⟨C,dx,fs,c,e,j,i⟩,⟨C',a,b,d,g,m,l⟩,q⟩:=h
 refine⟨_,(aO (aN (ao aV (ao aV (dD (aw 0) rfl) (dD (aw 1) rfl)) (dn (fZ rfl) T.max_ (aJ (dD (aw 0) rfl) (dD (aw 1) rfl)))))),?_⟩
 dsimp only[fo]
 have k1:mF K C/\bL K C "half" /\bL K C "room" :=by rcases e with rfl|rfl<;>first|exact⟨T.cl_Net,T.na_Net_half,T.na_Net_room⟩|exact⟨T.cl_Bundle,T.na_Bundle_half,T.na_Bundle_room⟩
 have k2:mF K C'/\bL K C' "half" /\bL K C' "room" :=by rcases g with rfl|rfl<;>first|exact⟨T.cl_Net,T.na_Net_half,T.na_Net_room⟩|exact⟨T.cl_Bundle,T.na_Bundle_half,T.na_Bundle_room⟩
 exact dF (aP (aP (dA (aa rfl) c k1.1 k1.2.1 j) (dA (aa rfl) d k2.1 k2.2.1 m)) (dB (ag (dA (aa rfl) c k1.1 k1.2.2 i) (ag (dA (aa rfl) d k2.1 k2.2.2 l) az)) λQ' f=>⟨_,_,rfl,f⟩)) q
theorem CK (d:aG P w K mg base "apart" 1 ["one", "two"] xA)(f:aG P w K mg base "reach_of" 1 ["thing", "other"] (wL cNet cBundle)):fK P w K mg base 2 "clash" DE ["thing", "spot", "other", "place"] (xR cNet cBundle):=by
 refine rd ["thing", "spot", "other", "place", "distance"] λx _ _ _ _ _ H vs Q E o h=>?_
 obtain⟨p,a,B,b,h1,v,h2,u,l,r,c,j,g,i,rfl,A,s,C,y,q⟩:=h
 refine⟨_,(aY (aX 4 x (bt d o (aJ (aw 1) (aw 3)))) (aN (uz (AU E2 (aw 4) cy) (vH (AU dJ (aw 4) (bt f o (aJ (aw 0) (aw 2)))))))),?_⟩
 refine cK (jN (ag (aa rfl) (ag (aa rfl) az)) λQ' n=>⟨a,b,l,r,c,j,g,i,rfl,C,y,n⟩) ?_
 by_cases e:l=j
 ·have m:KH l r c j g i=.int (mx (ab (r - g)) (ab (c - i))):=if_pos e
  rw[m]
  refine dF (aU (qO (a:=true) (aU (xV (aa rfl) aq) (by rfl)) λ_=>aP (aa rfl) (jN (ag (aa rfl) (ag (aa rfl) az)) λQ' n=>⟨p,B,h1,v,h2,u,rfl,A,s,n⟩)) ?_) q
  unfold LX
  rw[decide_eq_true e]
 ·have m:KH l r c j g i=.non:=if_neg e
  rw[m]
  refine dF (aU (qO (a:=false) (b:=false) (aU (xV (aa rfl) aq) (by rfl)) λz=>absurd z NY) ?_) q
  unfold LX
  rw[decide_eq_false e];rfl
theorem y8 (u:aG P w K mg base "clash" 2 ["thing", "spot", "other", "place"] (xR cNet cBundle)):fK P w K mg base 3 "clash_at_all" wM ["thing", "spots", "other", "places"] (tK cNet cBundle):=by
 refine rd ["thing", "spots", "other", "places", "spot"] λW _ _ _ _ _ H vs Q E hr h=>?_
 obtain⟨p,l,I,m,g,h,rfl,tg,th,⟨as,J,M⟩,⟨bs,F,R⟩,U,O,q⟩:=h
 refine⟨_,(aY (oG (bw (aw 1)) (cq 4 W) (aO (cL (gG (dn (nv rfl) T.any_ (aE (gU ["place"] ["thing", "spot", "other"] [0,4,2] (bw (aw 3)) (dU 0) cM (bt (by exact u) (by exact hr) (ax (aw 1) (ax (aw 2) (aJ (aw 3) (aw 0))))))))) (aN iG)))) (aN iG)),?_⟩
 dsimp only[fo]
 have r:sizeLine=2^24:=rfl
 have la:as.length=g.es.length:=Paired.length M
 have lb:bs.length=h.es.length:=Paired.length R
 refine⟨_,rfl,l,rfl,⟨_,bf.of J⟩,?_⟩
 refine cZ (K:=K) (xs:=as.map V.ref) (λi σ H'=>∃G:Option V,σ=[some (.ref p),some (.ref l),some (.ref I),some (.ref m),G]/\au H H'/\((g.es.take i).any λc=>h.es.any λd=>CU g h c d)=false) ⟨none,rfl,au.refl H,rfl⟩ (λi σ H' _ ⟨_,_,s,_⟩=>bf.of (s _ _ J)) ?_ ?_
 ·rintro i x σ H1 Z ⟨G,rfl,s1,ok⟩
  obtain⟨a,ha,rfl⟩:=fm Z
  obtain⟨c,C,e⟩:=bK M ha
  have Y:=U.es c (Oi C)
  refine gn ?_
  refine tM ⟨_,rfl,m,rfl,⟨_,bf.of (s1 _ _ F)⟩,λD B=>?_⟩
  refine da (K:=K) (xs:=bs.map V.ref) (λj z H'=>∃A:Option V,z=[A,some (.ref p),some (.ref a),some (.ref I)]/\H'=upd H1 D (.lst (((h.es.take j).map λd=>CU g h c d).map V.bl))) ⟨none,rfl,rfl⟩ (λj z H' _ ⟨_,_,e⟩=>bf.of (by rw[e,ay (aD (s1 _ _ F) B)];exact s1 _ _ F)) ?_ ?_
  ·rintro j x z H' n ⟨A,rfl,rfl⟩
   obtain⟨b,X,rfl⟩:=fm n
   obtain⟨d,N,e'⟩:=bK R X
   have f:=O.es d (Oi N)
   have o:=O.ln
   refine gn (gA ?_)
   have v:au H1 (upd H1 D (.lst (((h.es.take j).map λd=>CU g h c d).map V.bl))):=(au.refl H1).upd B
   have y:=s1.trans v
   refine⟨_,rfl,_,rfl,_,rfl,_,rfl,p,a,I,b,_,_,_,_,_,_,_,_,_,_,rfl,(tg.same y).th,(th.same y).th,vA Y (y _ _ e),vA f (y _ _ e'),?_⟩
   refine⟨_,ah,by rw[NG,NG,N_];omega,_,rfl,?_⟩
   rw[eo,bO N,NW,NW];rfl
  ·rintro z H' ⟨A,rfl,rfl⟩
   have v:au H (upd H1 D (.lst (((h.es.take (bs.map V.ref).length).map λd=>CU g h c d).map V.bl))):=s1.upd B
   refine⟨D,(h.es.map λd=>CU g h c d),rfl,bf.of (by rw[ah,NG,lb,Ob]),_,rfl,?_⟩
   have S:((h.es.map λd=>CU g h c d).any id)=h.es.any λd=>CU g h c d:=by rw[List.any_map];rfl
   rw[S]
   cases eb:h.es.any λd=>CU g h c d
   ·exact iC ⟨_,rfl,v,DD ok C eb⟩
   ·refine gZ (dF aq ?_)
    have:Cm g h=true:=Qc.mpr ⟨c,Oi C,eb⟩
    rw[<-this];exact q _ v
 ·rintro σ H1 ⟨G,rfl,s1,ok⟩
  rw[NG,la,Ob] at ok
  refine st (dF aq ?_)
  have:Cm g h=false:=ok
  rw[<-this];exact q _ s1
theorem zJ (hB:K.In base):fK P w K mg base 1 "check_names" xB ["things"] (rS cNet cBundle cTwice):=by
 refine rd ["things", "names", "name"] λO _ _ _ _ _ H vs Q E hr h=>?_
 obtain⟨l,I,rfl,⟨ps,hl,hp⟩,ok,C,q,qe⟩:=h
 refine⟨_,(aY (aX 1 O AA) (fz PassesOwn.leaving rfl (bw (gU ["thing"] [] [] (bw (aw 0)) (dU 0) cM (xX (K:=K) rfl (aw 0) rfl))) (cq 2 O) (aY (cL (IV (Be (dh.one hr) (aw 2) (aw 1))) (cY (eQ hB T.eTwice.bd T.eTwice.ex) Oz rfl (by rfl) dz (aE (eO (fq.cons (dk ar) (fq.cons (Ez (aw 2)) fq.nil)))))) (xo (dh.one hr) (aw 1) (aw 2) iG (by rfl))))),?_⟩
 dsimp only[fo]
 have G:sizeLine=2^24:=rfl
 have lp:ps.length=I.length:=Paired.length hp
 refine cG λd O=>?_
 have s1:au H (upd H d (.dK [])):=(au.refl H).upd O
 have U:upd H d (.dK []) d=some (.dK []):=ah
 revert s1 U
 generalize upd H d (.dK [])=H1
 intro s1 U
 refine⟨_,rfl,l,rfl,⟨_,bf.of (s1 _ _ hl)⟩,λD N=>?_⟩
 refine da (K:=K) (xs:=ps.map V.ref) (λi R H'=>∃x0:Option V,R=[x0]/\H'=upd H1 D (.lst (((I.take i).map Tg.nm).map V.str))) ⟨none,rfl,rfl⟩ (λj R H' _ ⟨_,_,e⟩=>bf.of (by rw[e,ay (aD (s1 _ _ hl) N)];exact s1 _ _ hl)) ?_ ?_
 ·rintro i x R H' W ⟨x0,rfl,rfl⟩
  obtain⟨p,A,rfl⟩:=fm W
  obtain⟨g,J,t⟩:=bK hp A
  refine gn (gA ?_)
  have sD:au H1 (upd H1 D (.lst (((I.take i).map Tg.nm).map V.str))):=(au.refl H1).upd N
  refine Dq (t.same (s1.trans sD)) (aa rfl) T.cl_Net T.na_Net_name T.cl_Bundle T.na_Bundle_name (λ_ b=>b.name) _ ?_
  refine⟨_,ah,by rw[NG,NG,N_];lia,_,rfl,?_⟩
  rw[eo,bO J,NW,NW];rfl
 rintro R H' ⟨x0,rfl,rfl⟩
 rw[NG,lp,Ob]
 have s2:au H (upd H1 D (.lst ((I.map Tg.nm).map V.str))):=s1.upd N
 have Z:upd H1 D (.lst ((I.map Tg.nm).map V.str)) D=some (.lst ((I.map Tg.nm).map V.str)):=ah
 have u:D≠d:=λz=>by rw[z,U] at N;cases N
 have m:upd H1 D (.lst ((I.map Tg.nm).map V.str)) d=some (.dK []):=by rw[ay (N6 u)];exact U
 revert s2 Z m
 generalize upd H1 D (.lst ((I.map Tg.nm).map V.str))=H2
 intro s2 Z m
 refine⟨D,rfl,⟨_,bf.of Z⟩,?_⟩
 refine cZ (K:=K) (xs:=(I.map Tg.nm).map V.str) (λi σ H'=>∃(x2:Option V) (c:List (dq×V)),σ=[some (.ref l),some (.ref d),x2]/\au H H'/\H' D=some (.lst ((I.map Tg.nm).map V.str))/\H' d=some (.dK c)/\c.length<=i/\(∀x,(fD c (.inr x)).isSome=true↔∃j g,j<i/\I[j]?=some g/\g.nm=x)/\∀a b g h,a<b->b<i->I[a]?=some g->I[b]?=some h->g.nm≠h.nm)
  ⟨none,[],rfl,s2,Z,m,NI _,λx=>⟨(λz=>nomatch z),λ⟨j,_,z,_⟩=>absurd z (OZ _)⟩,λa b _ _ _ z=>absurd z (OZ _)⟩ (λj R H' _ ⟨_,_,_,_,e,_⟩=>bf.of e) ?_ ?_
 ·rintro i x σ H' W ⟨x2,c,rfl,s,v,n,hk,hv,X⟩
  rw[Ol,Od] at W
  obtain⟨g,J,rfl⟩:=P9.mp W
  have og:=ok g (Oi J)
  have hi:=bU J
  have F:=og.nm.hi
  refine gn ?_
  refine cI (aA (Hn (o:=fD c (.inr g.nm)) (aa rfl) (aa rfl) (qQ.k (k:=.inr g.nm) n))) (λe=>?_) (λe=>?_)
  ·obtain⟨j,S,hj,f,Y⟩:=(hv _).mp e
   exact dR (t:=dv) ⟨trivial,⟨_,rfl,rfl,g.nm,rfl,by lia⟩,trivial⟩ (qe ⟨j,i,S,g,hj,f,J,Y⟩ _ s)
  ·refine xD (y:=.str g.nm) aq (aa rfl) (aa rfl) (qJ.k (k:=.inr g.nm) n (by lia)) ?_
   refine⟨_,_,rfl,dI s O,by rw[ay u];exact v,ah,NP (fJ _ _ _) (Pu hk),λx=>?_,λa b g1 g2 M hb h1 h2=>?_⟩
   ·rw[Cj]
    by_cases ex:(.inr x:dq)=.inr g.nm
    ·rw[if_pos ex]
     exact⟨λ_=>⟨i,g,PY _,J,(Sum.inr.inj ex).symm⟩,λ_=>rfl⟩
    ·rw[if_neg ex,hv]
     constructor
     ·rintro⟨j,S,hj,r⟩;exact⟨j,S,by lia,r⟩
     ·rintro⟨j,S,hj,f,Y⟩
      have B:j≠i:=λz=>by
       rw[z,J] at f
       cases f
       exact ex (by rw[Y])
      exact⟨j,S,by lia,f,Y⟩
   ·by_cases eb:b=i
    ·subst eb
     rw[J] at h2
     cases h2
     intro z
     have:=(hv g.nm).mpr ⟨a,g1,M,h1,z⟩
     rw[this] at e
     cases e
    ·exact X a b g1 g2 M (by lia) h1 h2
 ·rintro σ H' ⟨x2,c,rfl,s,v,n,hk,hv,X⟩
  rw[NG,NG] at X
  exact q (λ⟨i,j,g,h,am,h1,h2,e⟩=>X i j g h am (bU h2) h1 h2 e) _ s
theorem Bw (hB:K.In base)(y:fE P w K mg base cNet "ends" 1 ["self"] (mH cNet))(v:fE P w K mg base cBundle "ends" 1 ["self"] (lX cBundle))(z:aG P w K mg base "fits" 4 ["floor", "thing", "spot"] (Bx cNet cBundle cFloor)):fK P w K mg base 5 "check_fits" D1 ["floor", "things"] (xO cNet cBundle cFloor cNoFit):=by
 refine rd ["floor", "things", "thing", "spot"] λY _ _ _ _ _ H vs Q E J h=>?_
 obtain⟨f,l,Z,L,R,C,O,rfl,hf,sz,⟨ps,hl,hp⟩,ok,u,q,qe⟩:=h
 refine⟨_,(aO (fz PassesOwn.leaving rfl (bw (aw 1)) (cq 2 Y) (aO (fz PassesOwn.leaving rfl (bw (mQ (aw 2) T.cl_Net T.cl_Bundle y v (J.mono (by decide)) (J.mono (by decide)))) (cq 3 Y) (aO (cL (eG (gG (bt z J (ax (aw 0) (aJ (aw 2) (aw 3)))))) (cY (eQ hB T.eNoFit.bd T.eNoFit.ex) Oz rfl (by rfl) dz (aE (eO (fq.cons (dk ar) (fq.cons (dO J (aw 3)) (fq.cons (dk ar) fq.nil)))))))))))),?_⟩
 dsimp only[fo]
 have r:sizeLine=2^24:=rfl
 have lp:ps.length=Z.length:=Paired.length hp
 refine⟨_,rfl,l,rfl,⟨_,bf.of hl⟩,?_⟩
 refine cZ (K:=K) (xs:=ps.map V.ref) (λi σ H'=>∃U D:Option V,σ=[some (.ref f),some (.ref l),U,D]/\au H H'/\∀g∈Z.take i,∀c∈g.es,qr L R C O g.hf c) ⟨none,none,rfl,au.refl H,λ_ h=>nomatch h⟩ (λi σ H' _ ⟨_,_,_,s,_⟩=>bf.of (s _ _ hl)) ?_ ?_
 ·rintro i x σ H1 N ⟨U,D,rfl,s1,all⟩
  obtain⟨p,n,rfl⟩:=fm N
  obtain⟨g,W,t⟩:=bK hp n
  have X:=Oi W
  have I:=ok g X
  refine gn ?_
  refine yi (qV (aa rfl) (t.same s1) I.ln λH2 le s2 ne ⟨as,A,G⟩=>⟨le,rfl,⟨_,bf.of A⟩,?_⟩)
  have la:as.length=g.es.length:=Paired.length G
  refine cZ (K:=K) (xs:=as.map V.ref) (λj σ H'=>∃D:Option V,σ=[some (.ref f),some (.ref l),some (.ref p),D]/\au H2 H'/\∀c∈g.es.take j,qr L R C O g.hf c) ⟨_,rfl,au.refl H2,λ_ h=>nomatch h⟩ (λi σ H' _ ⟨_,_,s,_⟩=>bf.of (s _ _ A)) ?_ ?_
  ·rintro j x σ H3 N ⟨o,rfl,s3,b⟩
   obtain⟨a,ha,rfl⟩:=fm N
   obtain⟨c,hc,e⟩:=bK G ha
   have cm:=Oi hc
   have S:=I.es c cm
   have d:=(s1.trans s2).trans s3
   have m:=s3 _ _ e
   refine gn ?_
   refine tM ⟨_,rfl,_,rfl,_,rfl,f,p,a,L,R,C,O,g.hf,g.rm,q3 c,rfl,hf.same d,sz,(t.same d).th,I.h0,I.h2,by rw[<-HX S];exact m,λH4 k M hk=>⟨_,rfl,?_⟩⟩
   cases k with
   |true=>
    refine iC ⟨_,rfl,s3.trans M,λc' B=>?_⟩
    rw[bO hc] at B
    rcases Ot.mp B with h|h
    ·exact b c' h
    ·rw[NR.mp h];exact hk.mp rfl
   |false=>
    refine gZ ?_
    obtain⟨b1,b2,b3⟩:=K7 S
    refine dR (t:=dv) ⟨trivial,⟨_,rfl,rfl,.tup a [(q3 c).1,(q3 c).2.1,(q3 c).2.2] (bY.of (by have:=vA S (M _ _ m);exact this)) (NI 3) (λi hi=>by simp only[NK,N3,or_false] at hi;rcases hi with rfl|rfl|rfl<;>exact lg (by omega) (by omega))⟩,trivial,trivial⟩ (qe (λaf=>?_) _ (d.trans M))
    have:=hk.mpr (af g X c cm)
    cases this
  ·rintro σ H3 ⟨o,rfl,s3,b⟩
   rw[NG,la,Ob] at b
   refine⟨_,_,rfl,(s1.trans s2).trans s3,λg' F=>?_⟩
   rw[bO W] at F
   rcases Ot.mp F with h|h
   ·exact all g' h
   ·rw[NR.mp h];exact b
 ·rintro σ H1 ⟨U,D,rfl,s1,all⟩
  rw[NG,lp,Ob] at all
  exact q all _ s1
theorem u9 (hB:K.In base)(D:fE P w K mg base cNet "ends" 1 ["self"] (mH cNet))(F:fE P w K mg base cBundle "ends" 1 ["self"] (lX cBundle))(G:aG P w K mg base "clash_at_all" 3 ["thing", "spots", "other", "places"] (tK cNet cBundle)):fK P w K mg base 4 "check_crowds" rR ["things"] (pO cNet cBundle cCrowded):=by
 refine rd ["things", "place", "thing", "other"] λnd _ _ _ _ _ H vs Q E J h=>?_
 obtain⟨l,N,rfl,⟨ps,O,R⟩,ok,C,q,qe⟩:=h
 refine⟨_,(aO (fz PassesOwn.leaving rfl (CH (by rfl) T.enumerate_ jZ (aE (aw 0))) (eF rfl (aI (cq 1 nd) (aI (cq 2 nd) cC))) (aO (fz PassesOwn.leaving rfl (bw (bg bE (aw 0) (bq (ao aV (aw 1) ae)) bX)) (cq 3 nd) (aO (cL (gG (bt G J (ax (aw 2) (ax (mQ (aw 2) T.cl_Net T.cl_Bundle D F (J.mono (by decide)) (J.mono (by decide))) (aJ (aw 3) (mQ (aw 3) T.cl_Net T.cl_Bundle D F (J.mono (by decide)) (J.mono (by decide)))))))) (cY (eQ hB T.eCrowded.bd T.eCrowded.ex) Oz rfl (by rfl) dz (aE ar)))))))),?_⟩
 dsimp only[fo]
 have B:sizeLine=2^24:=rfl
 have lp:ps.length=N.length:=Paired.length R
 refine⟨_,rfl,l,rfl,⟨_,bf.of O⟩,?_⟩
 refine yC (K:=K) (xs:=ps.map V.ref) (λi σ H'=>∃W x2 I:Option V,σ=[some (.ref l),W,x2,I]/\au H H'/\∀a b g h,a<b->a<i->N[a]?=some g->N[b]?=some h->Cm g h=false) ⟨none,none,none,rfl,au.refl H,λa b _ _ _ z=>absurd z (OZ _)⟩ (λi σ H' _ ⟨_,_,_,_,s,_⟩=>bf.of (s _ _ O)) ?_ ?_
 ·rintro i y pp σ H0 hx A ⟨W,x2,I,rfl,s0,all⟩
  obtain⟨p,u,rfl⟩:=fm hx
  obtain⟨g,M,t⟩:=bK R u
  have og:=ok g (Oi M)
  have hi:=bU M
  refine⟨pp,_,rfl,bY.of ah,rfl,_,_,rfl,_,_,rfl,rfl,?_⟩
  have s1:au H (upd H0 pp (.tup [.int ((i:Nat):Int),.ref p])):=s0.upd A
  revert s1
  generalize upd H0 pp (.tup [.int ((i:Nat):Int),.ref p])=H1
  intro s1
  refine yi (Dj (K:=K) (aa rfl) (aP (g:=λi j=>V.int (i+j)) (aa rfl) aq) (bf.of (s1 _ _ O)) λls Y=>?_)
  have ec:fT (ps.map V.ref) (some (((i:Nat):Int)+1)) none=(ps.drop (i+1)).map V.ref:=by
   rw[show((i:Nat):Int)+1=((i+1:Nat):Int) by lia,Do _ _ (by rw[NG];lia),List.map_drop]
  rw[ec]
  have s2:au H1 (upd H1 ls (.lst ((ps.drop (i+1)).map V.ref))):=(au.refl H1).upd Y
  have m:upd H1 ls (.lst ((ps.drop (i+1)).map V.ref)) ls=some (.lst ((ps.drop (i+1)).map V.ref)):=ah
  revert s2 m
  generalize upd H1 ls (.lst ((ps.drop (i+1)).map V.ref))=H2
  intro s2 m
  have o:=s1.trans s2
  refine⟨ls,rfl,⟨_,bf.of m⟩,?_⟩
  refine cZ (K:=K) (xs:=(ps.drop (i+1)).map V.ref) (λj σ H'=>∃I:Option V,σ=[some (.ref l),some (.int ((i:Nat):Int)),some (.ref p),I]/\au H2 H'/\∀b h,i<b->b<i+1+j->N[b]?=some h->Cm g h=false) ⟨_,rfl,au.refl H2,λb h h1 h2=>by lia⟩ (λi σ H' _ ⟨_,_,s,_⟩=>bf.of (s _ _ m)) ?_ ?_
  ·rintro j x σ H3 hx ⟨v,rfl,s3,c⟩
   obtain⟨p',Z,rfl⟩:=fm hx
   rw[List.getElem?_drop] at Z
   obtain⟨h,U,t'⟩:=bK R Z
   have oh:=ok h (Oi U)
   have d:=o.trans s3
   refine gn ?_
   refine tM (HZ (ip (aa rfl) (eI (qV (aa rfl) (t.same d) og.ln λH4 l4 s4 n4 a4=>ip (aa rfl) (eI (qV (aa rfl) (t'.same (d.trans s4)) oh.ln λH5 l5 s5 n5 a5=>?_))))))
   have f:=s4.trans s5
   refine⟨p,l4,p',l5,g,h,rfl,t.same (d.trans f),t'.same (d.trans f),a4.same s5,a5,og,oh,λH6 s6=>⟨_,rfl,?_⟩⟩
   have r:=(d.trans f).trans s6
   cases e:Cm g h with
   |true=>exact gZ (iV (qe ⟨i,i+1+j,g,h,by lia,M,U,e⟩ _ r))
   |false=>
    refine iC ⟨_,rfl,s3.trans (f.trans s6),λb h' h1 h2 X=>?_⟩
    by_cases eb:b=i+1+j
    ·subst eb
     rw[U] at X
     cases X
     exact e
    ·exact c b h' h1 (by lia) X
  ·rintro σ H3 ⟨v,rfl,s3,c⟩
   rw[NG,OC] at c
   refine⟨_,_,_,rfl,o.trans s3,λa b g1 h1 n Z e1 S=>?_⟩
   by_cases ea:a=i
   ·subst ea
    rw[M] at e1
    cases e1
    have:=bU S
    exact c b h1 n (by lia) S
   ·exact all a b g1 h1 n (by lia) e1 S
 ·rintro σ H1 ⟨W,x2,I,rfl,s1,all⟩
  rw[NG,lp] at all
  refine q (λz9=>?_) _ s1
  obtain⟨a,b,g,h,n,h1,h2,e⟩:=z9
  rw[all a b g h n (bU h1) h1 h2] at e
  cases e
theorem zj (N:aG P w K mg base "check_names" 1 ["things"] (rS cNet cBundle cTwice))(S:aG P w K mg base "check_fits" 5 ["floor", "things"] (xO cNet cBundle cFloor cNoFit))(M:aG P w K mg base "check_crowds" 4 ["things"] (pO cNet cBundle cCrowded)):yZ P w K mg base 6 "__init__" "Board.__init__" yf ["self", "floor", "things"] (tR cNet cBundle cFloor cBoard cTwice cNoFit cCrowded):=by
 refine rd ["self", "floor", "things"] λZ _ _ _ _ _ H vs Q E hr h=>?_
 obtain⟨p,dx,f,l,ps,gs,L,R,C,rs,k,rfl,X,hf,sz,hl,W,ok,u,du,q,qe⟩:=h
 refine⟨_,(aj (aF (fF N hr di (aE (aw 2)))) (aj (aF (fF S hr di (aJ (aw 1) (aw 2)))) (aj (aF (fF M hr di (aE (aw 2)))) (aY (fw (aw 0) (aw 1) rfl) (fw (aw 0) (dW (lP rfl) T.dict_ (aE (gU ["thing"] [] [] (bw (aw 2)) (dU 0) cM (c9 (aJ (xX (K:=K) rfl (aw 0) rfl) (aw 0)))))) rfl))))),?_⟩
 dsimp only[fo]
 have J:sizeLine=2^24:=rfl
 have lp:ps.length=gs.length:=Paired.length W
 refine⟨_,rfl,l,gs,rfl,⟨ps,hl,W⟩,ok,u,λnt H1 s1=>?_,λtw H1 s1=>?_⟩
 rotate_left
 ·have U:=Kh du tw
  have:=qe (by lia) H1 (λb o _ z=>s1 _ _ z)
  rw[U] at this
  exact this
 refine⟨_,rfl,_,rfl,f,l,gs,L,R,C,rs,rfl,hf.same s1,sz,⟨ps,s1 _ _ hl,DF.same W s1⟩,ok,u,λaf H2 s2=>?_,λnf H2 s2=>?_⟩
 rotate_left
 ·have U:=Lg du nt nf
  have:=qe (by lia) H2 (λb o _ z=>s2 _ _ (s1 _ _ z))
  rw[U] at this
  exact this
 have c:=s1.trans s2
 refine⟨_,rfl,l,gs,rfl,⟨ps,c _ _ hl,DF.same W c⟩,ok,u,λnc H3 s3=>?_,λcr H3 s3=>?_⟩
 rotate_left
 ·have U:=Lq du nt af cr
  have:=qe (by lia) H3 (λb o _ z=>s3 _ _ (c _ _ z))
  rw[U] at this
  exact this
 have A:=c.trans s3
 have U:=Ko du nt af nc
 refine⟨_,rfl,_,rfl,p,cBoard,dx,[],rfl,A _ _ X,T.cl_Board,T.na_Board_floor,(by decide),?_⟩
 have G:l≠p:=lO hl X (λz=>nomatch z)
 have Y:bQ H (upd H3 p (.ins cBoard dx (fc "floor" (.ref f) []))) p:=λb o hb e=>by rw[ay hb];exact A _ _ e
 have v:upd H3 p (.ins cBoard dx (fc "floor" (.ref f) [])) p=some (.ins cBoard dx (fc "floor" (.ref f) [])):=ah
 revert Y v
 generalize upd H3 p (.ins cBoard dx (fc "floor" (.ref f) []))=H4
 intro Y v
 have y:=Y _ _ G hl
 have I:DF cNet cBundle H4 ps gs:=Paired.mapP W λa g e=>Aw e Y (by intro C' aC fs' h;rw[X] at h;cases h;rfl) (by rintro t h;rw[X] at h;cases h)
 refine⟨_,rfl,l,rfl,⟨_,bf.of y⟩,λD nD=>?_⟩
 refine da (K:=K) (xs:=ps.map V.ref) (λi τ H'=>∃(x0:Option V) (ts:List Addr),τ=[x0]/\au H4 H'/\H' D=some (.lst (ts.map V.ref))/\ts.length=i/\L7 H' ts (FZ (gs.take i) (ps.take i))) ⟨none,[],rfl,(au.refl H4).upd nD,ah,rfl,.nil⟩ (λj τ H' _ ⟨_,_,_,s,_⟩=>bf.of (s _ _ y)) ?_ ?_
 ·rintro i x τ H' hx ⟨x0,ts,rfl,s5,hD,n,m⟩
  obtain⟨a,ha,rfl⟩:=fm hx
  obtain⟨g,hg,t⟩:=bK I ha
  have hi:=bU hg
  refine gn (gA ?_)
  refine mK (vs:=[.str g.nm,.ref a]) (ag (Dq (t.same s5) (aa rfl) T.cl_Net T.na_Net_name T.cl_Bundle T.na_Bundle_name (λ_ b=>b.name)) (ag (aa rfl) az)) (by show 2<=sizeLine;decide) λtt O=>?_
  have B:tt≠D:=λz=>by rw[z,hD] at O;cases O
  refine⟨_,by rw[ay (N6 B)];exact hD,by rw[NG];lia,_,ts++[tt],rfl,dI (s5.upd O) nD,by rw[ah,NW];rfl,by rw[NM,n];rfl,?_⟩
  rw[AC hg ha]
  refine CJ (Paired.mapP m λb kv e=>?_) ?_
  ·rw[ay (lO e hD (λz=>nomatch z)),ay (aD e O)];exact e
  ·rw[ay B,ah];rfl
 ·rintro τ H' ⟨x0,ts,rfl,s5,hD,n,m⟩
  rw[NG,lp,Ob,<-lp,Ob] at m
  refine⟨D,ts,FZ gs ps,rfl,hD,m,λd Z=>?_⟩
  rw[IZ (Ii lp nt)]
  have r:=s5 _ _ v
  refine⟨_,rfl,p,cBoard,dx,_,rfl,by rw[ay (aD r Z)];exact r,T.cl_Board,T.na_Board_by_name,Qo (bN _ _ _) (by decide),?_⟩
  have F:d≠p:=λz=>by rw[z,r] at Z;cases Z
  have b6:bQ H (upd (upd H' d (.dK (FZ gs ps))) p (.ins cBoard dx (fc "by_name" (.ref d) (fc "floor" (.ref f) [])))) p:=λb o hb e=>by
   have e5:=s5 _ _ (Y _ _ hb e)
   rw[ay hb,ay (aD e5 Z)];exact e5
  refine q U _ b6 ⟨⟨dx,_,d,ah,?_,?_,?_,?_,by rw[ay F,ah]⟩,Paired.mapP W λa g e=>Aw e b6 (by intro C' aC fs' h;rw[X] at h;cases h;rfl) (by rintro t h;rw[X] at h;cases h)⟩
  ·rw[aQ,if_neg (by decide+kernel),aQ,if_pos rfl]
  ·rw[aQ,if_pos rfl]
  ·rw[aQ,if_neg (by decide+kernel),aQ,if_neg (by decide+kernel)];rfl
  ·rw[aQ,if_neg (by decide+kernel),aQ,if_neg (by decide+kernel)];rfl
theorem yW (g:aG P w K mg base "check_inside" 2 ["sizes", "spot"] (je cOutOfFloor)):yZ P w K mg base 3 "is_rock" "Floor.is_rock" yt ["self", "spot"] (sg cFloor):=by
 refine rd ["self", "spot"] λB _ _ _ _ _ H vs Q E j h=>?_
 obtain⟨p,b,L,R,C,I,u,rfl,o,sz,i,hi,q⟩:=h
 refine⟨_,(aY (aF (fF g j gM (aJ (dD (aw 0) rfl) (aw 1)))) (aN (Hw (Be (dh.one j) (aw 1) (dD (aw 0) rfl))))),?_⟩
 dsimp only[fo]
 obtain⟨dx,z,d,fs,e,h1,h2,v,F,r,A,s⟩:=o.ex
 have f:=hi
 obtain⟨x,y,w⟩:=u
 obtain⟨m,J,n,D,l,M⟩:=(show kE L R C x y w from hi)
 have N:=sz.l1
 have G:=sz.r1
 have c:=sz.c1
 obtain⟨L,rfl⟩:=OO (show 0<=L by lia)
 obtain⟨R,rfl⟩:=OO (show 0<=R by lia)
 obtain⟨C,rfl⟩:=OO (show 0<=C by lia)
 obtain⟨x,rfl⟩:=OO m
 obtain⟨y,rfl⟩:=OO n
 obtain⟨w,rfl⟩:=OO l
 have a:In (L,R,C) (x,y,w):=show x<L/\y<R/\w<C by lia
 refine⟨_,rfl,p,cFloor,dx,fs,_,rfl,h1,T.cl_Floor,T.na_Floor_sizes,h2,_,rfl,z,b,(L,R,C),(x,y,w),rfl,r,i,(show L<10^20/\R<10^20/\C<10^20 by lia),(show x<10^20/\y<10^20/\w<10^20 by lia),λ_=>?_,λh=>(h a).elim⟩
 refine⟨_,rfl,_,rfl,p,cFloor,dx,fs,_,rfl,h1,T.cl_Floor,T.na_Floor_rocks,v,d,_,rfl,qQ.t (k:=k3 ((x:Int),(y:Int),(w:Int))) A i,?_⟩
 rw[s _]
 exact q
theorem EZ(F:Bz K "read_board" "read_board" pE f fd)(N:fW P w K mg base cBoard "Board" 6 ["self", "floor", "things"] (tR cNet cBundle cFloor cBoard cTwice cNoFit cCrowded))(T:aG P w K mg base "rows_told" 7 ["page"] (qI cBadRow))(O:aG P w K mg base "floor_told" 5 ["told"] (tf cFloor cBadSize cBadPrice cOutOfFloor))(S:aG P w K mg base "thing_told" 5 ["kind", "parts"] (sx cNet cBundle cBadThing)):gr P w K mg base 8 f fd ["page"] (nG cBadRow cBadSize cBadPrice cOutOfFloor cBadThing cTwice cNoFit cCrowded):=by
 have sc:eP ["page", "told", "floor", "things"] ["page"] (aS pE):=⟨rfl,rfl,rfl,by decide+kernel,rfl,by decide+kernel,by decide+kernel⟩
 have nd:=sc.nd
 refine F.ok sc (λvs H Q E h=>by first|(cases h;subst_vars;rfl)|repeat (first|(obtain⟨rfl,_⟩:=h;rfl)|(obtain⟨_,h⟩:=h))) (λbr A outer s H vs Q E M h=>?_)
 obtain⟨x,Ws,rfl,pg,qe,qo⟩:=h
 refine⟨_,(aj (aX 1 nd (fF T M di (aE (aw 0)))) (aj (aX 2 nd (fF O M di (aE (aw 1)))) (aY (pU (i:=3) (ls:=["kind", "parts"]) (ys:=[]) (ix:=[]) (.inl ⟨⟨rfl,rfl,rfl⟩,GC⟩) rfl nd rfl (Or.inl rfl) ⟨rfl,by rfl,by rfl,by rfl,by rfl,rfl⟩ (bw (aw 1)) (λ_ _ _ _ _ _=>(iW (K:=K) (n:=2) rfl rfl (aI (dU 0) (aI (dU 1) cC)) rfl rfl)) (λ_ _ _ _ _ _=>(nr (fR (bP cw (aw 0) ar) (eU (bP cw (aw 0) ar))).pt)) (λ_ _ _ _ _ _ hx=>(fF S M hx (aJ (aw 0) (aw 1)))) (hf:=.inl rfl)) (aN (qT N (M.mono (by decide)) (by rfl) di (aJ (aw 2) (aw 3))))))),?_⟩
 dsimp only[fo]
 have J:sizeLine=2^24:=rfl
 refine cG ?_
 refine(aa rfl:Ev (cV 0) _ _ _) _ ⟨x,Ws,rfl,pg,qe,λR eR l us H1 s1 hl hp=>?_⟩
 obtain⟨z,W,k,rfl,hb,hd,q0,U⟩:=qo R eR
 have lu:us.length<=100:=by
  have h1:=zm eR
  have h2:=xf Ws
  obtain⟨rs,e,_,h3,_⟩:=pg
  rw[e,NG] at h2
  rw[e] at h1
  rw[Paired.length hp];lia
 try dsimp only
 refine eJ (σ':=[_,_,_,_]) rfl ?_
 refine cG (jO (ag (aa rfl) az) ⟨l,us,z,W,rfl,hl,hp,lu,λr M=>(hb r M).1,λe H' s=>?_,λX e H' s=>?_,λX e2 e H' s=>?_,λX e2 e3=>?_⟩)
 ·cases hd.k1 e;exact U (by decide) _ (s1.trans s)
 ·cases hd.k2 X e;exact U (by decide) _ (s1.trans s)
 ·cases hd.k3 X e2 e;exact U (by decide) _ (s1.trans s)
 obtain⟨p0,p1,n,Y,hk⟩:=hd.k4 X e2 e3
 refine⟨p0,p1,n,Y.rk,Y.tl,Y.tn,λf H2 s2 nf hF=>?_⟩
 try dsimp only
 refine eJ (σ':=[_,_,_,_]) rfl ?_
 have B:=s2 _ _ hl
 refine⟨_,rfl,l,rfl,⟨_,bf.of B⟩,λD nD=>?_⟩
 refine da (K:=K) (xs:=us) (λi τ H'=>∃(x0 x1:Option V) (ps:List Addr),τ=[x0,x1]/\au H2 H'/\H' D=some (.lst (ps.map V.ref))/\Paired (λp g=>Bf cNet cBundle H' p g) ps (((.floor z::W).take i).filterMap kJ)/\ps.length<=i/\((.floor z::W).take i).all lK=true) ⟨none,none,[],rfl,(au.refl H2).upd nD,ah,.nil,NI _,rfl⟩ (λi τ H' _ ⟨_,_,_,_,s,_⟩=>bf.of (s _ _ B)) ?_ ?_
 ·rintro i v τ H' hx ⟨x0,x1,ps,rfl,s,hD,c,I,a⟩
  obtain⟨r,M,t,u,rfl,ht,hu⟩:=bK hp hx
  have hi:=bU hx
  have q:=s2.trans s
  have m:=Oi M
  refine⟨t,_,rfl,bY.of (q _ _ ht),rfl,?_⟩
  refine⟨_,_,rfl,gn ?_⟩
  refine⟨_,_,rfl,gn ?_⟩
  refine⟨rfl,?_⟩
  refine iD (iO (DI (j:=5) (aa rfl) (by decide)) λ_=>DI (j:=6) (aa rfl) (by decide)) (yj (λe=>?_) λe=>?_)
  ·have hk:kd r=5\/kd r=6:=by simpa using e
   obtain⟨g,Z⟩:=CG.mp hk
   refine jO (ag (aa rfl) (ag (aa rfl) az)) ⟨u,r,g,rfl,hu.same q,Z,(hb r m).1,(hb r m).2,λo p H3 s3 np hA=>?_,λo H3 s3=>?_⟩
   ·have d:=s3 _ _ hD
    refine⟨_,d,by rw[NG];lia,_,_,ps++[p],rfl,dI (s.trans s3) nD,by rw[ah,NW];rfl,?_,by rw[NM];show ps.length+1<=_;lia,gR a M o⟩
    rw[bO M,O5,OB,Z,QG]
    have kp:∀{p' g'},Bf cNet cBundle H3 p' g'->Bf cNet cBundle (upd H3 D (.lst (ps.map V.ref++[.ref p]))) p' g':=λh=>h.up (λ_ _ e=>by rw[ay (ER e d λz=>nomatch z)];exact e) λ_ _ _ e=>by rw[ay (lO e d (λz=>nomatch z))];exact e
    exact dy (R:=λp g=>Bf cNet cBundle _ p g) (kp hA) (Paired.mapP c λ_ _ e=>kp (e.up (λ_ _ e=>s3 _ _ e) λ_ _ _ e=>s3 _ _ e))
   ·have hf:W.all lK=false:=by
     rcases NK.mp m with rfl|h
     ·cases Z
     ·exact jJ h o
    rcases hk':hk with hk|hk<;>skip
    all_goals
     rcases‹(W.all lK=false/\k=4)\/_›with ⟨_,rfl⟩|⟨h,_⟩
     ·exact U (by decide) _ (s1.trans (q.trans s3))
     ·rw[hf] at h;cases h
  ·have hk:¬(kd r=5\/kd r=6):=by simpa using e
   have hn:kJ r=none:=by
    cases h:kJ r with
    |none=>rfl
    |some g=>exact absurd (CG.mpr ⟨g,h⟩) hk
   refine⟨_,_,ps,rfl,s,hD,?_,by lia,gR a M (by cases r<;>first|rfl|cases hn)⟩
   rw[bO M,O5,OB,hn,QG,Os]
   exact c
 rintro τ H3 ⟨x0,x1,ps,rfl,s3,hD,c,_,a⟩
 rw[Paired.length hp,Ob] at c a
 have c:Paired (λp g=>Bf cNet cBundle H3 p g) ps (W.filterMap kJ):=c
 have a:W.all lK=true:=a
 rcases hk with ⟨h,_⟩|⟨_,j,dj,ek,a1,l7⟩
 ·rw[a] at h;cases h
 have G:∀g∈(W.filterMap kJ).map lU,sU g:=λg Z=>by
  obtain⟨h,hh,rfl⟩:=N0.mp Z
  obtain⟨r,M,e⟩:=Oy.mp hh
  exact Lu e (hb r (NV _ M)).1 (Oa.mp a r M) (l7 h hh)
 have sz:Sz z:=(GE X e2 e3 Y.rk Y.tl Y.tn).z
 refine⟨_,rfl,_,rfl,?_⟩
 intro p dx np a5 ne
 have sm:au H3 (upd (upd H3 dx (.own p)) p (.ins cBoard dx [])):=i_ np a5
 have y:=s1.trans (s2.trans s3)
 have C:DF cNet cBundle H3 ps ((W.filterMap kJ).map lU):=C6 (Paired.mapP c λ_ _ e=>e.ta)
 refine⟨p,dx,f,D,ps,(W.filterMap kJ).map lU,_,_,_,[r3 p0],j,rfl,ah,(JR hF).same (s3.trans sm),?_,sm _ _ hD,DF.same C sm,G,by rw[NG];exact a1,dj,λe H' b _=>⟨rfl,?_⟩,λe H' b=>?_⟩
 ·obtain⟨⟨_,_⟩,⟨_,_⟩,_,_⟩:=sz
  exact⟨by show(1:Int)<=(z.1:Nat);lia,by show((z.1:Nat):Int)<=4;lia,by show(1:Int)<=(z.2.1:Nat);lia,by show((z.2.1:Nat):Int)<=16;lia,by show(1:Int)<=(z.2.2:Nat);lia,by show((z.2.2:Nat):Int)<=16;lia⟩
 ·rw[if_pos e] at ek
  exact q0 ek _ _ (y.trans (bQ.same sm np b))
 ·rw[if_neg e] at ek
  have U:=U (by lia) _ (y.trans (bQ.same sm np b))
  have:E_ cBadSize cBadPrice cOutOfFloor cBadThing cTwice cNoFit cCrowded k=Lv cTwice cNoFit cCrowded j:=by
   rw[ek]
   rcases dj with ⟨rfl,_⟩|⟨rfl,_⟩|⟨rfl,_⟩|⟨rfl,_⟩
   ·rfl
   ·rfl
   ·rfl
   ·exact(e rfl).elim
  rw[this] at U
  exact U
theorem Dm (j:aG P w K mg base "read_board" 8 ["page"] (nG cBadRow cBadSize cBadPrice cOutOfFloor cBadThing cTwice cNoFit cCrowded)):fK P w K mg base 9 "_law_asked" B7 ["page"] mm:=by
 refine rd ["page", "kind", "row", "e"] λf _ _ _ _ _ H vs Q E D h=>?_
 obtain⟨x,Ws,k,n,rfl,F,p,q⟩:=h
 refine⟨_,(aj (aX 1 f ar) (aj (aX 2 f ae) (aY (qK ⟨rfl,rfl,rfl⟩ (λEx G A y=>(aO (aF (fF j D y (aE (aw 0)))))) (Bb (i:=3) f rfl rfl ⟨rfl,rfl,rfl⟩ (by rfl) T.eBadRow.bd (λa=>(aY (aX 1 f ar) (aX 2 f (v_ (aw 3) rfl)))) (gE ⟨rfl,rfl,rfl⟩ (by rfl) T.eBadSize.bd (λa=>(aO (aX 1 f ar))) (gE ⟨rfl,rfl,rfl⟩ (by rfl) T.eBadPrice.bd (λa=>(aO (aX 1 f ar))) (gE ⟨rfl,rfl,rfl⟩ (by rfl) T.eOutOfFloor.bd (λa=>(aO (aX 1 f ar))) (gE ⟨rfl,rfl,rfl⟩ (by rfl) T.eBadThing.bd (λa=>(aO (aX 1 f ar))) (gE ⟨rfl,rfl,rfl⟩ (by rfl) T.eTwice.bd (λa=>(aO (aX 1 f ar))) (gE ⟨rfl,rfl,rfl⟩ (by rfl) T.eNoFit.bd (λa=>(aO (aX 1 f ar))) (gE ⟨rfl,rfl,rfl⟩ (by rfl) T.eCrowded.bd (λa=>(aO (aX 1 f ar))) uV))))))))) (aN (c9 (aJ (aw 1) (aw 2))))))),?_⟩
 dsimp only[fo]
 refine cK aq ?_
 refine cK aq ?_
 refine eJ (σ':=[_,_,_,_]) rfl ?_
 have b:∀(k n:Nat) (o:Option V) (H':Hp),au H H'->(∀t H',au H H'->H' t=some (.tup [.str (kN k),.int (n:Nat)])->Q (.ref t) H')->vU (vK (b9 (cV 1) (b9 (cV 2) dv))) {nx:=λ_ H'=>Q .non H',rt:=Q} [some (.str x),some (.str (kN k)),some (.int (n:Nat)),o] H':=λk n o H' s q=>
  vB (vs:=[.str (kN k),.int (n:Nat)]) (ag (aa rfl) (ag (aa rfl) az)) (by show 2<=sizeLine;decide) λt nt=>q t _ (s.upd nt) ah
 refine⟨λg C u H'=>g=[some (.str x),some (.str (Str.ofString "read")),some (.int 0),none]/\au H H'/\((u=none/\n=0/\1<=k/\k<=7/\C=.ref (E_ cBadSize cBadPrice cOutOfFloor cBadThing cTwice cNoFit cCrowded k))\/(k=8/\C=.ref cBadRow/\∃d,u=some d/\H' d=some (.xd [("row",.int (n:Nat))]))),λG A=>?_,?_,?_⟩
 ·refine(aa rfl:Ev (cV 0) _ _ _) _ ⟨x,Ws,rfl,F,λm e d H' s l=>?_,λR e=>?_⟩
  ·cases p with
   |row n e2=>
    rw[e2] at e;cases e
    exact⟨rfl,s,.inr ⟨rfl,rfl,d,rfl,l⟩⟩
   |ok z W k e2=>rw[e2] at e;cases e
  ·cases p with
   |row n e2=>rw[e2] at e;cases e
   |ok z W k e2 hb l=>
    rw[e2] at e;cases e
    refine⟨z,W,k,rfl,hb,l,λe v H' s=>?_,λe H' s=>⟨rfl,s,.inl ⟨rfl,rfl,by lia,l.le,rfl⟩⟩⟩
    subst e
    exact b 0 0 none H' s q
 ·rintro g C H' ⟨rfl,s,⟨_,B,h1,J,rfl⟩|⟨_,_,d,e,_⟩⟩ dd a r
  ·subst B
   have c:k=1\/k=2\/k=3\/k=4\/k=5\/k=6\/k=7:=by lia
   rcases c with rfl|rfl|rfl|rfl|rfl|rfl|rfl
   ·exact⟨false,T.x10,⟨true,T.x11,b 1 0 _ H' s q⟩⟩
   ·exact⟨false,T.x20,⟨false,T.x21,⟨true,T.x22,b 2 0 _ H' s q⟩⟩⟩
   ·exact⟨false,T.x30,⟨false,T.x31,⟨false,T.x32,⟨true,T.x33,b 3 0 _ H' s q⟩⟩⟩⟩
   ·exact⟨false,T.x40,⟨false,T.x41,⟨false,T.x42,⟨false,T.x43,⟨true,T.x44,b 4 0 _ H' s q⟩⟩⟩⟩⟩
   ·exact⟨false,T.x50,⟨false,T.x51,⟨false,T.x52,⟨false,T.x53,⟨false,T.x54,⟨true,T.x55,b 5 0 _ H' s q⟩⟩⟩⟩⟩⟩
   ·exact⟨false,T.x60,⟨false,T.x61,⟨false,T.x62,⟨false,T.x63,⟨false,T.x64,⟨false,T.x65,⟨true,T.x66,b 6 0 _ H' s q⟩⟩⟩⟩⟩⟩⟩
   ·exact⟨false,T.x70,⟨false,T.x71,⟨false,T.x72,⟨false,T.x73,⟨false,T.x74,⟨false,T.x75,⟨false,T.x76,⟨true,T.x77,b 7 0 _ H' s q⟩⟩⟩⟩⟩⟩⟩⟩
  ·cases e
 ·rintro g C d H' ⟨rfl,s,⟨e,_⟩|⟨rfl,rfl,I,e,l⟩⟩ a r
  ·cases e
  ·cases e
   have s2:au H' (upd H' a (Bh a (.ref cBadRow) (some d))):=(au.refl H').upd r
   refine⟨true,T.x00,?_⟩
   refine⟨_,rfl,a,cBadRow,d,_,_,rfl,ah,s2 _ _ l,T.eBadRow.at_,rfl,?_⟩
   exact b 8 n _ _ (s.trans s2) q
theorem yN (j:aG P w K mg base "read_board" 8 ["page"] (nG cBadRow cBadSize cBadPrice cOutOfFloor cBadThing cTwice cNoFit cCrowded)):fK P w K mg base 9 "_law_asked_back" yc ["page"] mm:=by
 refine rd ["page", "kind", "row", "e"] λf _ _ _ _ _ H vs Q E D h=>?_
 obtain⟨x,Ws,k,n,rfl,F,p,q⟩:=h
 refine⟨_,(aj (aX 1 f ar) (aj (aX 2 f ae) (aY (qK ⟨rfl,rfl,rfl⟩ (λEx G A y=>(aO (aF (fF j D y (aE (aw 0)))))) (gE ⟨rfl,rfl,rfl⟩ (by rfl) T.eCrowded.bd (λa=>(aO (aX 1 f ar))) (gE ⟨rfl,rfl,rfl⟩ (by rfl) T.eNoFit.bd (λa=>(aO (aX 1 f ar))) (gE ⟨rfl,rfl,rfl⟩ (by rfl) T.eTwice.bd (λa=>(aO (aX 1 f ar))) (gE ⟨rfl,rfl,rfl⟩ (by rfl) T.eBadThing.bd (λa=>(aO (aX 1 f ar))) (gE ⟨rfl,rfl,rfl⟩ (by rfl) T.eOutOfFloor.bd (λa=>(aO (aX 1 f ar))) (gE ⟨rfl,rfl,rfl⟩ (by rfl) T.eBadPrice.bd (λa=>(aO (aX 1 f ar))) (gE ⟨rfl,rfl,rfl⟩ (by rfl) T.eBadSize.bd (λa=>(aO (aX 1 f ar))) (Bb (i:=3) f rfl rfl ⟨rfl,rfl,rfl⟩ (by rfl) T.eBadRow.bd (λa=>(aY (aX 1 f ar) (aX 2 f (v_ (aw 3) rfl)))) uV))))))))) (aN (c9 (aJ (aw 1) (aw 2))))))),?_⟩
 dsimp only[fo]
 refine cK aq ?_
 refine cK aq ?_
 refine eJ (σ':=[_,_,_,_]) rfl ?_
 have b:∀(k n:Nat) (o:Option V) (H':Hp),au H H'->(∀t H',au H H'->H' t=some (.tup [.str (kN k),.int (n:Nat)])->Q (.ref t) H')->vU (vK (b9 (cV 1) (b9 (cV 2) dv))) {nx:=λ_ H'=>Q .non H',rt:=Q} [some (.str x),some (.str (kN k)),some (.int (n:Nat)),o] H':=λk n o H' s q=>
  vB (vs:=[.str (kN k),.int (n:Nat)]) (ag (aa rfl) (ag (aa rfl) az)) (by show 2<=sizeLine;decide) λt nt=>q t _ (s.upd nt) ah
 refine⟨λg C u H'=>g=[some (.str x),some (.str (Str.ofString "read")),some (.int 0),none]/\au H H'/\((u=none/\n=0/\1<=k/\k<=7/\C=.ref (E_ cBadSize cBadPrice cOutOfFloor cBadThing cTwice cNoFit cCrowded k))\/(k=8/\C=.ref cBadRow/\∃d,u=some d/\H' d=some (.xd [("row",.int (n:Nat))]))),λG A=>?_,?_,?_⟩
 ·refine(aa rfl:Ev (cV 0) _ _ _) _ ⟨x,Ws,rfl,F,λm e d H' s l=>?_,λR e=>?_⟩
  ·cases p with
   |row n e2=>
    rw[e2] at e;cases e
    exact⟨rfl,s,.inr ⟨rfl,rfl,d,rfl,l⟩⟩
   |ok z W k e2=>rw[e2] at e;cases e
  ·cases p with
   |row n e2=>rw[e2] at e;cases e
   |ok z W k e2 hb l=>
    rw[e2] at e;cases e
    refine⟨z,W,k,rfl,hb,l,λe v H' s=>?_,λe H' s=>⟨rfl,s,.inl ⟨rfl,rfl,by lia,l.le,rfl⟩⟩⟩
    subst e
    exact b 0 0 none H' s q
 ·rintro g C H' ⟨rfl,s,⟨_,B,h1,J,rfl⟩|⟨_,_,d,e,_⟩⟩ dd a r
  ·subst B
   have c:k=1\/k=2\/k=3\/k=4\/k=5\/k=6\/k=7:=by lia
   rcases c with rfl|rfl|rfl|rfl|rfl|rfl|rfl
   ·exact⟨false,T.x17,⟨false,T.x16,⟨false,T.x15,⟨false,T.x14,⟨false,T.x13,⟨false,T.x12,⟨true,T.x11,b 1 0 _ H' s q⟩⟩⟩⟩⟩⟩⟩
   ·exact⟨false,T.x27,⟨false,T.x26,⟨false,T.x25,⟨false,T.x24,⟨false,T.x23,⟨true,T.x22,b 2 0 _ H' s q⟩⟩⟩⟩⟩⟩
   ·exact⟨false,T.x37,⟨false,T.x36,⟨false,T.x35,⟨false,T.x34,⟨true,T.x33,b 3 0 _ H' s q⟩⟩⟩⟩⟩
   ·exact⟨false,T.x47,⟨false,T.x46,⟨false,T.x45,⟨true,T.x44,b 4 0 _ H' s q⟩⟩⟩⟩
   ·exact⟨false,T.x57,⟨false,T.x56,⟨true,T.x55,b 5 0 _ H' s q⟩⟩⟩
   ·exact⟨false,T.x67,⟨true,T.x66,b 6 0 _ H' s q⟩⟩
   ·exact⟨true,T.x77,b 7 0 _ H' s q⟩
  ·cases e
 ·rintro g C d H' ⟨rfl,s,⟨e,_⟩|⟨rfl,rfl,I,e,l⟩⟩ a r
  ·cases e
  ·cases e
   have s2:au H' (upd H' a (Bh a (.ref cBadRow) (some d))):=(au.refl H').upd r
   refine⟨false,T.x07,⟨false,T.x06,⟨false,T.x05,⟨false,T.x04,⟨false,T.x03,⟨false,T.x02,⟨false,T.x01,⟨true,T.x00,?_⟩⟩⟩⟩⟩⟩⟩⟩
   refine⟨_,rfl,a,cBadRow,d,_,_,rfl,ah,s2 _ _ l,T.eBadRow.at_,rfl,?_⟩
   exact b 8 n _ _ (s.trans s2) q
theorem uJ (l:aG P w K mg base "read_board" 8 ["page"] (nG cBadRow cBadSize cBadPrice cOutOfFloor cBadThing cTwice cNoFit cCrowded)):fK P w K mg base 9 "_law_refused" uf ["page"] pF:=by
 refine rd ["page", "base", "e"] λo _ _ _ _ _ H vs Q E F h=>?_
 obtain⟨x,Ws,k,n,rfl,G,y,q⟩:=h
 refine⟨_,(aj (aX 1 o iG) (aY (qK ⟨rfl,rfl,rfl⟩ (λEx I D B=>(aO (aF (fF l F B (aE (aw 0)))))) (Bb (i:=2) o rfl rfl ⟨rfl,rfl,rfl⟩ (by rfl) T.eWireError.bd (λa=>(aO (aX 1 o (dn qz T.isinstance_ (aJ (aw 2) (q_ (v:=.ty "ValueError") (by rfl) T.ValueError_ oQ (by rfl))))))) uV)) (aN (aw 1)))),?_⟩
 dsimp only[fo]
 refine cK aq ?_
 refine eJ (σ':=[_,_,_]) rfl ?_
 have c:∀(b:Bool) (A:Option V) (H':Hp),au H H'->b=decide (k≠0)->vU (cV 1) {nx:=λ_ H'=>Q .non H',rt:=Q} [some (.str x),some (.bl b),A] H':=λb A H' s e=>dF (aa rfl) (by rw[e];exact q _ s)
 refine⟨λg C J H'=>g=[some (.str x),some (.bl false),none]/\au H H'/\k≠0/\∃j,C=.ref j/\gI K j/\NL K (.ref j) (.ref cWireError)=some true/\OD K (.ref j) (.type "ValueError")=some true,λI D=>?_,?_,?_⟩
 ·refine(aa rfl:Ev (cV 0) _ _ _) _ ⟨x,Ws,rfl,G,λm e d H' s r=>?_,λR e=>?_⟩
  ·cases y with
   |row n e2=>exact⟨rfl,s,by decide,cBadRow,rfl,T.eBadRow.cl,T.wBadRow,T.vBadRow⟩
   |ok z W k e2=>rw[e2] at e;cases e
  ·cases y with
   |row n e2=>rw[e2] at e;cases e
   |ok z W k e2 hb r=>
    rw[e2] at e;cases e
    refine⟨z,W,k,rfl,hb,r,λe v H' s=>?_,λe H' s=>⟨rfl,s,e,_,rfl,?_⟩⟩
    ·subst e
     exact c false none H' s rfl
    ·have:=r.le
     have f:k=1\/k=2\/k=3\/k=4\/k=5\/k=6\/k=7:=by lia
     rcases f with rfl|rfl|rfl|rfl|rfl|rfl|rfl
     ·exact⟨T.eBadSize.ok,T.wBadSize,T.vBadSize⟩
     ·exact⟨T.eBadPrice.ok,T.wBadPrice,T.vBadPrice⟩
     ·exact⟨T.eOutOfFloor.ok,T.wOutOfFloor,T.vOutOfFloor⟩
     ·exact⟨T.eBadThing.ok,T.wBadThing,T.vBadThing⟩
     ·exact⟨T.eTwice.ok,T.wTwice,T.vTwice⟩
     ·exact⟨T.eNoFit.ok,T.wNoFit,T.vNoFit⟩
     ·exact⟨T.eCrowded.ok,T.wCrowded,T.vCrowded⟩
 ·rintro g C H' ⟨rfl,s,u,j,rfl,z,w,v⟩ dd a p
  refine⟨true,w,?_⟩
  refine⟨_,rfl,a,j,dd,_,_,true,rfl,.ty _,ah,z,v,?_⟩
  exact c true _ _ (s.upd p) (by simp[u])
 ·rintro g C d H' ⟨rfl,s,u,j,rfl,z,w,v⟩ a p
  refine⟨true,w,?_⟩
  refine⟨_,rfl,a,j,some d,_,_,true,rfl,.ty _,ah,z,v,?_⟩
  exact c true _ _ (s.upd p) (by simp[u])
theorem FU:fK P w K mg base 1 "_law_word" G6 ["layer", "row", "column"] hV:=by
 refine rd ["layer", "row", "column"] λg _ _ _ _ _ H vs Q E j h=>?_
 obtain⟨a,b,c,rfl,f,d,e,q⟩:=h
 refine⟨_,(aO (aN (ao ak (ao ak (ao ak (ao ak (dW a_ T.str_ (aE (aw 0))) ar) (dW a_ T.str_ (aE (aw 1)))) ar) (dW a_ T.str_ (aE (aw 2)))))),?_⟩
 have m:=nB f
 have l:=nB d
 have i:=nB e
 refine dF (aU (kg (kg (kg (kg (kP (aa rfl) (by lia)) gH ?_) (kP (aa rfl) (by lia)) ?_) gH ?_) (kP (aa rfl) (by lia)) ?_) ?_) q
 ·show(dg a).length+1<=1000;lia
 ·rw[NM];show(dg a).length+1+(dg b).length<=1000;lia
 ·rw[NM,NM];show(dg a).length+1+(dg b).length+1<=1000;lia
 ·rw[NM,NM,NM];show(dg a).length+1+(dg b).length+1+(dg c).length<=1000;lia
 ·unfold cu
  rw[MK,show L "." =[46] by decide+kernel]
  simp
theorem Cy (j:aG P w K mg base "_law_word" 1 ["layer", "row", "column"] hV):fK P w K mg base 2 "_law_outer" D3 ["sizes", "cell"] md:=by
 refine rd ["sizes", "cell", "far"] λx _ _ _ _ _ H vs Q E n h=>?_
 obtain⟨s,R,C,c,rfl,u,⟨⟨B,A⟩,z,D⟩,q⟩:=h
 refine⟨_,(aj (aX 2 x (aR aH (cf (ax ae (aJ ae (ao fM ae ae)))) (ao a9 (ao cH (aw 1) ae) ae))) (aj (cL (bP cw (ao a9 (aw 1) ae) ae) (aN (bt j n (ax (ao aV (aR aZ (aw 0) ae) (aw 2)) (aJ ae (ao bZ (aR aZ (aw 0) ae) ae)))))) (aY (cL (bP cw (ao a9 (aw 1) ae) ae) (aN (bt j n (ax ae (aJ (ao aV (aR aZ (aw 0) ae) (aw 2)) ae))))) (aN (bt j n (ax ae (aJ (ao bZ (aR aZ (aw 0) ae) ae) (ao aV (aR aZ (aw 0) ae) (aw 2))))))))),?_⟩
 dsimp only[fo]
 refine cG (dH (ox (vs:=[.int 0,.int 1,.int ((10:Int)^(17:Int).toNat)]) (ag aq (ag aq (ag (bj aq aq (Ak (by decide) (by decide) (by decide))) az))) (by show 3<=sizeLine;decide) λp y=>?_))
 have s1:au H (upd H p (.lst [.int 0,.int 1,.int ((10:Int)^(17:Int).toNat)])):=(au.refl H).upd y
 have o:upd H p (.lst [.int 0,.int 1,.int ((10:Int)^(17:Int).toNat)]) p=some (.lst [.int 0,.int 1,.int ((10:Int)^(17:Int).toNat)]):=ah
 revert s1 o
 generalize upd H p _=H1
 intro s1 o
 have a:=Gv c
 have b:oN [V.int 0,.int 1,.int ((10:Int)^(17:Int).toNat)] (c/3%3)=some (.int (fr c:Nat)):=by
  unfold fr
  rcases(show c/3%3=0\/c/3%3=1\/c/3%3=2 by lia) with e|e|e<;>rw[e]<;>decide+kernel
 unfold Am at q
 generalize fr c=f at q a b
 refine bB (bj (bj (aa rfl) aq (o9 (by lia) (by lia))) aq (by first|(show(0:Int)<_;lia)|(show(0:Int)<_;decide))) ?_
 have g:f<=10^17:=by rcases a with rfl|rfl|rfl<;>decide
 refine⟨p,_,_,.int (f:Nat),rfl,rfl,bf.of o,b,?_⟩
 try dsimp only
 refine eJ (σ':=[_,_,_]) rfl ?_
 have d:A3 H1 s (2,R,C):=s1 _ _ u
 have l:∀{i:Nat} {v:Nat},oN ((t3 (2,R,C)).map V.int) i=some (.int (v:Nat))->∀{te:TE},Ev te [some (.ref s),some (.int c),some (.int (f:Nat))] H1 (.int (i:Nat))->Ev (gb (yD K) (cV 0) te) [some (.ref s),some (.int c),some (.int (f:Nat))] H1 (.int (v:Nat)):=λh _ e=>bC (aa rfl) e (bY.of d) h
 refine cI (aA (bM (bj (aa rfl) aq (by first|(show(0:Int)<_;lia)|(show(0:Int)<_;decide))) aq)) (λm=>?_) λm=>?_
 ·rw[if_pos (by simpa using m)] at q
  exact eX (bF (vs:=[.int ((2+f:Nat):Int),.int ((0:Nat):Int),.int ((C - 1:Nat):Int)]) (ag (aU (aP (l (i:=0) (v:=2) rfl aq) (aa rfl)) (congrArg V.int (by lia))) (ag aq (ag (aU (aP (l (i:=2) (v:=C) rfl aq) aq) (congrArg V.int (by lia))) az))) ⟨2+f,0,C - 1,rfl,by lia,by lia,by lia,q _ s1⟩)
 refine cI (aA (bM (bj (aa rfl) aq (by first|(show(0:Int)<_;lia)|(show(0:Int)<_;decide))) aq)) (λr=>?_) λr=>?_
 ·rw[if_neg (by simpa using m),if_pos (by simpa using r)] at q
  exact eX (bF (vs:=[.int ((0:Nat):Int),.int ((R+f:Nat):Int),.int ((0:Nat):Int)]) (ag aq (ag (aU (aP (l (i:=1) (v:=R) rfl aq) (aa rfl)) (congrArg V.int (by lia))) (ag aq az))) ⟨0,R+f,0,rfl,by lia,by lia,by lia,q _ s1⟩)
 rw[if_neg (by simpa using m),if_neg (by simpa using r)] at q
 exact eX (bF (vs:=[.int ((1:Nat):Int),.int ((R - 1:Nat):Int),.int ((C+f:Nat):Int)]) (ag aq (ag (aU (aP (l (i:=1) (v:=R) rfl aq) aq) (congrArg V.int (by lia))) (ag (aU (aP (l (i:=2) (v:=C) rfl aq) (aa rfl)) (congrArg V.int (by lia))) az))) ⟨1,R - 1,C+f,rfl,by lia,by lia,by lia,q _ s1⟩)
set_option maxHeartbeats 0 in
theorem Ck:fK P w K mg base 1 "_law_bad_row" BS ["cell"] wR:=by
 refine rd ["cell", "some"] λg _ _ _ _ _ H vs Q E G h=>?_
 obtain⟨c,rfl,q⟩:=h
 refine⟨_,(aj (aX 1 g (cf (ax ar (ax ar (ax ar (ax ar (ax ar (ax ar (aJ ar ar))))))))) (aj (aX 1 g (ao eB (aw 1) (cf (ax ar (ax ar (ax ar (ax ar (aJ ar ar)))))))) (aj (aX 1 g (ao eB (aw 1) (cf (ax ar (ax ar (aJ ar ar)))))) (aj (aX 1 g (ao eB (aw 1) (cf (ax ar (ax ar (ax ar (ax ar (ax (ao ak ar (dW a_ T.str_ (aE (ao fM ae ae)))) (aJ ar ar))))))))) (aj (aX 1 g (ao eB (aw 1) (cf (aE ar)))) (aY (aX 1 g (ao eB (aw 1) (cf (ax ar (ax ar (ax ar (ax ar (aJ ar ar)))))))) (aN (aR aH (aw 1) (ao a9 (aw 0) (dn bS T.len_ (aE (aw 1)))))))))))),?_⟩
 dsimp only[fo]
 have a:An.length<=100:=by decide+kernel
 refine cA λR f=>iR (An.take 8) (ag aq (ag aq (ag aq (ag aq (ag aq (ag aq (ag aq (ag aq az)))))))) (by kernel_rfl) (by rw[N_];omega) λI H0 o _ r=>f _ _ ?_
 refine eJ (σ':=[_,_]) rfl ?_
 refine cA λR f=>jS (xs:=An) (8) 6 (i:=1) rfl r a (ag aq (ag aq (ag aq (ag aq (ag aq (ag aq az)))))) (by kernel_rfl) λC H1 s1 h1=>f _ _ ?_
 refine eJ (σ':=[_,_]) rfl ?_
 refine cA λR f=>jS (xs:=An) (8+6) 4 (i:=1) rfl h1 a (ag aq (ag aq (ag aq (ag aq az)))) (by kernel_rfl) λp2 H2 s2 h2=>f _ _ ?_
 refine eJ (σ':=[_,_]) rfl ?_
 refine cA λR f=>jS (xs:=An) (8+6+4) 7 (i:=1) rfl h2 a (ag aq (ag aq (ag aq (ag aq (ag (aU (c:=.str (Str.ofString "layer 1 1000000000000000000")) (xI (x:=Str.ofString "layer 1 ") aq (dB (v:=.str (Str.ofString (toString ((10:Int)^(18:Int).toNat)))) (ag (bj aq aq (Ak (by decide) (by decide) (by decide))) az) λQ' A=>⟨_,rfl,lg (by decide) (by decide),A⟩) (by decide+kernel)) (by rw[Kx])) (ag aq (ag aq az))))))) (by kernel_rfl) λF H3 s3 s=>f _ _ ?_
 refine eJ (σ':=[_,_]) rfl ?_
 refine cA λR f=>jS (xs:=An) (8+6+4+7) 1 (i:=1) rfl s a (ag aq az) (by kernel_rfl) λD H4 u p=>f _ _ ?_
 refine eJ (σ':=[_,_]) rfl ?_
 refine cA λR f=>jS (xs:=An) (8+6+4+7+1) 6 (i:=1) rfl p a (ag aq (ag aq (ag aq (ag aq (ag aq (ag aq az)))))) (by kernel_rfl) λn H5 B j=>f _ _ ?_
 refine eJ (σ':=[_,_]) rfl ?_
 have j:H5 n=some (.lst (An.map V.str)):=by rw[j,O3 (by decide+kernel)]
 obtain⟨x,y,e⟩:=vo (xs:=An) (i:=c%((An.map V.str).length:Int)) (OK _ (by rw[NG];decide+kernel)) (by rw[NG];exact OL _ (by decide+kernel))
 have l:=LO x y
 rw[N8] at l
 have b:(0:Int)<((An.map V.str).length:Nat):=by rw[NG];decide+kernel
 have m:=j9 l.1
 have d:iH (wf (cp x))=.ba:=by
  have:=l.2
  revert this
  cases iH (wf (cp x))<;>intro z<;>first|rfl|cases z
 rw[d] at m
 exact dF (dG (v:=.str x) (aa rfl) (bj (aa rfl) (jG (K:=K) (aa rfl) j) b) (bf.of j) e) (q x H5 (o.trans (s1.trans (s2.trans (s3.trans (u.trans B))))) m)
theorem Ca (B:aG P w K mg base "_law_word" 1 ["layer", "row", "column"] hV):fK P w K mg base 2 "_law_good_rows" CA ["sizes", "cells"] xJ:=by
 refine rd ["sizes", "cells", "base", "side", "rows", "ends"] λJ _ _ _ _ _ H vs Q E F h=>?_
 obtain⟨sz,cl,R,C,cs,rfl,U,⟨⟨r1,r2⟩,W,c2⟩,I,d,q⟩:=h
 refine⟨_,(aj (aX 2 J (ao a9 (aR aH (aw 1) ae) (ao bZ (aR aZ (aw 0) ae) ae))) (aj (aX 3 J (ao a9 (aR aH (aw 1) ae) (ao bZ (aR aZ (aw 0) ae) ae))) (aj (aX 4 J (cf (aE (ao ak (ao ak (ao ak ar (dW a_ T.str_ (aE (ao aV ae (ao a9 (aR aH (aw 1) ae) (ao fM ae ae)))))) ar) (dW a_ T.str_ (aE (ao aV ae (ao a9 (aR aH (aw 1) ae) (ao fM ae ae))))))))) (aj (aF (bI NX N4 N5 aL (aw 4) (aE (ao ak (ao ak ar (dW a_ T.str_ (aE (ao fM ae ae)))) ar)))) (aj (aF (bI NX N4 N5 aL (aw 4) (aE (ao ak ar (dW a_ T.str_ (aE (ao aV ae (ao a9 (aR aH (aw 1) ae) (ao fM ae ae))))))))) (aj (aF (bI NX N4 N5 aL (aw 4) (aE (ao ak ar (bt B F (ax ae (aJ (ao aV (aw 2) ae) (ao aV (aw 3) ae)))))))) (aj (aF (bI NX N4 N5 aL (aw 4) (aE (ao ak (ao ak (ao ak ar (dW a_ T.str_ (aE (ao a9 (aR aH (aw 1) ae) (ao aV (ao fM ae ae) ae))))) ar) (bt B F (ax ae (aJ (aw 2) (aw 3)))))))) (aj (aF (bI NX N4 N5 aL (aw 4) (aE (ao ak (ao ak (ao ak ar (bt B F (ax ae (aJ (aw 2) (aw 3))))) ar) (bt B F (ax ae (aJ (ao aV (aw 2) ae) (ao aV (aw 3) ae)))))))) (aj (aX 5 J (ao ak (ao ak (ao ak (ao ak (bt B F (ax ae (aJ (aw 2) (aw 3)))) ar) (bt B F (ax ae (aJ (ao aV (aw 2) ae) (aw 3))))) ar) (bt B F (ax ae (aJ (ao aV (aw 2) ae) (ao aV (aw 3) ae)))))) (aY (aF (bI NX N4 N5 aL (aw 4) (aE (ao ak ar (aw 5))))) (aN (aw 4)))))))))))),?_⟩
 dsimp only[fo]
 obtain⟨O,Z⟩:=wB (cs:=cs) r1
 obtain⟨es,Y⟩:=wA (cs:=cs) W
 generalize jK R cs=bs at O Z q
 generalize jL C cs=sd at es Y q
 have f:(10:Int)^(12:Int).toNat=1000000000000:=by decide
 have j:∀x:Int,∃n:Nat,((n:Nat):Int)=1+x%1000000000000/\1<=n/\n<=1000000000000:=λx=>⟨(1+x%1000000000000).toNat,by lia,by lia,by lia⟩
 obtain⟨a,X,a1,a2⟩:=j (cs.getD 2 0)
 obtain⟨b,s,b1,b2⟩:=j (cs.getD 3 0)
 obtain⟨e,ee,e1,e2⟩:=j (cs.getD 4 0)
 obtain⟨n,en,n1⟩:∃n:Nat,((n:Nat):Int)=cs.getD 4 0%1000000000001/\n<=1000000000000:=⟨(cs.getD 4 0%1000000000001).toNat,by lia,by lia⟩
 have N:(0:Int)<(10:Int)^(12:Int).toNat:=by decide
 have r:(0:Int)<(10:Int)^(12:Int).toNat+1:=by decide
 refine cK (v:=.int (bs:Nat)) (aU (bj (cv (K:=K) (i:=2) rfl I d (by decide)) (aP (bC (v:=.int (R:Nat)) (aa rfl) aq (bY.of U) rfl) aq) (by lia)) (congrArg V.int O.symm)) ?_
 refine cK (v:=.int (sd:Nat)) (aU (bj (cv (K:=K) (i:=3) rfl I d (by decide)) (aP (bC (v:=.int (C:Nat)) (aa rfl) aq (bY.of U) rfl) aq) (by lia)) (congrArg V.int es.symm)) ?_
 refine eJ (σ':=[_,_,_,_,_,_]) rfl ?_
 refine cG (ox (vs:=[sv (L "layer " ++dg a++L " " ++dg b)]) (ag (ki (cn (cn (cn (df "layer " 6) (jD (n:=a) (aU (aP aq (bj (cv (i:=2) rfl I d (by decide)) (bj aq aq (Ak (by decide) (by decide) (by decide))) N)) (congrArg V.int (by rw[f];exact X.symm))) (by lia))) (df " " 1)) (jD (n:=b) (aU (aP aq (bj (cv (i:=3) rfl I d (by decide)) (bj aq aq (Ak (by decide) (by decide) (by decide))) N)) (congrArg V.int (by rw[f];exact s.symm))) (by lia)))) az) (by show 1<=sizeLine;decide) λl nl=>?_)
 have S:∀o,au H (upd H l o):=λo=>(au.refl H).upd nl
 have m:∀o,upd H l o cl=some (.lst (cs.map V.int)):=λo=>S o _ _ I
 try dsimp only
 refine eJ (σ':=[_,_,_,_,_,_]) rfl ?_
 refine kT (xs:=[ss (L "layer " ++dg a++L " " ++dg b)]) (w:=L "layer " ++dg 1000000000000++L " 1") rfl ah (by simp) (cn (cn (df "layer " 6) (jD (n:=1000000000000) (aU (bj aq aq (Ak (by decide) (by decide) (by decide))) (congrArg V.int f)) (by lia))) (df " 1" 2)) ?_
 rw[eo]
 refine kT (w:=L "via " ++dg e) rfl ah (by simp) (cn (df "via " 4) (jD (n:=e) (aU (aP aq (bj (cv (i:=4) rfl (m _) d (by decide)) (bj aq aq (Ak (by decide) (by decide) (by decide))) N)) (congrArg V.int (by rw[f];exact ee.symm))) (by lia))) ?_
 rw[eo]
 refine kT (w:=L "rock " ++cu (0,bs+4,sd+4)) rfl ah (by simp) (cn (df "rock " 5) (cQ aq (aU (aP (aa rfl) aq) (congrArg V.int (by lia))) (aU (aP (aa rfl) aq) (congrArg V.int (by lia))) (by lia))) ?_
 rw[eo]
 refine kT (w:=L "toll " ++dg n++L " " ++cu (1,bs,sd)) rfl ah (by simp) (cn (cn (cn (df "toll " 5) (jD (n:=n) (aU (bj (cv (i:=4) rfl (m _) d (by decide)) (aP (bj aq aq (Ak (by decide) (by decide) (by decide))) aq) r) (congrArg V.int (by rw[f];exact en.symm))) (by lia))) (df " " 1)) (cQ aq (aa rfl) (aa rfl) (by lia))) ?_
 rw[eo]
 refine kT (w:=L "net neta 0 0 " ++cu (0,bs,sd)++L " " ++cu (0,bs+2,sd+2)) rfl ah (by simp) (cn (cn (cn (df "net neta 0 0 " 13) (cQ aq (aa rfl) (aa rfl) (by lia))) (df " " 1)) (cQ aq (aU (aP (aa rfl) aq) (congrArg V.int (by lia))) (aU (aP (aa rfl) aq) (congrArg V.int (by lia))) (by lia))) ?_
 rw[eo]
 refine cK (v:=sv (cu (1,bs,sd)++L " to " ++cu (1,bs+2,sd)++L " " ++cu (1,bs+1,sd+1))) (ki (cn (cn (cn (cn (cQ aq (aa rfl) (aa rfl) (by lia)) (df " to " 4)) (cQ aq (aU (aP (aa rfl) aq) (congrArg V.int (by lia))) (aa rfl) (by lia))) (df " " 1)) (cQ aq (aU (aP (aa rfl) aq) (congrArg V.int (by lia))) (aU (aP (aa rfl) aq) (congrArg V.int (by lia))) (by lia)))) ?_
 refine eJ (σ':=[_,_,_,_,_,_]) rfl ?_
 have G:∀{x y z:Nat},x<10^2->y<10^2->z<10^2->(cu (x,y,z)).length<=8:=λh1 h2 M=>oS ⟨h1,h2,M⟩
 have la:=nB (n:=a) (by lia)
 have lb:=nB (n:=b) (by lia)
 have le:=nB (n:=e) (by lia)
 have ln:=nB (n:=n) (by lia)
 have lo:=nB (n:=1000000000000) (by lia)
 have l1:=G (x:=0) (y:=bs+4) (z:=sd+4) (by lia) (by lia) (by lia)
 have l2:=G (x:=1) (y:=bs) (z:=sd) (by lia) (by lia) (by lia)
 have l3:=G (x:=0) (y:=bs) (z:=sd) (by lia) (by lia) (by lia)
 have l4:=G (x:=0) (y:=bs+2) (z:=sd+2) (by lia) (by lia) (by lia)
 have l5:=G (x:=1) (y:=bs+2) (z:=sd) (by lia) (by lia) (by lia)
 have l6:=G (x:=1) (y:=bs+1) (z:=sd+1) (by lia) (by lia) (by lia)
 have lt:(L " to ").length=4:=by decide+kernel
 have A:(L " ").length=1:=by decide+kernel
 have hE:(cu (1,bs,sd)++L " to " ++cu (1,bs+2,sd)++L " " ++cu (1,bs+1,sd+1)).length<=29:=by simp only[NM];lia
 refine kT (w:=L "bundle bun1 0 " ++(cu (1,bs,sd)++L " to " ++cu (1,bs+2,sd)++L " " ++cu (1,bs+1,sd+1))) rfl ah (by simp) (cn (df "bundle bun1 0 " 14) (kF rfl hE)) ?_
 rw[eo]
 refine dF (aa rfl) (q l _ a b e n (S _) nl ⟨a1,a2⟩ ⟨b1,b2⟩ ⟨e1,e2⟩ n1 ⟨_,ah,?_⟩)
 have g:∀{x y z:Nat},x<10^2->y<10^2->z<10^2->gN (x,y,z):=λh1 h2 M=>gY ⟨h1,h2,M⟩
 have t1:(L "layer ").length=6:=by decide+kernel
 have t2:(L " 1").length=2:=by decide+kernel
 have u:(L "via ").length=4:=by decide+kernel
 have t4:(L "rock ").length=5:=by decide+kernel
 have t5:(L "toll ").length=5:=by decide+kernel
 have t6:(L "net neta 0 0 ").length=13:=by decide+kernel
 have t7:(L "bundle bun1 0 ").length=14:=by decide+kernel
 refine .cons (iQ (a:=a) (b:=b) (by lia) (by lia) (by rw[qA,IW,aW,aW,dE];simp) (by simp only[NM];lia)) ?_
 refine .cons (iQ (a:=1000000000000) (b:=1) (by lia) (by lia) (by rw[qA,Nk,aW,aW,dE];simp) (by simp only[NM];lia)) ?_
 refine .cons (uY (a:=e) (by lia) (by rw[GP,aW,dE];simp) (by simp only[NM];lia)) ?_
 refine .cons (wV (ps:=[(0,bs+4,sd+4)]) (c:=((0,bs+4,sd+4),(0,bs+4,sd+4))) (λp D=>by rw[NR.mp D];exact g (by lia) (by lia) (by lia)) rfl (by rw[CZ,NQ,OA,aW,dE];simp) (by simp only[NM];lia)) ?_
 refine .cons (l_ (n:=n) (ps:=[(1,bs,sd)]) (c:=((1,bs,sd),(1,bs,sd))) (by lia) (λp D=>by rw[NR.mp D];exact g (by lia) (by lia) (by lia)) rfl (by rw[Bl,IW,NQ,OA,aW,aW,dE];simp) (by simp only[NM];lia)) ?_
 refine .cons (vQ (x:=fP) (a:=0) (b:=0) (ps:=[(0,bs,sd),(0,bs+2,sd+2)]) (ic (by decide+kernel)) (by decide) (by decide) (λp D=>?_) (by rw[Iu,IW,NQ,NQ,OA,aW,aW,aW,aW,aW,dE];simp) (by simp only[NM];lia)) ?_
 ·simp only[NK,N3,or_false] at D
  rcases D with rfl|rfl<;>exact g (by lia) (by lia) (by lia)
 refine .cons (C4 (x:=fQ) (a:=0) (cs:=[(1,bs,sd)]) (ds:=[(1,bs+2,sd),(1,bs+1,sd+1)]) (ic (by decide+kernel)) (by decide) (λp D=>by rw[NR.mp D];exact g (by lia) (by lia) (by lia)) (λp D=>?_) (by rw[ID,LJ,IW];simp only[NQ,OA,Pn,List.nil_append];rw[aW,aW,aW,aW,aW,aW,dE];simp) (by rw[NM];lia)) .nil
 simp only[NK,N3,or_false] at D
 rcases D with rfl|rfl<;>exact g (by lia) (by lia) (by lia)
theorem zV (o:aG P w K mg base "_law_word" 1 ["layer", "row", "column"] hV):fK P w K mg base 2 "_law_twice_fault" wx ["page", "sizes", "cell"] se:=by
 refine rd ["page", "sizes", "cell", "name", "spots"] λA _ _ _ _ _ H vs Q E D h=>?_
 obtain⟨l,sz,c,R,C,X,rfl,⟨xs,F,B⟩,i,G,⟨⟨O,S⟩,M,T⟩,q⟩:=h
 refine⟨_,(aj (aX 3 A (aR aH (cf (aJ ar ar)) (ao a9 (aw 2) ae))) (aY (aX 4 A (ao ak (ao ak (bt o D (ax ae (aJ (ao bZ (aR aZ (aw 1) ae) ae) (ao bZ (aR aZ (aw 1) ae) ae)))) ar) (bt o D (ax ae (aJ (ao bZ (aR aZ (aw 1) ae) ae) (ao bZ (aR aZ (aw 1) ae) ae)))))) (aF (bI NX N4 N5 aL (aw 0) (aE (ao ak (ao ak (ao ak ar (aw 3)) ar) (aw 4))))))),?_⟩
 dsimp only[fo]
 have j:=eN B
 refine cG (dH (ox (vs:=[.str (Str.ofString "neta"),.str (Str.ofString "bun1")]) (ag aq (ag aq az)) (by show 2<=sizeLine;decide) λp J=>?_))
 have s1:au H (upd H p (.lst [.str (Str.ofString "neta"),.str (Str.ofString "bun1")])):=(au.refl H).upd J
 have r:upd H p (.lst [.str (Str.ofString "neta"),.str (Str.ofString "bun1")]) p=some (.lst [.str (Str.ofString "neta"),.str (Str.ofString "bun1")]):=ah
 revert s1 r
 generalize upd H p _=H1
 intro s1 r
 refine bB (bj (aa rfl) aq (by first|(show(0:Int)<_;lia)|(show(0:Int)<_;decide))) ?_
 have h0:=OK c (show(2:Int)≠0 by decide)
 have h2:=OL c (show(0:Int)<2 by decide)
 obtain⟨x,f,s⟩:∃x,(x=fP\/x=fQ)/\oN [V.str (Str.ofString "neta"),.str (Str.ofString "bun1")] (c%2)=some (sv x):=by
  have:c%2=0\/c%2=1:=by lia
  rcases this with e|e
  ·rw[e];exact⟨fP,.inl rfl,by rw[show sv fP=V.str (Str.ofString "neta") from(M9 "neta").symm];rfl⟩
  ·rw[e];exact⟨fQ,.inr rfl,by rw[show sv fQ=V.str (Str.ofString "bun1") from(M9 "bun1").symm];rfl⟩
 refine⟨p,_,_,_,rfl,rfl,bf.of r,s,?_⟩
 try dsimp only
 refine eJ (σ':=[_,_,_,_,_]) rfl ?_
 have d:A3 H1 sz (2,R,C):=s1 _ _ G
 have g:=s1 _ _ F
 have u:∀{x y z:Nat},x<10^2->y<10^2->z<10^2->(cu (x,y,z)).length<=8:=λh1 h2 I=>oS ⟨h1,h2,I⟩
 have U:=u (x:=0) (y:=R - 1) (z:=C - 1) (by lia) (by lia) (by lia)
 have W:=u (x:=1) (y:=R - 1) (z:=C - 1) (by lia) (by lia) (by lia)
 have Y:x.length=4:=by rcases f with rfl|rfl<;>rfl
 have n:(L " ").length=1:=by decide+kernel
 have Z:(L "net ").length=4:=by decide+kernel
 have N:(L " 0 0 ").length=5:=by decide+kernel
 refine cK (v:=sv (cu (0,R - 1,C - 1)++L " " ++cu (1,R - 1,C - 1))) (ki (cn (cn (cQ aq (aU (aP (bC (v:=.int (R:Nat)) (aa rfl) aq (bY.of d) rfl) aq) (congrArg V.int (by lia))) (aU (aP (bC (v:=.int (C:Nat)) (aa rfl) aq (bY.of d) rfl) aq) (congrArg V.int (by lia))) (by lia)) (df " " 1)) (cQ aq (aU (aP (bC (v:=.int (R:Nat)) (aa rfl) aq (bY.of d) rfl) aq) (congrArg V.int (by lia))) (aU (aP (bC (v:=.int (C:Nat)) (aa rfl) aq (bY.of d) rfl) aq) (congrArg V.int (by lia))) (by lia)))) ?_
 refine eJ (σ':=[_,_,_,_,_]) rfl ?_
 refine HG (w:=L "net " ++x++L " 0 0 " ++(cu (0,R - 1,C - 1)++L " " ++cu (1,R - 1,C - 1))) rfl g (by lia) (cn (cn (cn (df "net " 4) (kF (m:=4) rfl (by lia))) (df " 0 0 " 5)) (kF (m:=17) rfl (by simp only[NM];lia))) ?_
 refine q _ x (gF s1) f (gL B ah (vQ (a:=0) (b:=0) (ps:=[(0,R - 1,C - 1),(1,R - 1,C - 1)]) (by rcases f with rfl|rfl<;>exact ic (by decide+kernel)) (by decide) (by decide) (λp r=>?_) (by rw[Kw,ML,IW,NQ,NQ,OA,aW,aW,aW,aW,aW,dE];simp) (by simp only[NM];lia)))
 simp only[NK,N3,or_false] at r
 rcases r with rfl|rfl<;>exact gY (by lia)
theorem EH (D:aG P w K mg base "_law_outer" 2 ["sizes", "cell"] md):fK P w K mg base 3 "_law_out_fault" G2 ["page", "sizes", "cell"] BB:=by
 refine rd ["page", "sizes", "cell", "head", "spot"] λS _ _ _ _ _ H vs Q E hr h=>?_
 obtain⟨l,sz,c,R,C,X,rfl,⟨xs,Z,N⟩,v,hs,g,q⟩:=h
 refine⟨_,(aj (aX 3 S (aR aH (cf (aJ ar ar)) (ao a9 (aw 2) ae))) (aY (aX 4 S (bt D hr (aJ (aw 1) (ao cH (aw 2) ae)))) (aF (bI NX N4 N5 aL (aw 0) (aE (ao ak (aw 3) (aR aH (cf (ax (aw 4) (aJ (ao ak (aw 4) ar) (ao ak ar (aw 4))))) (ao a9 (ao cH (aw 2) ae) ae)))))))),?_⟩
 dsimp only[fo]
 have y:=eN N
 have m2:=OK c (show(2:Int)≠0 by decide)
 have j:=OL c (show(0:Int)<2 by decide)
 have Y:=OK (c/18) (show(3:Int)≠0 by decide)
 have s:=OL (c/18) (show(0:Int)<3 by decide)
 refine cG (rV [ss (L "rock "),ss (L "toll 5 ")] (ag gH (ag gH az)) rfl (by decide) (λ_=>(bj (aa rfl) aq (by first|(show(0:Int)<_;lia)|(show(0:Int)<_;decide)))) m2 j λx B H1 s1=>?_)
 obtain⟨G,rfl,b⟩:∃G,x=ss G/\(G=L "rock " \/G=L "toll 5 "):=by
  simp only[NK,N3,or_false] at B
  rcases B with rfl|rfl
  ·exact⟨_,rfl,.inl rfl⟩
  ·exact⟨_,rfl,.inr rfl⟩
 have A:G.length<=7:=by rcases b with rfl|rfl<;>decide+kernel
 try dsimp only
 refine eJ (σ':=[_,_,_,_,_]) rfl ?_
 have I:yL R C (Am R C (c/2)):=vw
 have J:=pq g I
 refine cG ((oA (H:=H1) (i:=1) (c:=c/2) rfl (s1 _ _ hs) g λH1=>(bj (aa rfl) aq (o9 (by lia) (by lia)))).1 H1 (au.refl H1) _ λH2 s2=>?_)
 have a:=rF J
 revert I J a
 generalize Am R C (c/2)=o
 intro I J a
 try dsimp only
 refine eJ (σ':=[_,_,_,_,_]) rfl ?_
 have f:=s2 _ _ (s1 _ _ Z)
 refine gy rfl f (by lia) λQ' k=>dH (bB (aa rfl) (rV [ss (cu o),ss (cu o++L " 0.0.0"),ss (L "0.0.0 " ++cu o)] (ag (aa rfl) (ag (ki (cn (kF (m:=56) rfl a) (df " 0.0.0" 6))) (ag (ki (cn (df "0.0.0 " 6) (kF (m:=56) rfl a))) az))) rfl (by show 3<=1000;decide) (λ_=>(bj (bj (aa rfl) aq (o9 (by lia) (by lia))) aq (by first|(show(0:Int)<_;lia)|(show(0:Int)<_;decide)))) Y s λx B H3 s3=>?_))
 have T:gN (0,0,0):=gY (by decide)
 obtain⟨tl,rfl,ps,cr,e,M,O,W⟩:∃tl,x=ss tl/\∃ps cr,tl=jl 32 (ps.map cu)/\sZ ps=some cr/\(∀p∈ps,gN p)/\Ek R C cr:=by
  simp only[NK,N3,or_false] at B
  rcases B with rfl|rfl|rfl
  ·exact⟨_,rfl,[o],(o,o),rfl,rfl,(λp F=>by rw[NR.mp F];exact J),o,I,.inl rfl⟩
  ·exact⟨_,rfl,[o,(0,0,0)],_,by rw[GT,NQ,NQ,OA,aW,dE],rfl,(λp F=>by
    simp only[NK,N3,or_false] at F
    rcases F with rfl|rfl
    ·exact J
    ·exact T),o,I,.inr (.inl rfl)⟩
  ·exact⟨_,rfl,[(0,0,0),o],_,by rw[MQ,NQ,NQ,OA,aW,dE,Pq];rfl,rfl,(λp F=>by
    simp only[NK,N3,or_false] at F
    rcases F with rfl|rfl
    ·exact T
    ·exact J),o,I,.inr (.inr rfl)⟩
 have u:tl.length<=62:=by
  have h6:(L " 0.0.0").length=6:=by decide+kernel
  have h7:(L "0.0.0 ").length=6:=by decide+kernel
  simp only[NK,N3,or_false] at B
  rcases B with z|z|z<;>have z:=congrArg cp z<;>rw[cU,cU] at z<;>rw[z]<;>(try rw[NM])<;>lia
 have n:ps≠[]:=λz=>by rw[z] at M;cases M
 refine⟨ss G,ss tl,rfl,rfl,by rw[gj,gj];have:sizeLine=2^24:=rfl;lia,?_⟩
 rw[oq]
 refine k _ H3 s3 (s3 _ _ f) λH' U=>?_
 have sb:Sb l H H':=by rw[U];exact gF (s1.trans (s2.trans s3))
 have d:H' l=some (.lst ((xs++[ss (G++tl)]).map V.str)):=by rw[U,ah]
 obtain⟨p,r,rfl⟩:∃p r,ps=p::r:=by cases ps with|nil=>exact(n rfl).elim|cons p r=>exact⟨p,r,rfl⟩
 rcases b with rfl|rfl
 ·exact q H' _ sb ⟨cr,W,.inl rfl⟩ (gL N d (wV O M (by rw[e,CZ,NQ,aW,Pq];rfl) (by rw[NM];lia)))
 ·exact q H' _ sb ⟨cr,W,.inr rfl⟩ (gL N d (l_ (by decide) O M (by rw[e,EY,NQ,aW,aW];simp) (by rw[NM];lia)))
theorem zP (m:aG P w K mg base "_law_word" 1 ["layer", "row", "column"] hV):fK P w K mg base 2 "_law_crowd_fault" xh ["page", "sizes", "cells", "cell"] tL:=by
 refine rd ["page", "sizes", "cells", "cell", "base", "side", "far", "some"] λp _ _ _ _ _ H vs Q E n h=>?_
 obtain⟨l,sz,cl,c,R,C,cs,X,rfl,⟨xs,B,F⟩,g,o,⟨⟨N,r2⟩,M,c2⟩,D,e,q⟩:=h
 refine⟨_,(aj (aX 4 p (ao a9 (aR aH (aw 2) ae) (ao bZ (aR aZ (aw 1) ae) ae))) (aj (aX 5 p (ao a9 (aR aH (aw 2) ae) (ao bZ (aR aZ (aw 1) ae) ae))) (aj (aX 6 p (bt m n (ax ae (aJ (ao bZ (aR aZ (aw 1) ae) ae) (ao bZ (aR aZ (aw 1) ae) ae))))) (aj (aX 7 p (cf (aE (ao ak (ao ak (ao ak ar (aw 6)) ar) (bt m n (ax ae (aJ (aw 4) (aw 5)))))))) (aj (aF (bI NX N4 N5 aL (aw 7) (aE (ao ak (ao ak (ao ak ar (aw 6)) ar) (bt m n (ax ae (aJ (ao aV (aw 4) ae) (ao aV (aw 5) ae)))))))) (aj (aF (bI NX N4 N5 aL (aw 7) (aE (ao ak (ao ak (ao ak ar (bt m n (ax ae (aJ (ao aV (aw 4) ae) (ao aV (aw 5) ae))))) ar) (aw 6))))) (aY (aF (bI NX N4 N5 aL (aw 7) (aE (ao ak (ao ak (ao ak ar (bt m n (ax ae (aJ (ao aV (aw 4) ae) (ao aV (aw 5) ae))))) ar) (bt m n (ax ae (aJ (ao aV (aw 4) ae) (ao aV (aw 5) ae)))))))) (aF (bI NX N4 N5 aL (aw 0) (aE (aR aH (aw 7) (ao a9 (aw 3) ae)))))))))))),?_⟩
 dsimp only[fo]
 have j:=eN F
 obtain⟨I,U⟩:=wB (cs:=cs) N
 obtain⟨es,Y⟩:=wA (cs:=cs) M
 generalize jK R cs=bs at I U q
 generalize jL C cs=sd at es Y q
 refine cK (v:=.int (bs:Nat)) (aU (bj (cv (K:=K) (i:=2) rfl D e (by decide)) (aP (bC (v:=.int (R:Nat)) (aa rfl) aq (bY.of o) rfl) aq) (by lia)) (congrArg V.int I.symm)) ?_
 refine cK (v:=.int (sd:Nat)) (aU (bj (cv (K:=K) (i:=3) rfl D e (by decide)) (aP (bC (v:=.int (C:Nat)) (aa rfl) aq (bY.of o) rfl) aq) (by lia)) (congrArg V.int es.symm)) ?_
 refine cK (v:=sv (cu (1,R - 1,C - 1))) (ki (cQ aq (aU (aP (bC (v:=.int (R:Nat)) (aa rfl) aq (bY.of o) rfl) aq) (congrArg V.int (by lia))) (aU (aP (bC (v:=.int (C:Nat)) (aa rfl) aq (bY.of o) rfl) aq) (congrArg V.int (by lia))) (by lia))) ?_
 refine eJ (σ':=[_,_,_,_,_,_,_,_]) rfl ?_
 have A:(cu (1,R - 1,C - 1)).length<=8:=oS (by dsimp only;lia)
 have d:gN (1,R - 1,C - 1):=gY (by lia)
 have u:=λ(σ:St) (H:Hp) (e4:σ[4]?=some (some (.int (bs:Nat)))) (W:σ[5]?=some (some (.int (sd:Nat)))) (T:σ[6]?=some (some (sv (cu (1,R - 1,C - 1)))))=>aK (aK (aK (aT "net zd 0 0 " 11 (H:=H)) (fB T A)) (aT " " 1)) (jn λH1 _=>cQ (a:=0) (H:=H1) aq (aa e4) (aa W) (by lia))
 refine cA λR' J=>mG (g_ (u _ _ rfl rfl rfl) qE) (by show 1<=100;decide) λs H1 s1 z h1=>J _ _ ?_
 have k1:=(u [none,none,none,none,some (.int (bs:Nat)),some (.int (sd:Nat)),some (sv (cu (1,R - 1,C - 1)))] H rfl rfl rfl).2
 clear u J R'
 try dsimp only
 refine eJ (σ':=[_,_,_,_,_,_,_,_]) rfl ?_
 refine cD (w:=L "bundle zd 1 " ++cu (1,R - 1,C - 1)++L " to " ++cu (1,bs+3,sd+1)) rfl z s1 h1 (by simp) (aK (aK (aK (aT "bundle zd 1 " 12) (fB rfl A)) (aT " to " 4)) (jn λH1 _=>cQ (a:=1) (H:=H1) aq (aU (aP (aa rfl) aq) (congrArg V.int (by lia))) (aU (aP (aa rfl) aq) (congrArg V.int (by lia))) (by lia))) λH2 k2 s2 h2=>?_
 refine cD (w:=L "net zd 0 2 " ++cu (0,bs+2,sd+4)++L " " ++cu (1,R - 1,C - 1)) rfl z s2 h2 (by simp) (aK (aK (aK (aT "net zd 0 2 " 11) (jn λH1 _=>cQ (a:=0) (H:=H1) aq (aU (aP (aa rfl) aq) (congrArg V.int (by lia))) (aU (aP (aa rfl) aq) (congrArg V.int (by lia))) (by lia))) (aT " " 1)) (fB rfl A)) λH3 k3 s3 h3=>?_
 refine cD (w:=L "net zd 1 0 " ++cu (1,bs+2,sd+1)++L " " ++cu (1,bs+3,sd+3)) rfl z s3 h3 (by simp) (aK (aK (aK (aT "net zd 1 0 " 11) (jn λH1 _=>cQ (a:=1) (H:=H1) aq (aU (aP (aa rfl) aq) (congrArg V.int (by lia))) (aU (aP (aa rfl) aq) (congrArg V.int (by lia))) (by lia))) (aT " " 1)) (jn λH1 _=>cQ (a:=1) (H:=H1) aq (aU (aP (aa rfl) aq) (congrArg V.int (by lia))) (aU (aP (aa rfl) aq) (congrArg V.int (by lia))) (by lia))) λH4 k4 y h4=>?_
 have Z:Paired gu _ ((EX R C bs sd).map Rk.gd):=.cons (iU (x:=yx) (a:=0) (b:=0) (by decide+kernel) (by decide+kernel) (by decide) (by decide) d (gY (by lia)) (NP k1 (by decide))) (.cons (qU (x:=yx) (a:=1) (by decide+kernel) (by decide+kernel) (by decide) d (gY (by lia)) (NP k2 (by decide))) (.cons (iU (x:=yx) (a:=0) (b:=2) (by decide+kernel) (by decide+kernel) (by decide) (by decide) (gY (by lia)) d (NP k3 (by decide))) (.cons (iU (x:=yx) (a:=1) (b:=0) (by decide+kernel) (by decide+kernel) (by decide) (by decide) (gY (by lia)) (gY (by lia)) (NP k4 (by decide))) .nil)))
 obtain⟨x,k,f,S,hm⟩:=wK Z (OK c (show(4:Int)≠0 by decide)) (OL c (show(0:Int)<4 by decide))
 obtain⟨r,n,rfl⟩:=N0.mp hm
 refine gy rfl (y _ _ B) (by lia) λQ' O=>bB (dG (v:=.str x) (aa rfl) (bj (aa rfl) aq (by first|(show(0:Int)<_;lia)|(show(0:Int)<_;decide))) (bf.of h4) f) (O x H4 (au.refl H4) (y _ _ B) λH' G=>?_)
 exact q H' r (by rw[G];exact gF y) n (gL F (by rw[G,ah]) S)
theorem Gi (y:aG P w K mg base "_law_word" 1 ["layer", "row", "column"] hV)(z:aG P w K mg base "_law_outer" 2 ["sizes", "cell"] md):fK P w K mg base 3 "_law_fit_fault" GL ["page", "sizes", "cells", "cell"] CM:=by
 refine rd ["page", "sizes", "cells", "cell", "rock", "far", "some"] λF _ _ _ _ _ H vs Q E B h=>?_
 obtain⟨l,sz,cl,c,R,C,cs,X,rfl,⟨xs,N,S⟩,p,A,e,O,g,q⟩:=h
 refine⟨_,(aj (aX 4 F (bt y B (ax ae (aJ (ao aV (ao a9 (aR aH (aw 2) ae) (ao bZ (aR aZ (aw 1) ae) ae)) ae) (ao aV (ao a9 (aR aH (aw 2) ae) (ao bZ (aR aZ (aw 1) ae) ae)) ae))))) (aj (aX 5 F (bt y B (ax ae (aJ (ao bZ (aR aZ (aw 1) ae) ae) (ao bZ (aR aZ (aw 1) ae) ae))))) (aj (aX 6 F (cf (aJ (ao ak (ao ak (ao ak ar (aw 5)) ar) (aw 4)) (ao ak (ao ak (ao ak ar (aw 5)) ar) (bt z B (aJ (aw 1) (ao cH (aw 3) ae))))))) (aj (aF (bI NX N4 N5 aL (aw 6) (aE (ao ak (ao ak (ao ak ar (bt y B (ax ae (aJ (ao bZ (aR aZ (aw 1) ae) ae) (ao bZ (aR aZ (aw 1) ae) ae))))) ar) (aw 5))))) (aj (aF (bI NX N4 N5 aL (aw 6) (aE (ao ak (ao ak (ao ak ar (aw 5)) ar) (aw 4))))) (aY (aF (bI NX N4 N5 aL (aw 6) (aE (ao ak (ao ak (ao ak ar (bt z B (aJ (aw 1) (ao cH (aw 3) ae)))) ar) (aw 5))))) (aF (bI NX N4 N5 aL (aw 0) (aE (aR aH (aw 6) (ao a9 (aw 3) ae))))))))))),?_⟩
 dsimp only[fo]
 have m:=e
 obtain⟨⟨r1,r2⟩,Z,c2⟩:=m
 have u:=eN S
 obtain⟨U,hb⟩:=wB (cs:=cs) r1
 obtain⟨es,J⟩:=wA (cs:=cs) Z
 generalize jK R cs=bs at U hb q
 generalize jL C cs=sd at es J q
 refine cK (v:=sv (cu (0,bs+4,sd+4))) (ki (cQ aq (aU (aP (aU (c:=.int (bs:Nat)) (bj (cv (K:=K) (i:=2) rfl O g (by decide)) (aP (bC (v:=.int (R:Nat)) (aa rfl) aq (bY.of A) rfl) aq) (by lia)) (congrArg V.int U.symm)) aq) (congrArg V.int (by lia))) (aU (aP (aU (c:=.int (sd:Nat)) (bj (cv (K:=K) (i:=3) rfl O g (by decide)) (aP (bC (v:=.int (C:Nat)) (aa rfl) aq (bY.of A) rfl) aq) (by lia)) (congrArg V.int es.symm)) aq) (congrArg V.int (by lia))) (by lia))) ?_
 refine cK (v:=sv (cu (1,R - 1,C - 1))) (ki (cQ aq (aU (aP (bC (v:=.int (R:Nat)) (aa rfl) aq (bY.of A) rfl) aq) (congrArg V.int (by lia))) (aU (aP (bC (v:=.int (C:Nat)) (aa rfl) aq (bY.of A) rfl) aq) (congrArg V.int (by lia))) (by lia))) ?_
 refine eJ (σ':=[_,_,_,_,_,_,_]) rfl ?_
 have D:(cu (1,R - 1,C - 1)).length<=8:=oS (by dsimp only;lia)
 have T:(cu (0,bs+4,sd+4)).length<=8:=oS (by dsimp only;lia)
 have d:gN (1,R - 1,C - 1):=gY (by lia)
 have j:gN (0,bs+4,sd+4):=gY (by lia)
 have G:yL R C (Am R C (c/5)):=vw
 have f:=pq e G
 have lo:=rF f
 have hn:(L "net zc 0 0 ").length=11:=by decide+kernel
 have o:(L " ").length=1:=by decide+kernel
 refine cA λR' Y=>mG (g_ (w:=L "net zc 0 0 " ++cu (1,R - 1,C - 1)++L " " ++cu (0,bs+4,sd+4)) (aK (aK (aK (aT "net zc 0 0 " 11) (fB rfl D)) (aT " " 1)) (fB rfl T)) (g_ (w:=L "net zc 0 0 " ++cu (1,R - 1,C - 1)++L " " ++cu (Am R C (c/5))) (aK (aK (aK (aT "net zc 0 0 " 11) (fB rfl D)) (aT " " 1)) (oA rfl A e λH1=>(bj (aa rfl) aq (o9 (by lia) (by lia))))) qE)) (by show 2<=100;decide) λs H1 s1 M h1=>Y _ _ ?_
 clear Y R'
 try dsimp only
 refine eJ (σ':=[_,_,_,_,_,_,_]) rfl ?_
 refine cD (w:=L "net zc 1 0 " ++cu (1,R - 2,C - 2)++L " " ++cu (1,R - 1,C - 1)) rfl M s1 h1 (by simp) (aK (aK (aK (aT "net zc 1 0 " 11) (jn λH1 s1=>cQ (a:=1) (H:=H1) aq (aU (aP (bC (v:=.int (R:Nat)) (aa rfl) aq (bY.of (s1 _ _ A)) rfl) aq) (congrArg V.int (by lia))) (aU (aP (bC (v:=.int (C:Nat)) (aa rfl) aq (bY.of (s1 _ _ A)) rfl) aq) (congrArg V.int (by lia))) (by lia))) (aT " " 1)) (fB rfl D)) λH2 k2 s2 h2=>?_
 refine cD (w:=L "bundle zc 0 " ++cu (1,R - 1,C - 1)++L " to " ++cu (0,bs+4,sd+4)) rfl M s2 h2 (by simp) (aK (aK (aK (aT "bundle zc 0 " 12) (fB rfl D)) (aT " to " 4)) (fB rfl T)) λH3 k3 s3 h3=>?_
 refine cD (w:=L "bundle zc 0 " ++cu (Am R C (c/5))++L " to " ++cu (1,R - 1,C - 1)) rfl M s3 h3 (by simp) (aK (aK (aK (aT "bundle zc 0 " 12) (oA rfl A e λH1=>(bj (aa rfl) aq (o9 (by lia) (by lia))))) (aT " to " 4)) (fB rfl D)) λH4 k4 I h4=>?_
 have hP:Paired gu _ ((Ip R C bs sd (Am R C (c/5)) (Am R C (c/5))).map Rk.gd):=.cons (iU (hd:=L "net zc 0 0 ") (x:=sP) (a:=0) (b:=0) (by decide+kernel) (by decide+kernel) (by decide) (by decide) d j (by simp only[NM];lia)) (.cons (iU (hd:=L "net zc 0 0 ") (x:=sP) (a:=0) (b:=0) (by decide+kernel) (by decide+kernel) (by decide) (by decide) d f (by simp only[NM];lia)) (.cons (iU (x:=sP) (a:=1) (b:=0) (by decide+kernel) (by decide+kernel) (by decide) (by decide) (gY (by lia)) d (NP k2 (by decide))) (.cons (qU (x:=sP) (a:=0) (by decide+kernel) (by decide+kernel) (by decide) d j (NP k3 (by decide))) (.cons (qU (x:=sP) (a:=0) (by decide+kernel) (by decide+kernel) (by decide) f d (NP k4 (by decide))) .nil))))
 obtain⟨x,k,n,ht,hm⟩:=wK hP (OK c (show(5:Int)≠0 by decide)) (OL c (show(0:Int)<5 by decide))
 obtain⟨r,B,rfl⟩:=N0.mp hm
 refine gy rfl (I _ _ N) (by lia) λQ' kk=>bB (dG (v:=.str x) (aa rfl) (bj (aa rfl) aq (by first|(show(0:Int)<_;lia)|(show(0:Int)<_;decide))) (bf.of h4) n) (kk x H4 (au.refl H4) (I _ _ N) λH' W=>?_)
 exact q H' r (by rw[W];exact gF I) ⟨_,_,G,G,B⟩ (gL S (by rw[W,ah]) ht)
theorem yJ:fK P w K mg base 1 "_law_price_fault" yy ["page", "cell"] sY:=by
 refine rd ["page", "cell", "price"] λU _ _ _ _ _ H vs Q E hr h=>?_
 obtain⟨l,c,r0,r1,r2,r3,X,rfl,⟨xs,S,G⟩,u,q⟩:=h
 refine⟨_,(aj (aX 2 U (dW a_ T.str_ (aE (aR aH (cf (ax ae (aJ (ao aV (ao fM ae ae) ae) (ao bZ (ao fM ae ae) ae)))) (ao a9 (ao cH (aw 1) ae) ae))))) (aj (cL (bP cw (ao a9 (aw 1) ae) ae) (dQ (ao ak (ao ak ar (aw 2)) ar) (hG (aw 0) ae ff))) (aj (cL (bP cw (ao a9 (aw 1) ae) ae) (dQ (ao ak ar (aw 2)) (hG (aw 0) ae ff))) (aY (cL (bP cw (ao a9 (aw 1) ae) ae) (dQ (ao ak ar (aw 2)) (hG (aw 0) ae ff))) (ju (bP cw (ao a9 (aw 1) ae) ae) (aY (aF (bI NX N4 N5 aL (aw 0) (aE (ao ak (ao ak ar (dW a_ T.str_ (aE (aR aH (cf (aJ (ao aV (ao fM ae ae) ae) (ao bZ (ao fM ae ae) ae))) (ao a9 (ao cH (aw 1) ae) ae))))) ar)))) (aF (bI NX N4 N5 aL (aw 0) (aE ar)))) gB))))),?_⟩
 dsimp only[fo]
 have y:xs.length=X.length+4:=eN G
 have R:=OK (c/4) (show(3:Int)≠0 by decide)
 have s:=OL (c/4) (show(0:Int)<3 by decide)
 have Z:=OK (c/4) (show(2:Int)≠0 by decide)
 have m:=OL (c/4) (show(0:Int)<2 by decide)
 refine cG (q9 (nq [0,1000000000001,999999999999999999] (ag aq (ag (aP (bj aq aq (Ak (by decide) (by decide) (by decide))) aq) (ag (aP (bj aq aq (Ak (by decide) (by decide) (by decide))) aq) az))) (by kernel_rfl) (by decide) (λ_=>(bj (bj (aa rfl) aq (o9 (by lia) (by lia))) aq (by first|(show(0:Int)<_;lia)|(show(0:Int)<_;decide)))) R s λp F H1 s1=>?_))
 have a:fY 1 p=false/\p<10^18:=by
  simp only[NK,N3,or_false] at F
  rcases F with rfl|rfl|rfl<;>decide
 refine⟨_,rfl,G0 (by lia),?_⟩
 rw[show V.str (Str.ofString (toString ((p:Nat):Int)))=sv (dg p) from congrArg V.str (qp p)]
 try dsimp only
 refine eJ (σ':=[_,_,_]) rfl ?_
 have d:=s1 _ _ S
 have I:=nB (n:=p) (by lia)
 have C:(L "layer ").length=6:=by decide+kernel
 have x:(L " 7").length=2:=by decide+kernel
 have v:(L "layer 7 ").length=8:=by decide+kernel
 have B:(L "via ").length=4:=by decide+kernel
 have D:(L "toll ").length=5:=by decide+kernel
 have f:Sb l H H1:=λb o _ e=>s1 _ _ e
 refine cI (aA (bM (bj (aa rfl) aq (by first|(show(0:Int)<_;lia)|(show(0:Int)<_;decide))) aq)) (λz=>?_) λz0=>?_
 ·refine nN 1 rfl d (by lia) (w:=L "layer " ++dg p++L " 7") (aK (aK (aT "layer " 6) (fB rfl I)) (aT " 7" 2)) λH2 sb h2=>?_
  try dsimp only
  refine kM (aA (bM (bj (aa rfl) aq (by first|(show(0:Int)<_;lia)|(show(0:Int)<_;decide))) aq)) (by simp at z|-;lia) (kM (aA (bM (bj (aa rfl) aq (by first|(show(0:Int)<_;lia)|(show(0:Int)<_;decide))) aq)) (by simp at z|-;lia) (kI (aA (bM (bj (aa rfl) aq (by first|(show(0:Int)<_;lia)|(show(0:Int)<_;decide))) aq)) (by simp at z|-;lia) ?_))
  exact q H2 p _ (dX f sb) a.1 a.2 (.inl rfl) ⟨_,h2,pV G (iQ a.2 (by decide) (by rw[qA,Nq,aW,aW,dE];simp) (by simp only[NM];lia))⟩
 refine cI (aA (bM (bj (aa rfl) aq (by first|(show(0:Int)<_;lia)|(show(0:Int)<_;decide))) aq)) (λz=>?_) λz1=>?_
 ·refine nN 2 rfl d (by lia) (w:=L "layer 7 " ++dg p) (aK (aT "layer 7 " 8) (fB rfl I)) λH2 sb h2=>?_
  try dsimp only
  refine kM (aA (bM (bj (aa rfl) aq (by first|(show(0:Int)<_;lia)|(show(0:Int)<_;decide))) aq)) (by simp at z|-;lia) (kI (aA (bM (bj (aa rfl) aq (by first|(show(0:Int)<_;lia)|(show(0:Int)<_;decide))) aq)) (by simp at z|-;lia) ?_)
  exact q H2 p _ (dX f sb) a.1 a.2 (.inr (.inl rfl)) ⟨_,h2,pZ G (iQ (by decide) a.2 (by rw[HW,aW,aW,dE];simp) (by simp only[NM];lia))⟩
 refine cI (aA (bM (bj (aa rfl) aq (by first|(show(0:Int)<_;lia)|(show(0:Int)<_;decide))) aq)) (λz=>?_) λY=>?_
 ·refine nN 3 rfl d (by lia) (w:=L "via " ++dg p) (aK (aT "via " 4) (fB rfl I)) λH2 sb h2=>?_
  try dsimp only
  refine kI (aA (bM (bj (aa rfl) aq (by first|(show(0:Int)<_;lia)|(show(0:Int)<_;decide))) aq)) (by simp at z|-;lia) ?_
  exact q H2 p _ (dX f sb) a.1 a.2 (.inr (.inr (.inl rfl))) ⟨_,h2,zb G (uY a.2 (by rw[GP,aW,dE];simp) (by simp only[NM];lia))⟩
 refine IX (aA (bM (bj (aa rfl) aq (by first|(show(0:Int)<_;lia)|(show(0:Int)<_;decide))) aq)) (by simp at z0 z1 Y|-;lia) ?_
 clear F a I
 refine Gb rfl d (by lia) λQ' k=>dH (dH (bB gH (q9 (nq [1000000000001,999999999999999999] (ag (aP (bj aq aq (Ak (by decide) (by decide) (by decide))) aq) (ag (aP (bj aq aq (Ak (by decide) (by decide) (by decide))) aq) az)) (by kernel_rfl) (by decide) (λ_=>(bj (bj (aa rfl) aq (o9 (by lia) (by lia))) aq (by first|(show(0:Int)<_;lia)|(show(0:Int)<_;decide)))) Z m λn N H2 s2=>?_))))
 have g:fY 1 n=false/\fY 0 n=false/\n<10^18:=by
  simp only[NK,N3,or_false] at N
  rcases N with rfl|rfl<;>decide
 have ln:=nB (n:=n) (by lia)
 have A:sizeLine=2^24:=rfl
 have t6:(L " 0.0.0").length=6:=by decide+kernel
 refine⟨_,rfl,G0 (by lia),ss (L "toll "),ss (dg n),rfl,congrArg V.str (qp n),by rw[gj,gj];lia,bB gH ⟨ss (L "toll " ++dg n),ss (L " 0.0.0"),by rw[oq],rfl,by rw[gj,gj,NM];lia,?_⟩⟩
 rw[oq]
 refine k _ H2 s2 (s2 _ _ d) λH3 J=>?_
 have h3:H3 l=some (.lst ((xs++[ss (L "toll " ++dg n++L " 0.0.0")]).map V.str)):=by rw[J,ah]
 have r:Sb l H H3:=dX f (by rw[J];exact gF s2)
 clear J k
 have W:gu (ss (L "toll " ++dg n++L " 0.0.0")) (.gd (.toll n (0,0,0) (0,0,0))):=l_ (ps:=[(0,0,0)]) (c:=((0,0,0),(0,0,0))) g.2.2 (λp F=>by rw[NR.mp F];exact gY (by decide)) rfl (by rw[Bl,GT,NQ,OA,aW,aW,dE];simp) (by simp only[NM];lia)
 obtain⟨ys,i,M⟩:=gL G h3 W
 have j:=eN M
 rw[NM] at j
 refine gy rfl i (by rw[j];show X.length+4+1<=100;lia) λQ' k=>bB gH (k _ H3 (au.refl H3) i λH' O=>?_)
 have:=gL (H':=H') (l:=l) M (by rw[O,ah]) BI
 rw[Pq] at this
 exact q H' n _ (dX r (by rw[O];exact gF (au.refl H3))) g.1 g.2.2 (.inr (.inr (.inr ⟨g.2.1,rfl⟩))) this
theorem yK (y:aG P w K mg base "_law_word" 1 ["layer", "row", "column"] hV):fK P w K mg base 2 "_law_thing_fault" xc ["page", "sizes", "cell"] sV:=by
 refine rd ["page", "sizes", "cell", "low", "some"] λnd _ _ _ _ _ H vs Q E D h=>?_
 obtain⟨l,u,c,X,rfl,⟨xs,hl,hx⟩,n,q⟩:=h
 refine⟨_,(aj (aX 3 nd (ao eB (gU ["column"] [] [] (D5 T.range_ (aE ae)) (dU 0) cM (bt (by exact y) (by exact D) (ax ae (aJ ae (aw 0))))) (gU ["column"] [] [] (D5 T.range_ (aE ae)) (dU 0) cM (bt (by exact y) (by exact D) (ax ae (aJ ae (aw 0))))))) (aj (aX 3 nd (ao eB (aw 3) (gU ["column"] [] [] (D5 T.range_ (aE ae)) (dU 0) cM (bt (by exact y) (by exact D) (ax ae (aJ ae (aw 0))))))) (aj (aX 4 nd (cf (ax (ao ak ar (jg rfl (aE (bg bE (aw 3) bX (bq ae))))) (aJ (ao ak ar (jg rfl (aE (bg bE (aw 3) bX (bq ae))))) (ao ak ar (jg rfl (aE (bg bE (aw 3) bX (bq ae))))))))) (aj (aF (bI NX N4 N5 aL (aw 4) (aE (ao ak ar (jg rfl (aE (bg bE (aw 3) bX (bq ae)))))))) (aj (aF (bI NX N4 N5 aL (aw 4) (aE (ao ak ar (jg rfl (aE (bg bE (aw 3) bX (bq ae)))))))) (aj (aF (bI NX N4 N5 aL (aw 4) (aE (ao ak ar (jg rfl (aE (bg bE (aw 3) bX (bq ae)))))))) (aj (aF (bI NX N4 N5 aL (aw 4) (aE (ao ak ar (aR aH (aw 3) ae))))) (aj (aF (bI NX N4 N5 aL (aw 4) (aE ar))) (aj (aF (bI NX N4 N5 aL (aw 4) (aE (ao ak ar (jg rfl (aE (bg bE (aw 3) bX (bq ae)))))))) (aj (aF (bI NX N4 N5 aL (aw 4) (aE (ao ak (ao ak (ao ak (ao ak (ao ak ar (aR aH (aw 3) ae)) ar) (aR aH (aw 3) ae)) ar) (aR aH (aw 3) ae))))) (aj (aF (bI NX N4 N5 aL (aw 4) (aE (ao ak ar (aR aH (aw 3) ae))))) (aj (aF (bI NX N4 N5 aL (aw 4) (aE (ao ak (ao ak ar (aR aH (aw 3) ae)) ar)))) (aj (aF (bI NX N4 N5 aL (aw 4) (aE (ao ak (ao ak (ao ak (ao ak (ao ak ar (aR aH (aw 3) ae)) ar) (aR aH (aw 3) ae)) ar) (aR aH (aw 3) ae))))) (aj (aF (bI NX N4 N5 aL (aw 4) (aE (ao ak (ao ak (ao ak (ao ak (ao ak ar (aR aH (aw 3) ae)) ar) (aR aH (aw 3) ae)) ar) (aR aH (aw 3) ae))))) (aj (aF (bI NX N4 N5 aL (aw 4) (aE (ao ak (ao ak (ao ak ar (jg rfl (aE (bg bE (aw 3) bX (bq ae))))) ar) (jg rfl (aE (bg bE (aw 3) (bq ae) (bq ae)))))))) (aj (aF (bI NX N4 N5 aL (aw 4) (aE (ao ak (ao ak (ao ak ar (aR aH (aw 3) ae)) ar) (jg rfl (aE (bg bE (aw 3) (bq ae) (bq ae)))))))) (aj (aF (bI NX N4 N5 aL (aw 4) (aE (ao ak (ao ak (ao ak ar (aR aH (aw 3) ae)) ar) (aR aH (aw 3) ae))))) (aY (aF (bI NX N4 N5 aL (aw 4) (aE (ao ak ar (jg rfl (aE (bg bE (aw 3) bX (bq ae)))))))) (aF (bI NX N4 N5 aL (aw 0) (aE (aR aH (aw 4) (ao a9 (aw 2) (dn bS T.len_ (aE (aw 4)))))))))))))))))))))))))),?_⟩
 dsimp only[fo]
 have o:=eN hx
 have wd:∀{a b:Nat} (i:Nat),i<6->a<10^2->b<10^2->∀(H':Hp),Ev (jo hV (b9 (tC (.int (a:Nat))) (b9 (tC (.int (b:Nat))) (b9 (cV 0) dv)))) [some (.int (i:Nat))] H' (sv (cu (a,b,i))):=λi hi ha G H'=>ki (cQ aq aq (aa rfl) (by omega))
 have m:sizeLine=2^24:=rfl
 refine cG (dH (u3 6 (λi=>sv (cu (0,0,i))) (ag aq az) (by decide) rfl (λi hi=>wd i hi (by decide) (by decide)) λA H1 s1 _ hA=>u3 6 (λi=>sv (cu (1,0,i))) (ag aq az) (by decide) rfl (λi hi=>wd i hi (by decide) (by decide)) λB H2 s2 _ hB=>Bs (s2 _ _ hA) hB (by simp only[NG,List.length_range];decide) λl1 H3 s3 F=>?_))
 try dsimp only
 refine eJ (σ':=[_,_,_,_,_]) rfl ?_
 replace F:WL H3 l1 (fL.take 12):=F.trans (by kernel_rfl)
 refine cG (dH (bB (aa rfl) (u3 6 (λi=>sv (cu (1,1,i))) (ag aq az) (by decide) rfl (λi hi=>wd i hi (by decide) (by decide)) λA' H4 s4 _ C=>Bs (s4 _ _ F) C (by decide) λl2 H5 s5 p=>?_)))
 try dsimp only
 refine eJ (σ':=[_,_,_,_,_]) rfl ?_
 replace p:WL H5 l2 fL:=p.trans (by kernel_rfl)
 replace s5:au H H5:=s1.trans (s2.trans (s3.trans (s4.trans s5)))
 clear hA hB C F s4 s3 s2 s1 wd
 refine cA λR' hR=>mG (ws:=Ls.take 3) (g_ (aK (aT "net A 0 0 " 10) (fh (fL.take 2) 11 rfl p jk lY (by kernel_rfl))) (g_ (aK (aT "net 1a 0 0 " 11) (fh (fL.take 2) 11 rfl p jk lY (by kernel_rfl))) (g_ (aK (aT "net a_b 0 0 " 12) (fh (fL.take 2) 11 rfl p jk lY (by kernel_rfl))) qE))) (by decide) λs H6 s6 z h6=>hR _ _ ?_
 clear hR R'
 try dsimp only
 refine eJ (σ':=[_,_,_,_,_]) rfl ?_
 refine cD rfl z s6 h6 (by decide) (aK (aT "net abcdefghijklm 0 0 " 22) (fh (fL.take 2) 11 rfl p jk lY (by kernel_rfl))) λH7 _ s7 h7=>?_
 refine cD rfl z s7 h7 (by decide) (aK (aT "net zz 3 0 " 11) (fh (fL.take 2) 11 rfl p jk lY (by kernel_rfl))) λH8 _ s8 h8=>?_
 refine cD rfl z s8 h8 (by decide) (aK (aT "net zz 0 4 " 11) (fh (fL.take 2) 11 rfl p jk lY (by kernel_rfl))) λH9 _ s9 h9=>?_
 refine cD rfl z s9 h9 (by decide) (aK (aT "net zz 0 0 " 11) (gk (lw 0) 5 rfl p rfl)) λH10 _ aB O=>?_
 refine cD rfl z aB O (by decide) (aT "net zz 0 0" 10) λH11 _ av a3=>?_
 refine cD rfl z av a3 (by decide) (aK (aT "net zz 0 0 " 11) (fh (fL.take 7) 41 rfl p jk lY (by kernel_rfl))) λH12 _ I a4=>?_
 refine cD rfl z I a4 (by decide) (aK (aK (aK (aK (aK (aT "net zz 0 0 " 11) (gk (lw 0) 5 rfl p rfl)) (aT " " 1)) (gk (lw 1) 5 rfl p rfl)) (aT " " 1)) (gk (lw 0) 5 rfl p rfl)) λH13 _ ai W=>?_
 refine cD rfl z ai W (by decide) (aK (aT "bundle zz 0 to " 15) (gk (lw 0) 5 rfl p rfl)) λH14 _ Y af=>?_
 refine cD rfl z Y af (by decide) (aK (aK (aT "bundle zz 0 " 12) (gk (lw 0) 5 rfl p rfl)) (aT " to" 3)) λH15 _ Z U=>?_
 refine cD rfl z Z U (by decide) (aK (aK (aK (aK (aK (aT "bundle zz 0 " 12) (gk (lw 0) 5 rfl p rfl)) (aT " " 1)) (gk (lw 1) 5 rfl p rfl)) (aT " to " 4)) (gk (lw 2) 5 rfl p rfl)) λH16 _ M S=>?_
 refine cD rfl z M S (by decide) (aK (aK (aK (aK (aK (aT "bundle zz 0 " 12) (gk (lw 0) 5 rfl p rfl)) (aT " to " 4)) (gk (lw 0) 5 rfl p rfl)) (aT " " 1)) (gk (lw 1) 5 rfl p rfl)) λH17 _ ad a1=>?_
 refine cD rfl z ad a1 (by decide) (aK (aK (aK (aT "bundle zz 0 " 12) (fh (fL.take 7) 41 rfl p jk lY (by kernel_rfl))) (aT " to " 4)) (fh ((fL.take 14).drop 7) 41 rfl p lY lY (by kernel_rfl))) λH18 _ N an=>?_
 refine cD rfl z N an (by decide) (aK (aK (aK (aT "bundle zz 0 " 12) (gk (lw 0) 5 rfl p rfl)) (aT " to " 4)) (fh ((fL.take 14).drop 1) 77 rfl p lY lY (by kernel_rfl))) λH19 _ R a2=>?_
 refine cD rfl z R a2 (by decide) (aK (aK (aK (aT "bundle zz 4 " 12) (gk (lw 0) 5 rfl p rfl)) (aT " to " 4)) (gk (lw 1) 5 rfl p rfl)) λH20 _ J ac=>?_
 refine cD rfl z J ac (by decide) (aK (aT "net aB 0 0 " 11) (fh (fL.take 2) 11 rfl p jk lY (by kernel_rfl))) λH21 _ aC a0=>?_
 have e:H21 s=some (.lst ((Ls.map ss).map V.str)):=a0
 obtain⟨x,f,g⟩:=vo (xs:=Ls.map ss) (i:=c%(((Ls.map ss).map V.str).length:Int)) (OK _ (by decide)) (OL _ (by decide))
 obtain⟨w,j,rfl⟩:=N0.mp f
 have G:=Oa.mp KL w j
 rw[N8] at G
 obtain⟨r,er,D⟩:=K4 G.2
 have ht:=j9 (x:=ss w) (by rw[cU];exact G.1)
 rw[cU,er] at ht
 have d:=s5.trans aC
 refine gy rfl (d _ _ hl) (by omega) λQ' kk=>bB (dG (v:=sv w) (aa rfl) (bj (aa rfl) (jG (K:=K) (aa rfl) e) (by decide)) (bf.of e) g) (kk _ H21 (au.refl H21) (d _ _ hl) λH' e'=>?_)
 exact q H' r (by rw[e'];exact gF d) D (gL hx (by rw[e',ah]) ht)
theorem CY:fK P w K mg base 1 "_law_size_fault" CX ["page", "sizes", "cell"] yn:=by
 refine rd ["page", "sizes", "cell", "many", "words"] λnd _ _ _ _ _ H vs Q E hr h=>?_
 obtain⟨l,sz,c,R,C,r0,X,rfl,⟨xs,hl,O⟩,B,hs,A,q⟩:=h
 refine⟨_,(aj (aX 3 nd (aR aH (cf (ax ae (ax ae (aJ ae (ao bZ (ao fM ae ae) ae))))) (ao a9 (ao cH (aw 2) ae) ae))) (aj (s_ 4 ["size"] [] [] nd (qu (aw 1)) (dU 0) cM (dW a_ (by exact T.str_) (aE (aw 0)))) (aj (dQ (dW a_ T.str_ (aE (aw 3))) (hG (aw 4) (ao a9 (aw 2) ae) ff)) (aj (cL (Cz (bP cw (aw 3) ae) (wm (bP wq (ao a9 (aw 2) ae) ae))).pt (dQ ar (hG (aw 4) (ao a9 (aw 2) ae) ff))) (aj (dQ (ao ak ar (jg rfl (aE (aw 4)))) (hG (aw 0) ae ff)) (aj (ju (bP cw (ao a9 (ao cH (aw 2) ae) ae) ae) (aY (dQ (ao ak ar (jg rfl (aE (gU ["size"] [] [] (qu (aw 1)) (dU 0) cM (dW a_ (by exact T.str_) (aE (aw 0))))))) (hG (aw 0) ae ff)) (aF (bI NX N4 N5 aL (aw 0) (aE ar)))) gB) (aY (ju (bP cw (ao a9 (ao cH (aw 2) ae) ae) ae) (aY (dQ (ao ak ar (jg rfl (aE (gU ["size"] [] [] (qu (aw 1)) (dU 0) cM (dW a_ (by exact T.str_) (aE (aw 0))))))) (hG (aw 0) ae ff)) (aF (bI NX N4 N5 aL (aw 0) (aE ar)))) gB) (cL (bP cw (ao a9 (ao cH (aw 2) ae) ae) ae) (dQ (ao ak (ao ak (ao ak ar (dW a_ T.str_ (aE (aR aZ (aw 1) ae)))) ar) (dW a_ T.str_ (aE (aR aZ (aw 1) ae)))) (hG (aw 0) ae ff)))))))))),?_⟩
 dsimp only[fo]
 have m:=A
 obtain⟨⟨r1,r2⟩,c1,c2⟩:=m
 have u:xs.length=X.length+1:=eN O
 have I:gN (2,R,C):=gY (by lia)
 refine cG (nq [0,5,17,999999999999999999] (ag aq (ag aq (ag aq (ag (aP (bj aq aq (Ak (by decide) (by decide) (by decide))) aq) az)))) (by kernel_rfl) (by decide) (λ_=>(bj (bj (aa rfl) aq (o9 (by lia) (by lia))) aq (by first|(show(0:Int)<_;lia)|(show(0:Int)<_;decide)))) (OK _ (by decide)) (OL _ (by decide)) λv hv H1 s1=>?_)
 try dsimp only
 refine eJ (σ':=[_,_,_,_,_]) rfl ?_
 have j:v=0\/v=5\/v=17\/v=999999999999999999:=by simpa using hv
 clear hv
 refine FI rfl (s1 _ _ hs) I rfl λwd H2 s2 n2 h2=>?_
 try dsimp only
 refine eJ (σ':=[_,_,_,_,_]) rfl ?_
 obtain⟨k,ek,N⟩:∃k:Nat,((k:Nat):Int)=c%3/\k<3:=⟨(c%3).toNat,by lia,by lia⟩
 have f:∀v,[dg 2,dg R,dg C].set k (dg v)=[dg (Aq R C k v).1,dg (Aq R C k v).2.1,dg (Aq R C k v).2.2]:=λv=>by
  have:k=0\/k=1\/k=2:=by lia
  rcases this with rfl|rfl|rfl<;>rfl
 have n0:H wd=none:=jM s1 n2
 refine EE (w:=dg v) k rfl h2 (kP (aa rfl) (by lia)) (aU (bj (aa rfl) aq (by first|(show(0:Int)<_;lia)|(show(0:Int)<_;decide))) (congrArg V.int ek.symm)) (by show k<3;exact N) λH3 s3 Y=>?_
 replace s3:=s3 H (s1.trans s2) n0
 rw[f] at Y
 try dsimp only
 refine Jh (λM H'=>M=[some (.ref l),some (.ref sz),some (.int c),some (.int (v:Nat)),some (.ref wd)]/\au H H'/\∃y,(y=0\/(y=5/\k=0)\/y=17\/y=999999999999999999)/\WL H' wd [dg (Aq R C k y).1,dg (Aq R C k y).2.1,dg (Aq R C k y).2.2]) (vN (aA (bM (aa rfl) aq)) λ_=>(aA (aP (bj (aa rfl) aq (by first|(show(0:Int)<_;lia)|(show(0:Int)<_;decide))) aq))) (λz R' hR=>?_) (λz R' hR=>?_) ?_
 ·refine xw k rfl Y (w:=dg 17) (aU aq (by decide+kernel)) (aU (bj (aa rfl) aq (by first|(show(0:Int)<_;lia)|(show(0:Int)<_;decide))) (congrArg V.int ek.symm)) (by show k<3;exact N) λH4 Z W=>hR _ _ ⟨rfl,Z H s3 n0,17,.inr (.inr (.inl rfl)),?_⟩
  rw[<-f v,List.set_set,f] at W
  exact W
 ·refine hR _ _ ⟨rfl,s3,v,?_,Y⟩
  rcases j with e|e|e|e
  ·exact .inl e
  ·refine .inr (.inl ⟨e,?_⟩)
   rw[e] at z
   simp at z
   lia
  ·exact .inr (.inr (.inl e))
  ·exact .inr (.inr (.inr e))
 clear j Y s3 h2 s2 s1
 rintro _ H4 ⟨rfl,Z,y,hy,W⟩
 have d:gN (Aq R C k y)/\¬Sz (Aq R C k y):=by
  unfold gN Sz Aq
  split
  ·dsimp only;lia
  ·split<;>(dsimp only;lia)
 have p:=Z _ _ hl
 refine vI 0 rfl p (by lia) (w:=L "floor " ++jl 32 [dg (Aq R C k y).1,dg (Aq R C k y).2.1,dg (Aq R C k y).2.2]) (aK (aT "floor " 6) (iM _ 56 (λH1 s Q' S=>bB (aa rfl) (S wd H1 (au.refl H1) (s _ _ W))) (mE d.1) (by show 3<=100;decide) (oz d.1))) λH5 F h5=>?_
 replace F:Sb l H H5:=dX (λb o _ e=>Z _ _ e) F
 have r:=jb O (ja d.1)
 have g:A3 H5 sz (2,R,C):=F _ _ (λe=>by rw[e] at hs;exact absurd (hs.symm.trans hl) (by simp)) hs
 have a:∀x,(xs.set 0 x).length=X.length+1:=λx=>by rw[List.length_set];exact u
 try dsimp only
 have tA:gu (ss (L "layer 3 4")) (.gd (.layer 3 4)):=iQ (by decide) (by decide) (by decide+kernel) (by decide+kernel)
 have tV:gu (ss (L "via 3")) (.gd (.via 3)):=uY (by decide) (by decide+kernel) (by decide+kernel)
 refine cI (aA (bM (bj (bj (aa rfl) aq (o9 (by lia) (by lia))) aq (by first|(show(0:Int)<_;lia)|(show(0:Int)<_;decide))) aq)) (λz=>?_) λz1=>?_
 ·refine vI 0 rfl h5 (by rw[a];lia) (w:=L "floor " ++jl 32 [dg 2,dg R,dg C]) (aK (aT "floor " 6) (iM _ 56 (λH1 s Q' S=>mC rfl (s _ _ g) I rfl λD H2 s2 _ h2=>S D H2 s2 h2) (mE I) (by show 3<=100;decide) (oz I))) λH6 G J=>?_
  rw[List.set_set] at J
  refine gy rfl J (by rw[a];lia) λQ' kk=>bB gH (kk _ H6 (au.refl H6) J λH' U=>?_)
  try dsimp only
  refine kM (aA (bM (bj (bj (aa rfl) aq (o9 (by lia) (by lia))) aq (by first|(show(0:Int)<_;lia)|(show(0:Int)<_;decide))) aq)) (by simp at z|-;lia) (kI (aA (bM (bj (bj (aa rfl) aq (o9 (by lia) (by lia))) aq (by first|(show(0:Int)<_;lia)|(show(0:Int)<_;decide))) aq)) (by simp at z|-;lia) ?_)
  exact q H' _ _ (dX F (dX G (by rw[U];exact gF (au.refl H6)))) I (.inr (.inl ⟨rfl,.inl rfl⟩)) (gL (X:=.floor (2,R,C)::X) (jb O (ja I)) (by rw[U,ah]) tA)
 refine cI (aA (bM (bj (bj (aa rfl) aq (o9 (by lia) (by lia))) aq (by first|(show(0:Int)<_;lia)|(show(0:Int)<_;decide))) aq)) (λz=>?_) λz2=>?_
 ·refine vI 0 rfl h5 (by rw[a];lia) (w:=L "floor " ++jl 32 [dg 2,dg R,dg C]) (aK (aT "floor " 6) (iM _ 56 (λH1 s Q' S=>mC rfl (s _ _ g) I rfl λD H2 s2 _ h2=>S D H2 s2 h2) (mE I) (by show 3<=100;decide) (oz I))) λH6 G J=>?_
  rw[List.set_set] at J
  refine gy rfl J (by rw[a];lia) λQ' kk=>bB gH (kk _ H6 (au.refl H6) J λH' U=>?_)
  try dsimp only
  refine kI (aA (bM (bj (bj (aa rfl) aq (o9 (by lia) (by lia))) aq (by first|(show(0:Int)<_;lia)|(show(0:Int)<_;decide))) aq)) (by simp at z|-;lia) ?_
  exact q H' _ _ (dX F (dX G (by rw[U];exact gF (au.refl H6)))) I (.inr (.inl ⟨rfl,.inr rfl⟩)) (gL (X:=.floor (2,R,C)::X) (jb O (ja I)) (by rw[U,ah]) tV)
 refine gi (aA (bM (bj (bj (aa rfl) aq (o9 (by lia) (by lia))) aq (by first|(show(0:Int)<_;lia)|(show(0:Int)<_;decide))) aq)) (λz=>?_) λz3=>q H5 _ _ F d.1 (.inl ⟨d.2,rfl⟩) ⟨_,h5,r⟩
 have i:gN (3,R,C):=gY (by lia)
 have lR:=bR (k:=2) (n:=R) (by decide) (by lia)
 have lC:=bR (k:=2) (n:=C) (by decide) (by lia)
 have t8:(L "floor 3 ").length=8:=by decide+kernel
 have t1:(L " ").length=1:=by decide+kernel
 refine nN 0 rfl h5 (by rw[a];lia) (w:=L "floor 3 " ++dg R++L " " ++dg C) (jn λH1 s=>cn (cn (cn (df "floor 3 " 8) (jD (bC (v:=.int (R:Nat)) (aa rfl) aq (bY.of (s _ _ g)) rfl) (by lia))) (df " " 1)) (jD (bC (v:=.int (C:Nat)) (aa rfl) aq (bY.of (s _ _ g)) rfl) (by lia))) λH6 G J=>?_
 rw[List.set_set] at J
 exact q H6 _ _ (dX F G) i (.inr (.inr ⟨rfl,rfl⟩)) ⟨_,J,jb O (su i (by rw[BH,IW,aW,aW,aW,dE];simp) (by simp only[NM];lia))⟩
theorem Ct (J:aG P w K mg base "_law_size_fault" 1 ["page", "sizes", "cell"] yn)(D:aG P w K mg base "_law_price_fault" 1 ["page", "cell"] sY)(N:aG P w K mg base "_law_out_fault" 3 ["page", "sizes", "cell"] BB)(G:aG P w K mg base "_law_thing_fault" 2 ["page", "sizes", "cell"] sV)(F:aG P w K mg base "_law_twice_fault" 2 ["page", "sizes", "cell"] se)(O:aG P w K mg base "_law_fit_fault" 3 ["page", "sizes", "cells", "cell"] CM)(B:aG P w K mg base "_law_crowd_fault" 2 ["page", "sizes", "cells", "cell"] tL):fK P w K mg base 4 "_law_fault" D7 ["page", "sizes", "cells", "which", "cell"] vY:=by
 refine rd ["page", "sizes", "cells", "which", "cell"] λnd _ _ _ _ _ H vs Q E y h=>?_
 obtain⟨l,sz,cl,c,j,R,C,n,cs,s,rfl,M,u,T,i,hc,m,hj,q⟩:=h
 refine⟨_,(aj (cL (bP cw (aw 3) ae) (aF (bt J y (ax (aw 0) (aJ (aw 1) (aw 4)))))) (aj (cL (bP cw (aw 3) ae) (aF (bt D y (aJ (aw 0) (aw 4))))) (aj (cL (bP cw (aw 3) ae) (aF (bt N y (ax (aw 0) (aJ (aw 1) (aw 4)))))) (aj (cL (bP cw (aw 3) ae) (aF (bt G y (ax (aw 0) (aJ (aw 1) (aw 4)))))) (aj (cL (bP cw (aw 3) ae) (aF (bt F y (ax (aw 0) (aJ (aw 1) (aw 4)))))) (aY (cL (bP cw (aw 3) ae) (aF (bt O y (ax (aw 0) (ax (aw 1) (aJ (aw 2) (aw 4))))))) (cL (bP cw (aw 3) ae) (aF (bt B y (ax (aw 0) (ax (aw 1) (aJ (aw 2) (aw 4))))))))))))),?_⟩
 have f:(PS.rows (jK R cs) (jL C cs) n s).length<=50:=by show s.rest.length+8<=50;lia
 have o:(PS.body (jK R cs) (jL C cs) n s).length<=50:=by show s.rest.length+7<=50;lia
 have X:(j<1/\En R C (jK R cs) (jL C cs) n l H j s H)\/(1<=j/\H=H):=by
  by_cases e:j<1
  ·refine .inl ⟨e,s,λ_ _ _ h=>h,?_,M⟩
   rw[show j=0 by lia];exact .no s
  ·exact .inr ⟨by lia,rfl⟩
 have g:∀{H':Hp} {r:Rw} {k:Nat} {R':St->Hp->Prop} {σ:St},j=k->3<=k->(∀H',En R C (jK R cs) (jL C cs) n l H j s H'->R' σ H')->xT R C (jK R cs) (jL C cs) k r->Sb l H H'->oE H' l (PS.rows (jK R cs) (jL C cs) n s++[r])->R' σ H':=fun{H' r k R' σ} e Z A hk sb v=>A H' ⟨{s with rest:=s.rest++[r]},sb,by rw[e];exact .row s k r Z hk,v⟩
 refine i9 (Dn:=En R C (jK R cs) (jL C cs) n l H j s) (j:=j) (k:=1) (H0:=H) (λ_=>aA (bM (aa rfl) aq)) (by rw[decide_eq_true_iff];lia) X (λe R' A=>fe (bF (ag (aa rfl) (ag (aa rfl) (ag (aa rfl) az))) ⟨l,sz,c,R,C,_,_,rfl,M,o,T,i,λH' z Y sb U W v=>A H' ?_⟩)) λH1 h1=>?_
 ·rcases W with ⟨S,rfl⟩|⟨S,rfl|rfl⟩|⟨S,rfl⟩
  ·exact⟨_,sb,by rw[e];exact .size s z [] U (.inl ⟨S,rfl⟩),by rw[Os];exact v⟩
  ·exact⟨{s with z:=z,rest:=s.rest++[.layer 3 4]},sb,by rw[e];exact .size s z [.layer 3 4] U (.inr (.inl ⟨S,.inl rfl⟩)),v⟩
  ·exact⟨{s with z:=z,rest:=s.rest++[.via 3]},sb,by rw[e];exact .size s z [.via 3] U (.inr (.inl ⟨S,.inr rfl⟩)),v⟩
  ·exact⟨_,sb,by rw[e];exact .size s z [] U (.inr (.inr ⟨S,rfl⟩)),by rw[Os];exact v⟩
 refine i9 (Dn:=En R C (jK R cs) (jL C cs) n l H j s) (j:=j) (k:=2) (H0:=H) (λ_=>aA (bM (aa rfl) aq)) (by rw[decide_eq_true_iff];lia) h1 (λe R' A=>fe (bF (ag (aa rfl) (ag (aa rfl) az)) ⟨l,c,_,_,_,_,_,rfl,M,by show s.rest.length+4<=50;lia,λH' p Y sb h1 I W v=>A H' ?_⟩)) λH2 h2=>?_
 ·rcases W with rfl|rfl|rfl|⟨X,rfl⟩
  ·exact⟨{s with a:=p,b:=7},sb,by rw[e];exact .price s _ p h1 I (.inl rfl),v⟩
  ·exact⟨{s with c:=7,d:=p},sb,by rw[e];exact .price s _ p h1 I (.inr (.inl rfl)),v⟩
  ·exact⟨{s with e:=p},sb,by rw[e];exact .price s _ p h1 I (.inr (.inr (.inl rfl))),v⟩
  ·exact⟨{s with rest:=s.rest++[.toll p (0,0,0) (0,0,0),.toll 1 (0,0,0) (1,1,1)]},sb,by rw[e];exact .price s _ p h1 I (.inr (.inr (.inr ⟨X,rfl⟩))),v⟩
 refine i9 (Dn:=En R C (jK R cs) (jL C cs) n l H j s) (j:=j) (k:=3) (H0:=H) (λ_=>aA (bM (aa rfl) aq)) (by rw[decide_eq_true_iff];lia) h2 (λe R' A=>fe (bF (ag (aa rfl) (ag (aa rfl) (ag (aa rfl) az))) ⟨l,sz,c,R,C,_,rfl,M,f,T,i,λH' r sb y v=>g e (by decide) A (.inr (.inr (.inl ⟨rfl,y⟩))) sb v⟩)) λH3 Z=>?_
 refine i9 (Dn:=En R C (jK R cs) (jL C cs) n l H j s) (j:=j) (k:=4) (H0:=H) (λ_=>aA (bM (aa rfl) aq)) (by rw[decide_eq_true_iff];lia) Z (λe R' A=>fe (bF (ag (aa rfl) (ag (aa rfl) (ag (aa rfl) az))) ⟨l,_,c,_,rfl,M,f,λH' r sb y v=>g e (by decide) A (.inr (.inr (.inr (.inl ⟨rfl,y⟩)))) sb v⟩)) λH4 h4=>?_
 refine i9 (Dn:=En R C (jK R cs) (jL C cs) n l H j s) (j:=j) (k:=5) (H0:=H) (λ_=>aA (bM (aa rfl) aq)) (by rw[decide_eq_true_iff];lia) h4 (λe R' A=>fe (bF (ag (aa rfl) (ag (aa rfl) (ag (aa rfl) az))) ⟨l,sz,c,R,C,_,rfl,M,f,T,i,λH' x sb y v=>g e (by decide) A (.inr (.inr (.inr (.inr (.inl ⟨rfl,x,y,rfl⟩))))) sb v⟩)) λH5 h5=>?_
 refine i9 (Dn:=En R C (jK R cs) (jL C cs) n l H j s) (j:=j) (k:=6) (H0:=H) (λ_=>aA (bM (aa rfl) aq)) (by rw[decide_eq_true_iff];lia) h5 (λe R' A=>fe (bF (ag (aa rfl) (ag (aa rfl) (ag (aa rfl) (ag (aa rfl) az)))) ⟨l,sz,cl,c,R,C,cs,_,rfl,M,f,T,i,hc,m,λH' r sb y v=>g e (by decide) A (.inr (.inr (.inr (.inr (.inr (.inl ⟨rfl,y⟩)))))) sb v⟩)) λH6 h6=>?_
 exact Fb (Dn:=En R C (jK R cs) (jL C cs) n l H j s) (j:=j) (k:=7) (H0:=H) (λ_=>aA (bM (aa rfl) aq)) (by rw[decide_eq_true_iff];lia) h6 (by lia) (λe R' A=>fe (bF (ag (aa rfl) (ag (aa rfl) (ag (aa rfl) (ag (aa rfl) az)))) ⟨l,sz,cl,c,R,C,cs,_,rfl,M,f,T,i,hc,m,λH' r sb y v=>g e (by decide) A (.inr (.inr (.inr (.inr (.inr (.inr ⟨rfl,y⟩)))))) sb v⟩)) λH' ⟨s',sb,op,v⟩=>q H' s' sb op v
theorem F6 (aB:aG P w K mg base "_law_good_rows" 2 ["sizes", "cells"] xJ)(av:aG P w K mg base "_law_fault" 4 ["page", "sizes", "cells", "which", "cell"] vY):fK P w K mg base 5 "_law_page" GZ ["sizes", "cells"] De:=by
 refine rd ["sizes", "cells", "page", "wrongs", "least"] λnd _ _ _ _ _ H vs Q E hr h=>?_
 obtain⟨sz,cl,R,C,cs,rfl,hs,o,hc,c,q⟩:=h
 refine⟨_,(aj (aX 2 nd (ao eB (cf (aE (ao ak ar (jg rfl (aE (gU ["size"] [] [] (qu (aw 0)) (dU 0) cM (dW a_ (by exact T.str_) (aE (aw 0))))))))) (bt aB hr (aJ (aw 0) (aw 1))))) (aj (aX 3 nd (cf (aJ (ao a9 (aR aH (aw 1) ae) ae) (ao a9 (aR aH (aw 1) ae) ae)))) (aj (aF (bt av hr (ax (aw 2) (ax (aw 0) (ax (aw 1) (aJ (aR aH (aw 3) ae) (aR aH (aw 1) ae))))))) (aj (cL (bP iq (aR aH (aw 3) ae) (aR aH (aw 3) ae)) (aF (bt av hr (ax (aw 2) (ax (aw 0) (ax (aw 1) (aJ (aR aH (aw 3) ae) (aR aH (aw 1) ae)))))))) (aj (aX 2 nd (ao eB (bg bE (cf (ax ar (aJ ar ar))) bX (bq (ao a9 (ao cH (aR aH (aw 1) ae) ae) ae))) (aw 2))) (aY (aX 4 nd (ao a9 (dn (zo rfl) T.min_ (aE (ao eB (gU ["k"] [] [] (bw (aw 3)) (dU 0) (nr (bP wq (aw 0) ae)) (aw 0)) (cf (aE ae))))) ae)) (aN (c9 (aJ (aw 2) (aR aH (cf (ax ar (ax ar (ax ar (ax ar (ax ar (ax ar (aJ ar ar)))))))) (aw 4))))))))))),?_⟩
 dsimp only[fo]
 obtain⟨⟨r1,r2⟩,c1,c2⟩:=id o
 have hz:gN (2,R,C):=gY (by lia)
 have g:tO R C (jK R cs) (jL C cs):=⟨o,(wB r1).2,(wA c1).2⟩
 refine cA λR' hR=>dH (mG (ws:=[L "floor " ++jl 32 [dg 2,dg R,dg C]]) (g_ (aK (aT "floor " 6) (iM [dg 2,dg R,dg C] 56 (λH1 s1 Q' q'=>mC (z:=(2,R,C)) rfl (s1 _ _ hs) hz rfl λD H2 s2 _ h2=>q' D H2 s2 h2) (mE hz) (show 3<=100 by decide) (oz hz))) qE) (show 1<=100 by decide) λp H1 s1 np hp=>bF (ag (aa rfl) (ag (aa rfl) az)) ⟨sz,cl,R,C,cs,rfl,s1 _ _ hs,o,s1 _ _ hc,c,λl H2 a b e n s2 nl ha hb he hn hP=>?_⟩)
 obtain⟨xs,hl,hx⟩:=hP
 have W:xs.length=7:=eN hx
 refine jQ (s2 _ _ hp) hl (by rw[NG (f:=V.str) (as:=xs),W];show 1+7<=1000;decide) λpg H3 s3 bl h3=>hR _ _ ?_
 clear hR R'
 refine eJ (σ':=[_,_,_,_,_]) rfl ?_
 have x:=Iv.none g ha hb he
 have P3:oE H3 pg (PS.rows (jK R cs) (jL C cs) n ⟨(2,R,C),a,b,1000000000000,1,e,[]⟩):=⟨_::xs,h3,.cons (ja hz) hx⟩
 have y:H pg=none:=mV (s1.trans s2) bl
 have S:au H H3:=s1.trans (s2.trans s3)
 clear hx hl hp h3 W
 revert P3 x
 generalize (⟨(2,R,C),a,b,1000000000000,1,e,[]⟩:PS)=s0
 intro x P3
 obtain⟨i,ei,hi⟩:∃i:Nat,((i:Nat):Int)=cs.getD 5 0%8/\i<8:=⟨(cs.getD 5 0%8).toNat,by lia,by lia⟩
 obtain⟨j,ej,hj⟩:∃j:Nat,((j:Nat):Int)=cs.getD 7 0%8/\j<8:=⟨(cs.getD 7 0%8).toNat,by lia,by lia⟩
 have X:=S _ _ hc
 refine cA λR' hR=>xZ [.int (i:Nat),.int (j:Nat)] (ag (aU (bj (g:=λi j=> .int (i%j)) (cv (K:=K) (i:=5) rfl X c (by decide)) aq (by show(0:Int)<_;decide)) (congrArg V.int ei.symm)) (ag (aU (bj (g:=λi j=> .int (i%j)) (cv (K:=K) (i:=7) rfl X c (by decide)) aq (by show(0:Int)<_;decide)) (congrArg V.int ej.symm)) az)) (by show 2<=1000;decide) λw H4 s4 nw hw=>hR _ _ ?_
 clear hR R'
 refine eJ (σ':=[_,_,_,_,_]) rfl ?_
 have B:=S.trans s4
 have G:w≠pg:=by
  obtain⟨ys,hy,_⟩:=P3
  exact(tS hy nw).symm
 have ad:=B _ _ hs
 have I:=B _ _ hc
 refine iT (bF (ag (aa rfl) (ag (aa rfl) (ag (aa rfl) (ag (dG (v:=.int (i:Nat)) (aa rfl) aq (bf.of hw) rfl) (ag (cv (K:=K) (i:=6) rfl I c (by decide)) az))))) ⟨pg,sz,cl,_,i,R,C,n,cs,s0,rfl,P3.same s4,by have:=x.ln;show s0.rest.length<=20;simp at this;rw[this];decide,ad,o,I,c,hi,λH5 bb bc o1 P5=>?_⟩)
 have u:=Cw y B bc
 have r:=bc _ _ G hw
 have A:=Jc x o1
 have ac:=u _ _ hs
 have U:=u _ _ hc
 refine FS (K6 H R C (jK R cs) (jL C cs) n i j sz cl pg w) (λR' hR=>gi (aA (kL (dG (v:=.int (j:Nat)) (aa rfl) aq (bf.of r) rfl) (dG (v:=.int (i:Nat)) (aa rfl) aq (bf.of r) rfl))) (λz=>?_) λz=>?_) ?_
 ·have af:j≠i:=λe=>by rw[e] at z;simp at z
  refine fe (bF (ag (aa rfl) (ag (aa rfl) (ag (aa rfl) (ag (dG (v:=.int (j:Nat)) (aa rfl) aq (bf.of r) rfl) (ag (cv (K:=K) (i:=8) rfl U c (by decide)) az))))) ⟨pg,sz,cl,_,j,R,C,n,cs,bb,rfl,P5,?_,ac,o,U,c,hj,λH6 d a6 o2 P6=>hR _ _ ⟨H6,d,Cw y u a6,a6 _ _ G r,P6,Il A o2 af⟩⟩)
  have:=A.ln
  have l1:(if i=0 then [] else [i]).length<=1:=by
   split
   ·exact N9 _
   ·exact NI _
  lia
 ·refine hR _ _ ⟨H5,bb,u,r,P5,DS A ?_⟩
  have z:decide (((j:Nat):Int)=(i:Nat))=true:=by simpa using z
  have:=of_decide_eq_true z
  lia
 rintro σ H6 ⟨_,d,F,O,P6,iv⟩
 obtain⟨ys,hl,hy⟩:=P6
 have an:=iv.ln
 have yl:ys.length=d.rest.length+8:=eN hy
 obtain⟨nd,l2,le⟩:=Lh i hi j hj
 obtain⟨m,em,m3⟩:∃m:Nat,((m:Nat):Int)=cs.getD 0 0/11%4/\m<=3:=⟨(cs.getD 0 0/11%4).toNat,by lia,by lia⟩
 have Z:F1 cs=m:=by unfold F1;rw[<-em];rfl
 refine cA λR' hR=>dH (sR (K:=K) (k:=m) Mw (ag aq (ag aq (ag aq az))) rfl (by decide) (λH' s'=>aU (bj (g:=λi j=> .int (i%j)) (bj (g:=λi j=> .int (i/j)) (cv (K:=K) (i:=0) rfl (s' _ _ (F _ _ hc)) c (by decide)) aq (o9 (by decide) (by decide))) aq (by show(0:Int)<_;decide)) (congrArg V.int em.symm)) (by show m<=3;lia) λp1 H7 s7 n7 h7=>bB (aa rfl) (jQ h7 (s7 _ _ hl) (by rw[NG,NG,N_];lia) λp2 H8 s8 n8 h8=>hR _ _ ?_))
 clear hR R'
 refine eJ (σ':=[_,_,_,_,_]) rfl ?_
 have ai:=F.trans (s7.trans s8)
 have J:=(s7.trans s8) _ _ O
 have P8:D_ H8 p2 (vF m (PS.rows (jK R cs) (jL C cs) n d)):=⟨Mw.take m++ys,by rw[h8,NW],jA (by
  have:=mq MF m
  rwa [List.take_replicate,O4 m3] at this) hy⟩
 clear h8 h7 hl hy s8 s7 F O
 refine cA λR' hR=>dH (q9 (dH ?_))
 refine⟨_,rfl,w,rfl,⟨_,bf.of J⟩,λD nD=>?_⟩
 refine da (K:=K) (xs:=[i,j].map λn:Nat=>V.int (n:Nat)) (λt τ H'=>∃x0,τ=[x0]/\au H8 H'/\H' D=some (.lst ((flt ([i,j].take t)).map λn:Nat=>V.int (n:Nat)))) ⟨none,rfl,(au.refl H8).upd nD,ah⟩ (λt τ H' _ ⟨_,_,s,_⟩=>bf.of (s _ _ J)) ?_ ?_
 ·rintro t v τ H' hx ⟨x0,rfl,s,hD⟩
  obtain⟨k,hk,rfl⟩:=iL hx
  have ht:=bU hk
  have e1:[i,j].take (t+1)=[i,j].take t++[k]:=by rw[Pa,hk];rfl
  refine gn (iD (aA (Ke (aa rfl) aq)) (yj (λe=>bB (aa rfl) ⟨_,hD,?_,_,rfl,dI s nD,?_⟩) λe=>⟨_,rfl,s,?_⟩))
  ·rw[NG]
   have:sizeLine=2^24:=rfl
   have:=Qf (λk=>decide (0<k)) ([i,j].take t)
   have:([i,j].take t).length<=2:=List.length_take_le' _ _
   unfold flt
   lia
  ·have e:0<k:=by simpa using e
   rw[ah,e1];unfold flt
   rw[Qe,List.filter_cons,if_pos (by simpa using e),NW];rfl
  ·have e:¬0<k:=by simpa using e
   rw[hD,e1];unfold flt
   rw[Qe,List.filter_cons,if_neg (by simpa using e),List.filter_nil,Os]
 rintro τ H9 ⟨x0,rfl,s9,hD⟩
 have hD:H9 D=some (.lst ((flt [i,j]).map λn:Nat=>V.int (n:Nat))):=hD
 have am:(flt [i,j]).length<=2:=Qf _ _
 refine xZ [.int 8] (ag aq az) (by show 1<=1000;decide) λp8 H10 aC c0 bm=>jQ (aC _ _ hD) bm (by rw[NG];show _+1<=_;lia) λbD H11 a7 dj b0=>?_
 refine⟨bD,(flt [i,j]++[8]).map λn:Nat=>((n:Nat):Int),rfl,bf.of (by rw[b0,Ol,NW];rfl),by simp,λM hM hm=>?_⟩
 obtain⟨M,N,rfl⟩:=N0.mp hM
 have lk:=Hq hi hj N λa ha=>by
  have:=hm _ (List.mem_map_of_mem (f:=λn:Nat=>((n:Nat):Int)) ha)
  lia
 refine bB aq ⟨_,_,rfl,rfl,by show(0:Int)<_;decide,hR _ _ ?_⟩
 clear hR R' hM hm N
 have Y:=ai.trans (s9.trans (aC.trans a7))
 have br:=P8.same (s9.trans (aC.trans a7))
 obtain⟨k,ek⟩:∃k,k=M%8:=⟨_,rfl⟩
 rw[<-ek] at lk
 have k8:k<8:=by lia
 refine eJ (σ':=[some (.ref sz),some (.ref cl),some (.ref p2),some (.ref w),some (.int (k:Nat))]) (by show [_,_,_,_,some (V.int (((M:Nat):Int)%8))]=_;rw[show((M:Nat):Int)%8=((k:Nat):Int) by lia]) ?_
 refine eX (ip (aa rfl) (eI (dH (iR ((List.range 8).map kN) (ag aq (ag aq (ag aq (ag aq (ag aq (ag aq (ag aq (ag aq az)))))))) (by kernel_rfl) (by decide) λp1 H12 a3 _ a5=>bB (aa rfl) ⟨p1,_,_,.str (kN k),rfl,rfl,bf.of a5,eg (by rw[Od,Od,List.getElem?_range k8];rfl),⟨by show 2<=sizeLine;decide,λt nt=>?_⟩⟩))))
 exact q t p2 _ (PS.rows (jK R cs) (jL C cs) n d) k ((Y.trans a3).upd nt) ah (by rw[Z];exact br.same (a3.trans ((au.refl H12).upd nt))) (iv.due g hn nd l2 le lk)
theorem y_ (I:aG P w K mg base "_law_bad_row" 1 ["cell"] wR):fK P w K mg base 2 "_law_spoilt" yp ["page", "silent", "cells"] tG:=by
 refine rd ["page", "silent", "cells", "rows", "due", "k", "at", "row"] λC _ _ _ _ _ H vs Q E hr h=>?_
 obtain⟨l,cl,m,k0,W,cs,rfl,⟨xs,N,M⟩,gd,m3,hc,p,q⟩:=h
 obtain⟨z,X,rfl,_,_,hX,A⟩:=gd
 refine⟨_,(aj (aX 3 C (dW fV T.list_ (aE (aw 0)))) (aj (aX 4 C ae) (aY (oG (D5 T.range_ (aE (ao aV ae (ao a9 (ao cH (aR aH (aw 2) ae) ae) ae)))) (cq 5 C) (aj (aX 6 C (ao a9 (aR aH (aw 2) (ao aV ae (aw 5))) (ao aV (dn bS T.len_ (aE (aw 0))) ae))) (aj (aX 7 C (bt I hr (aE (ao cH (aR aH (aw 2) (ao aV ae (aw 5))) ae)))) (aY (ju (bP cw (ao a9 (ao cH (aR aH (aw 2) (ao aV ae (aw 5))) ae) ae) ae) (aY (aX 6 C (dn (fZ rfl) T.max_ (aJ (aw 6) (ao aV (aw 1) ae)))) (aX 7 C ar)) (aO (ju (bP cw (ao a9 (ao cH (aR aH (aw 2) (ao aV ae (aw 5))) ae) ae) ae) (aY (aX 6 C (dn (iZ rfl) T.min_ (aJ (aw 6) (aw 1)))) (aX 7 C ar)) gB))) (ju (fR (bP cw (aw 5) ae) (eU (bP tX (aw 6) (aw 4)))).pt (aY (aX 4 C (ao aV (aw 6) ae)) (aX 3 C (ao eB (ao eB (bg bE (aw 0) bX (bq (aw 6))) (cf (aE (aw 7)))) (bg bE (aw 3) (bq (aw 6)) bX)))) (aO (aX 3 C (ao eB (ao eB (bg bE (aw 3) bX (bq (ao aV (aw 6) ae))) (cf (aE (aw 7)))) (bg bE (aw 3) (bq (ao aV (aw 6) ae)) bX))))))))) (aN (c9 (aJ (aw 3) (aw 4))))))),?_⟩
 dsimp only[fo]
 have lk:(vF m (.floor z::X)).length=m+1+X.length:=by unfold vF;rw[NM,Pm,NG,NU];lia
 have lx:xs.length=(vF m (.floor z::X)).length:=Paired.length M
 obtain⟨F,U⟩:∃F,F=vF m (.floor z::X):=⟨_,rfl⟩
 rw[<-U] at lk lx M
 have y:∀{a k rest},a<=F.length->Bk m a k->gw (F.take a++k::rest)=.error (a+1):=λh1 h2=>by rw[U];exact AW hX (by lia) h2
 clear U
 refine cA λR G=>Hz (ag (aa rfl) az) ⟨l,_,rfl,.inl (bf.of N),λD n1=>G _ _ ?_⟩
 clear G R
 have s1:au H (upd H D (.lst (xs.map V.str))):=(au.refl H).upd n1
 have h1:upd H D (.lst (xs.map V.str)) D=some (.lst (xs.map V.str)):=ah
 revert s1 h1
 generalize upd H D _=H1
 intro s1 h1
 refine eJ (σ':=[_,_,_,_,_,_,_,_]) rfl ?_
 refine cK (v:=.int ((0:Nat):Int)) aq ?_
 refine eJ (σ':=[_,_,_,_,_,_,_,_]) rfl ?_
 obtain⟨n,en,a8,n2⟩:∃n:Nat,((n:Nat):Int)=1+cs.getD 9 0/3%2/\1<=n/\n<=2:=⟨(1+cs.getD 9 0/3%2).toNat,by lia,by lia,by lia⟩
 refine EF (j:=((n:Nat):Int)) (ag (aU (aP (g:=λi j=> .int (i+j)) aq (bj (g:=λi j=> .int (i%j)) (bj (g:=λi j=> .int (i/j)) (cv (K:=K) (i:=9) rfl (s1 _ _ hc) p (by decide)) aq (o9 (by decide) (by decide))) aq (by show(0:Int)<_;decide))) (congrArg V.int en.symm)) az) (by lia) (by lia) ?_
 rw[PJ]
 refine pb (n:=n) (M3 H l cl m F) ⟨D,0,none,none,none,H1,F,s1,⟨xs,h1,M⟩,rfl,.inl ⟨rfl,rfl⟩⟩ ?_ ?_
 ·rintro i σ H2 hi ⟨rw,due,x5,x6,x7,_,ls,s2,⟨ys,h2,J⟩,ll,f⟩
  refine gn ?_
  refine eJ (σ':=[some (.ref l),some (.int (m:Nat)),some (.ref cl),some (.ref rw),some (.int (due:Nat)),some (.int (i:Nat)),x6,x7]) (by rw[show(0:Int)+(i:Nat)=(i:Nat) by lia];rfl) ?_
  have yl:ys.length=ls.length:=Paired.length J
  have c:∀{σ:St} {H':Hp},au H2 H'->σ[2]?=some (some (.ref cl))->σ[5]?=some (some (.int (i:Nat)))->Ev (gb (uh K) (cV 2) (gb (Ad λi j=> .int (i+j)) (tC (.int 10)) (cV 5))) σ H' (.int (cs.getD (10+i) 0)):=λs h1 h2=>dG (aa h1) (aU (aP (g:=λi j=> .int (i+j)) aq (aa h2)) (show V.int (10+(i:Nat))=.int ((10+i:Nat):Int) from congrArg V.int (by lia))) (bf.of ((s2.trans s) _ _ hc)) (G8 p (by lia))
  obtain⟨B,ea,ha⟩:∃B:Nat,((B:Nat):Int)=cs.getD (10+i) 0%((xs.map V.str).length+1:Int)/\B<=F.length:=by
   have Z:=OK (cs.getD (10+i) 0) (show(((xs.map V.str).length+1:Int))≠0 by lia)
   have h1:=OL (cs.getD (10+i) 0) (show(0:Int)<(((xs.map V.str).length+1:Int)) by lia)
   rw[NG] at Z h1|-
   exact⟨(cs.getD (10+i) 0%(xs.length+1:Int)).toNat,by lia,by lia⟩
  refine cK (v:=.int (B:Nat)) (aU (bj (g:=λi j=> .int (i%j)) (c (au.refl H2) rfl rfl) (aP (g:=λi j=> .int (i+j)) (jG (K:=K) (aa rfl) (s2 _ _ N)) aq) (by show(0:Int)<_;lia)) (congrArg V.int ea.symm)) ?_
  refine eJ (σ':=[_,_,_,_,_,_,_,_]) rfl ?_
  refine cA λR G=>bF (ag (bj (g:=λi j=> .int (i/j)) (c (au.refl H2) rfl rfl) aq (o9 (by decide) (by decide))) az) ⟨_,rfl,λx0 H3 s3 t0=>G _ _ ?_⟩
  clear G R
  refine eJ (σ':=[_,_,_,_,_,_,_,_]) rfl ?_
  refine FS (M7 H2 m F.length λu v=>[some (.ref l),some (.int (m:Nat)),some (.ref cl),some (.ref rw),some (.int (due:Nat)),some (.int (i:Nat)),u,v]) (λR G=>?_) ?_
  ·refine gi (aA (bM (bj (g:=λi j=> .int (i%j)) (bj (g:=λi j=> .int (i/j)) (c s3 rfl rfl) aq (o9 (by decide) (by decide))) aq (by show(0:Int)<_;decide)) aq)) (λ_=>?_) λ_=>?_
   ·refine cK (v:=.int ((max B (m+1):Nat):Int)) (aU (dB (v:=.int (if ((m:Nat):Int)+1>(B:Nat) then ((m:Nat):Int)+1 else (B:Nat))) (ag (aa rfl) (ag (aP (g:=λi j=> .int (i+j)) (aa rfl) aq) az)) λQ' q'=>⟨_,_,rfl,q'⟩) (congrArg V.int (by split<;>lia))) ?_
    refine eJ (σ':=[_,_,_,_,_,_,_,_]) rfl ?_
    exact Ba aq (G _ _ ⟨max B (m+1),_,_,H3,s3,by lia,IL,.inr (.inl ⟨_,rfl,rfl,by lia⟩)⟩)
   ·refine gi (aA (bM (bj (g:=λi j=> .int (i%j)) (bj (g:=λi j=> .int (i/j)) (c s3 rfl rfl) aq (o9 (by decide) (by decide))) aq (by show(0:Int)<_;decide)) aq)) (λ_=>?_) λ_=>?_
    ·refine cK (v:=.int ((min B m:Nat):Int)) (aU (dB (v:=.int (if ((m:Nat):Int)<(B:Nat) then ((m:Nat):Int) else (B:Nat))) (ag (aa rfl) (ag (aa rfl) az)) λQ' q'=>⟨_,_,rfl,q'⟩) (congrArg V.int (by split<;>lia))) ?_
     refine eJ (σ':=[_,_,_,_,_,_,_,_]) rfl ?_
     exact Ba aq (G _ _ ⟨min B m,_,_,H3,s3,by lia,Jq,.inr (.inr ⟨_,rfl,(show(1:Nat)≠0 by decide),by lia⟩)⟩)
    ·exact G _ _ ⟨B,_,_,H3,s3,ha,t0,.inl rfl⟩
  rintro σ H4 ⟨a,x,k,_,s4,ha,tx,bk⟩
  clear c t0
  have d:=s2.trans s4
  have r:=d _ _ N
  have o:=s4 _ _ h2
  refine gi (iO (aA (bM (aa rfl) aq)) λ_=>aA (LR (aa rfl) (aa rfl))) (λe=>?_) λe=>?_
  ·refine cK (v:=.int ((a+1:Nat):Int)) (aU (aP (g:=λi j=> .int (i+j)) (aa rfl) aq) (congrArg V.int (by lia))) ?_
   refine eJ (σ':=[_,_,_,_,_,_,_,_]) rfl ?_
   refine A8 (a:=a) (b:=a) (xa:=xs) (xb:=ys) rfl rfl rfl r o (λ_=>aa rfl) (λ_=>aa rfl) (by lia) (by lia) (by lia) (by lia) λO H5 s5 h5=>?_
   refine⟨O,a+1,_,_,_,H5,_,d.trans s5,⟨_,h5,jA (mq M a) (.cons tx (wu J a))⟩,?_,.inr ⟨a,k,_,rfl,by lia,bk,rfl⟩⟩
   rw[NM,NU,N_,OC];lia
  ·have e:¬(((i:Nat):Int)=0\/((a:Nat):Int)<(due:Nat)):=by simpa using e
   refine A8 (a:=a+1) (b:=a+1) (xa:=ys) (xb:=ys) rfl rfl rfl o o (λ_=>aU (aP (g:=λi j=> .int (i+j)) (aa rfl) aq) (congrArg V.int (by lia))) (λ_=>aU (aP (g:=λi j=> .int (i+j)) (aa rfl) aq) (congrArg V.int (by lia))) (by lia) (by lia) (by lia) (by lia) λO H5 s5 h5=>?_
   rcases f with ⟨Z,_⟩|⟨a1,k1,rest,rfl,S,Y,rfl⟩
   ·lia
   refine⟨O,a1+1,_,_,_,H5,_,d.trans s5,⟨_,h5,jA (mq J (a+1)) (.cons tx (wu J (a+1)))⟩,?_,.inr ⟨a1,k1,rest.take (a - a1)++k::(F.take a1++k1::rest).drop (a+1),rfl,S,Y,?_⟩⟩
   ·rw[NM,NU,N_,OC];lia
   ·have lt:(F.take a1).length=a1:=by rw[N_];lia
    rw[List.take_append,lt,O3 (by lia),show a+1 - a1=(a - a1)+1 by lia,List.take_succ_cons,Pq];rfl
 ·rintro σ H2 ⟨rw,due,x5,x6,x7,_,ls,s2,hp,ll,f⟩
  refine st ?_
  rcases f with ⟨Z,_⟩|⟨a,k,rest,rfl,S,Y,rfl⟩
  ·lia
  refine eX (jV [.ref rw,.int ((a+1:Nat):Int)] (ag (aa rfl) (ag (aa rfl) az)) (by show 2<=1000;decide) λt H3 s3 _ ht=>?_)
  exact q t rw (a+1) _ H3 (s2.trans s3) ht (hp.same s3) (by lia) (y S Y)
theorem IM (ap:aG P w K mg base "_law_cell_at" 1 ["script", "k"] (AV K))(af:aG P w K mg base "_law_asked" 9 ["page"] mm)(Y:aG P w K mg base "_law_asked_back" 9 ["page"] mm)(U:aG P w K mg base "_law_refused" 9 ["page"] pF)(aB:aG P w K mg base "_law_page" 5 ["sizes", "cells"] De)(ad:aG P w K mg base "_law_spoilt" 2 ["page", "silent", "cells"] tG):fK P w K mg base 10 "law" KJ ["script"] (wj K):=by
 refine rd ["script", "cut", "k", "cells", "sizes", "page", "kind", "due", "number", "found"] λS _ _ _ _ _ H vs Q E hr h=>?_
 obtain⟨a,ns,rfl,ha,M,q⟩:=h
 refine⟨_,(aj (aX 1 S (bg bE (aw 0) bX (bq ae))) (aY (oG (zp (by rfl) T.range_ (ax ae (aJ (ao aV (dn bS T.len_ (aE (aw 1))) ae) ae))) (cq 2 S) (aj (s_ 3 ["step"] ["cut", "k"] [1,2] S (D5 T.range_ (aE ae)) (dU 0) cM (bt (by exact ap) (by exact hr) (aJ (aw 1) (ao aV (aw 2) (aw 0))))) (aj (aX 4 S (c9 (ax ae (aJ (ao aV ae (ao a9 (aR aH (aw 3) ae) ae)) (ao aV ae (ao a9 (aR aH (aw 3) ae) ae)))))) (aj (dQ (bt aB hr (aJ (aw 4) (aw 3))) (eF rfl (aI (cq 5 S) (aI (cq 6 S) cC)))) (aj (aX 7 S (c9 (aJ (aw 6) ae))) (aj (ju (bP cw (ao a9 (aR aH (aw 3) ae) ae) ae) (aY (dQ (bt ad hr (ax (aw 5) (aJ (ao a9 (ao cH (aR aH (aw 3) ae) ae) ae) (aw 3)))) (eF rfl (aI (cq 5 S) (aI (cq 8 S) cC)))) (aX 7 S (c9 (aJ ar (aw 8))))) gB) (aj (ju (bP cw (ao a9 (aR aH (aw 3) ae) ae) ae) (aY (aX 5 S (bg bE (cf (ax ar (ax ar (aJ ar ar)))) bX (bq (ao a9 (aR aH (aw 3) ae) ae)))) (aX 7 S (c9 (aJ ar ae)))) gB) (aj (aX 5 S (jg rfl (aE (aw 5)))) (aj (aX 9 S (bt af hr (aE (aw 5)))) (aY (cL (fR (eG (gG (dn lN T.isinstance_ (aJ (aR aZ (aw 9) ae) (q_ (v:=.ty "int") (by rfl) T.int_ Ir (by rfl)))))) (fR (gG (dn lN T.isinstance_ (aJ (aR aZ (aw 9) ae) (q_ (v:=.ty "bool") (by rfl) T.bool_ Eu (by rfl))))) (eU (bP (DA hr) (aw 9) (aw 7))))).pt (aN iG)) (cL (fR (bP (DA hr) (bt Y hr (aE (aw 5))) (aw 7)) (eU (bP iq (bt U hr (aE (aw 5))) (AU iq (aR aZ (aw 7) ae) ar)))).pt (aN iG)))))))))))) (aN iG))),?_⟩
 dsimp only[fo]
 have I:sizeLine=2^24:=rfl
 obtain⟨cs,B,J⟩:=AB ns none (some 120)
 refine cA λR N=>DP (aa rfl) aq ha λc nc=>N _ _ ?_
 clear N R
 rw[B]
 have h1:upd H c (.lst (cs.map V.int)) c=some (.lst (cs.map V.int)):=ah
 revert h1
 generalize upd H c _=H1
 intro h1
 refine eJ (σ':=[_,_,_,_,_,_,_,_,_,_]) rfl ?_
 refine Gn (i:=0) (j:=((cs.map V.int).length:Nat)+1) (k:=12) (ag aq (ag (aP (g:=λi j=> .int (i+j)) (jG (K:=K) (aa rfl) h1) aq) (ag aq az))) (by rw[NG];lia) ?_
 refine uO (λi σ H'=>∃(x2 x3 x4 x5 x6 x7 x8 x9:Option V),σ=[some (.ref a),some (.ref c),x2,x3,x4,x5,x6,x7,x8,x9]/\au H1 H') ⟨none,none,none,none,none,none,none,none,rfl,au.refl H1⟩ ?_ ?_
 ·rintro j σ H2 hj ⟨x2,x3,x4,x5,x6,x7,x8,x9,rfl,s2⟩
  refine gn ?_
  obtain⟨kk,bA,cT⟩:∃kk:Int,kk=0+(j:Nat)*12/\0<=kk:=⟨_,rfl,by lia⟩
  rw[<-bA]
  refine eJ (σ':=[_,_,_,_,_,_,_,_,_,_]) rfl ?_
  have G:=s2 _ _ h1
  refine HQ (bB aq ⟨12,rfl,by decide,by decide,λD nD=>?_⟩)
  refine nQ (n:=12) (λi τ H'=>∃(x0:Option V) (vs:List Int),τ=[x0,some (.ref c),some (.int kk)]/\au H2 H'/\H' D=some (.lst (vs.map V.int))/\vs.length=i) ⟨none,[],rfl,(au.refl H2).upd nD,ah,rfl⟩ ?_ ?_
  ·rintro i τ H' hi ⟨x0,vs,rfl,s,hD,hl⟩
   refine gn (gA ?_)
   refine bF (ag (aa rfl) (ag (aP (g:=λi j=> .int (i+j)) (aa rfl) (aa rfl)) az)) ⟨c,cs,_,rfl,bf.of (s _ _ G),by lia,λv=>⟨_,hD,by rw[NG];lia,_,vs++[v],rfl,dI s nD,by rw[ah,NW];rfl,by rw[NM,hl];rfl⟩⟩
  rintro τ H3 ⟨x0,O,rfl,s3,hD,d⟩
  have d:O.length=12:=d
  refine eJ (σ':=[_,_,_,_,_,_,_,_,_,_]) rfl ?_
  obtain⟨R,eR,r1,r2⟩:∃R:Nat,((R:Nat):Int)=6+O.getD 0 0%11/\6<=R/\R<=16:=⟨(6+O.getD 0 0%11).toNat,by lia,by lia,by lia⟩
  obtain⟨C,eC,c1,c2⟩:∃R:Nat,((R:Nat):Int)=6+O.getD 1 0%11/\6<=R/\R<=16:=⟨(6+O.getD 1 0%11).toNat,by lia,by lia,by lia⟩
  refine cA λR' N=>jV ((t3 (2,R,C)).map V.int) (ag aq (ag (aU (aP (g:=λi j=> .int (i+j)) aq (bj (g:=λi j=> .int (i%j)) (cv (K:=K) (i:=0) rfl hD d (by decide)) aq (by show(0:Int)<_;decide))) (congrArg V.int eR.symm)) (ag (aU (aP (g:=λi j=> .int (i+j)) aq (bj (g:=λi j=> .int (i%j)) (cv (K:=K) (i:=1) rfl hD d (by decide)) aq (by show(0:Int)<_;decide))) (congrArg V.int eC.symm)) az))) (by show 3<=1000;decide) λsa H4 s4 _ a8=>N _ _ ?_
  clear N R'
  refine eJ (σ':=[_,_,_,_,_,_,_,_,_,_]) rfl ?_
  refine x_ λR' N=>bF (ag (aa rfl) (ag (aa rfl) az)) ⟨sa,D,R,C,O,rfl,a8,⟨⟨r1,r2⟩,c1,c2⟩,s4 _ _ hD,d,λt lp H5 W k s5 ht hP gd=>⟨t,_,rfl,bY.of ht,rfl,_,_,rfl,_,_,rfl,rfl,N _ _ ?_⟩⟩
  clear N R' ht
  refine eJ (σ':=[_,_,_,_,_,_,_,_,_,_]) rfl ?_
  refine cA λR' N=>jV [.str (kN k),.int ((0:Nat):Int)] (ag (aa rfl) (ag aq az)) (by show 2<=1000;decide) λdd H6 s6 _ f=>N _ _ ?_
  clear N R'
  refine eJ (σ':=[_,_,_,_,_,_,_,_,_,_]) rfl ?_
  have F:au H2 H6:=s3.trans (s4.trans (s5.trans s6))
  have u:=(s4.trans (s5.trans s6)) _ _ hD
  have y:=hP.same s6
  have m3:F1 O<=3:=by unfold F1;lia
  have em:((F1 O:Nat):Int)=O.getD 0 0/11%4:=by unfold F1;lia
  have l6:(vF (F1 O) W).length<=40:=by
   obtain⟨z,X,rfl,_,_,_,hl⟩:=gd
   unfold vF
   rw[NM,Pm,NG,NU];lia
  clear hP s6 s5 s4 s3 hD a8 eR eC
  refine FS (JC H6 a c D sa kk x9) (λR' N=>gi (aA (bM (bj (g:=λi j=> .int (i%j)) (cv (K:=K) (i:=9) rfl u d (by decide)) aq (by show(0:Int)<_;decide)) aq)) (λ_=>?_) λ_=>N _ _ ⟨H6,lp,dd,_,_,k,0,_,au.refl H6,y,f,l6,.ok _ k W rfl gd⟩) ?_
  ·refine x_ λR2 Z=>bF (ag (aa rfl) (ag (aU (bj (g:=λi j=> .int (i%j)) (bj (g:=λi j=> .int (i/j)) (cv (K:=K) (i:=0) rfl u d (by decide)) aq (o9 (by decide) (by decide))) aq (by show(0:Int)<_;decide)) (congrArg V.int em.symm)) (ag (aa rfl) az))) ⟨lp,D,F1 O,k,W,O,rfl,y,gd,m3,u,d,λt l2 n ks H7 s7 ht ca o te=>⟨t,_,rfl,bY.of ht,rfl,_,_,rfl,_,_,rfl,rfl,Z _ _ ?_⟩⟩
   clear Z R2
   refine eJ (σ':=[_,_,_,_,_,_,_,_,_,_]) rfl ?_
   exact jV [.str (kN 8),.int (n:Nat)] (ag aq (ag (aa rfl) az)) (by show 2<=1000;decide) λd2 H8 s8 _ an=>N _ _ ⟨H8,l2,d2,_,_,8,n,ks,s7.trans s8,ca.same s8,an,o,.row n te⟩
  clear y f l6 gd
  rintro σ H7 ⟨_,lp,dd,x6,x8,k,n,ks,s7,hP,f,o,l⟩
  have A:=s7 _ _ u
  refine FS (JC H7 a c D sa kk x9) (λR' N=>gi (aA (bM (bj (g:=λi j=> .int (i%j)) (cv (K:=K) (i:=9) rfl A d (by decide)) aq (by show(0:Int)<_;decide)) aq)) (λ_=>?_) λ_=>N _ _ ⟨H7,lp,dd,_,_,k,n,ks,au.refl H7,hP,f,o,l⟩) ?_
  ·obtain⟨m,e5,m5⟩:∃m:Nat,((m:Nat):Int)=O.getD 10 0%5/\m<=4:=⟨(O.getD 10 0%5).toNat,by lia,by lia⟩
   refine cA λR2 Z=>sR (K:=K) (k:=m) Mv (ag aq (ag aq (ag aq (ag aq az)))) rfl (by decide) (λH' s'=>aU (bj (g:=λi j=> .int (i%j)) (cv (K:=K) (i:=10) rfl (s' _ _ A) d (by decide)) aq (by show(0:Int)<_;decide)) (congrArg V.int e5.symm)) m5 λp H8 s8 _ hp=>Z _ _ ?_
   clear Z R2
   refine eJ (σ':=[_,_,_,_,_,_,_,_,_,_]) rfl ?_
   refine jV [.str (kN 8),.int ((1:Nat):Int)] (ag aq (ag aq az)) (by show 2<=1000;decide) λd2 H9 s9 _ an=>N _ _ ⟨H9,p,d2,_,_,8,1,List.replicate m .si,s8.trans s9,⟨Mv.take m,s9 _ _ hp,?_⟩,an,by rw[Pm];lia,.row 1 (FF m)⟩
   have:=mq MI m
   rwa [List.take_replicate,O4 m5] at this
  clear hP f o l
  rintro σ H8 ⟨_,lp,dd,x6,x8,k,n,ks,s8,⟨xs,hl,hx⟩,f,o,l⟩
  have lx:xs.length=ks.length:=Paired.length hx
  obtain⟨Ws,pg,ew⟩:=JZ hx (by lia)
  have ai:=HN l ew
  have k8:=Ki l
  refine cA λR' N=>mT aq rfl (ip (aa rfl) ⟨_,lp,xs,rfl,rfl,bf.of hl,t9 (Fk hx) (by decide) (by lia),N _ _ ?_⟩)
  clear N R'
  rw[ES]
  revert pg
  generalize ss (jl 10 (xs.map cp))=x
  intro pg
  clear hx hl lx ew l
  refine eJ (σ':=[_,_,_,_,_,_,_,_,_,_]) rfl ?_
  refine cA λR' N=>bF (ag (aa rfl) az) ⟨x,Ws,k,n,rfl,pg,ai,λt H9 s9 ht=>N _ _ ?_⟩
  clear N R'
  refine eJ (σ':=[_,_,_,_,_,_,_,_,_,_]) rfl ?_
  have e0:Ev (gb (yD K) (cV 9) (tC (.int 1))) [some (.ref a),some (.ref c),some (.int kk),some (.ref D),some (.ref sa),some (.str x),x6,some (.ref dd),x8,some (.ref t)] H9 (.int (n:Nat)):=bC (aa rfl) aq (bY.of ht) rfl
  have d1:=nV (K:=K) k8 ht
  have r:=s9 _ _ f
  refine kM (b:=false) (fO (iO (a:=false) (b:=false) (fj (b:=true) (FQ (dB (v:=.bl true) (ag e0 (ag aq az)) λQ' q'=>⟨_,_,_,_,_,rfl,.ty "int",.int _,T.kii,q'⟩))) λ_=>iO (a:=false) (b:=false) (FQ (dB (v:=.bl false) (ag e0 (ag aq az)) λQ' q'=>⟨_,_,_,_,_,rfl,.ty "bool",.int _,T.kib,q'⟩)) λ_=>fO (aA (Jt (aa rfl) (aa rfl) d1 (nV k8 r) (by simp[PyData.depth,PyData.depthAll]))) (rT d1)) rfl) rfl ?_
  refine Ji (b:=false) (JU (a:=false) (b:=false) (λH10 aC Q' q'=>vy (dH (bF (ag (aa rfl) az) ⟨x,Ws,k,n,rfl,pg,ai,λt2 H11 ac bd=>bB (aa rfl) ⟨_,_,nV k8 bd,nV k8 ((aC.trans ac) _ _ r),by simp[PyData.depth,PyData.depthAll],false,congrArg V.bl (rT (nV (K:=K) k8 bd)),q' H11 ac⟩⟩))) λH10 aC Q' q'=>vy (dH (bF (ag (aa rfl) az) ⟨x,Ws,k,n,rfl,pg,ai,λH11 ac=>bB (L2.ev_neS (bC (v:=.str (kN k)) (aa rfl) aq (bY.of ((aC.trans ac) _ _ r)) rfl) aq) (Kt ⟨false,?_,q' H11 ac⟩)⟩))) (λe=>nomatch e) λ_ H12 bz=>⟨_,_,_,_,_,_,_,_,rfl,s2.trans (F.trans (s7.trans (s8.trans (s9.trans bz))))⟩
  rw[FN k k8]
  simp
 ·rintro σ H2 ⟨x2,x3,x4,x5,x6,x7,x8,x9,rfl,s2⟩
  refine st ?_
  exact dF aq (q H2)
end
set_option maxHeartbeats 2000000 in
theorem all_mk {l:PySem.W.OpenLaw}(X:K.In h)(G:h.Ns mainGlobals mg)(g6:mg "law" =some (.ref fa))
  {b6 ca b1 b5 ci cm ce cc b7 b4 cr co ch b3 fy:Addr} (T:Txt K mg b6 ca b1 b5 ci cm ce cc b7 b4 cr co ch b3 fy)
  {f0:Addr} {f3 hS:Option Addr} {gm:Array (Option Value)} {g7 hq io ft fi hC:Value}
  {f8:Addr} {hH eS:Option Addr} {f5:Array (Option Value)} {gs ei ex e8 dK em:Value}
  {T8:Addr} {gp:Option Addr} {hT:Array (Option Value)} {hQ dx dP:Value} {g1:Nat}
  {cP:Addr} {ec eu:Option Addr} {eh:Array (Option Value)} {el e2 ea eC de eH:Value}
  {cB:Addr} {d9 c7:Option Addr} {et:Array (Option Value)} {ej c5 dm c6 ct dt:Value}
  {dL:Addr} {ey:Option Addr} {ev:Array (Option Value)} {eb cX cS:Value} {ew:Nat}
  {cF:Addr} {e4 dc:Option Addr} {d0:Array (Option Value)} {ef c4 ds dp cz db:Value}
  {du:Addr} {eR:Option Addr} {ee:Array (Option Value)} {ep c3:Value} {eq:Nat}
  {c1:Addr} {fb e1:Option Addr} {er:Array (Option Value)} {e5 e6 ek eW dj ed:Value}
  {cT:Addr} {e9 eD:Option Addr} {d7:Array (Option Value)} {en d1 e0 d2 dl e7:Value}
  (cx:ClG K ca "Net")
  (cd:ClG K b1 "Bundle")
  (ck:ClG K b5 "Floor")
  (c2:ClG K ci "Board")
  (a0:Oh K (.ref b3) "__init__" =some (some (.ref f0)))
  (i0:OX K (.ref f0)=true)
  (l0:K.lookup f0=some ⟨g7,f3,.func (Oj "__init__" "BadRow.__init__" (cE kO) (bW kO) (aS kO) .none hq io ft hS fi hC),gm⟩)
  (c0:OE K fi "BadRow.__init__" =true)
  (k0:Oo K (.ref f0)=true)
  (f1:qg K b3 [.type "ValueError",.type "Exception",.type "BaseException",.type "object"] "ValueError.__new__" (some (.ref f0))=true)
  (ib:Oo K (.ref b3)=true)
  (l1:eV K "inside" wD)
  (l2:eV K "apart" BW)
  (l3:eV K "square" wg)
  (l4:eV K "check_sizes" xt)
  (l5:eV K "check_price" wJ)
  (l6:eV K "check_prices" so)
  (l7:eV K "check_inside" ud)
  (a8:Oh K (.ref b5) "__init__" =some (some (.ref f8)))
  (i8:OX K (.ref f8)=true)
  (l8:K.lookup f8=some ⟨gs,hH,.func (Oj "__init__" "Floor.__init__" (cE h_) (bW h_) (aS h_) (.ref T8) ei ex e8 eS dK em),f5⟩)
  (d8:K.lookup T8=some ⟨hQ,gp,.seq #[dx,dP] g1,hT⟩)
  (c8:OE K dK "Floor.__init__" =true)
  (k8:Oo K (.ref f8)=true)
  (l9:Ap K b5 "is_rock" "Floor.is_rock" yt)
  (h4:eV K "is_name" Gu)
  (fp:eV K "check_unlike" xH)
  (hX:PySem.W.readsIn K b6 (.type "type")=true)
  (hx:PySem.W.findCls K (.ref b6) (.type "type") "__init__" =some (.val (.ref cP)))
  (hz:Qj K (.ref b6) "__getattribute__" =some (some (.builtin "type.__getattribute__")))
  (f4:K.lookup cP=some ⟨el,ec,.func (Oj "__init__" "Thing.__init__" (cE kQ) (bW kQ) (aS kQ) .none e2 ea eC eu de eH),eh⟩)
  (hA:OE K de "Thing.__init__" =true)
  (d6:Oo K (.ref cP)=true)
  (hd:Oh K (.ref ca) "__init__" =some (some (.ref cB)))
  (gg:OX K (.ref cB)=true)
  (ia:K.lookup cB=some ⟨ej,d9,.func (Oj "__init__" "Net.__init__" (cE ik) (bW ik) (aS ik) (.ref dL) c5 dm c6 c7 ct dt),et⟩)
  (hc:K.lookup dL=some ⟨eb,ey,.seq #[cX,cS] ew,ev⟩)
  (hJ:OE K ct "Net.__init__" =true)
  (ks:Oo K (.ref cB)=true)
  (g5:Ap K ca "ends" "Net.ends" A0)
  (h6:Oh K (.ref b1) "__init__" =some (some (.ref cF)))
  (hw:OX K (.ref cF)=true)
  (gd:K.lookup cF=some ⟨ef,e4,.func (Oj "__init__" "Bundle.__init__" (cE hU) (bW hU) (aS hU) (.ref du) c4 ds dp dc cz db),d0⟩)
  (fl:K.lookup du=some ⟨ep,eR,.seq #[c3] eq,ee⟩)
  (hn:OE K cz "Bundle.__init__" =true)
  (lc:Oo K (.ref cF)=true)
  (f2:Ap K b1 "ends" "Bundle.ends" AI)
  (g8:eV K "fits" Gr)
  (g2:eV K "reach_of" Bt)
  (ho:eV K "clash" DE)
  (h5:eV K "clash_at_all" wM)
  (hr:eV K "check_names" xB)
  (hy:eV K "check_fits" D1)
  (ih:eV K "check_crowds" rR)
  (ii:Ap K ci "__init__" "Board.__init__" yf)
  (hI:eV K "between" Ku)
  (gt:eV K "box" Lz)
  (hh:eV K "words_in" tN)
  (gc:eV K "rows_of" xn)
  (hm:eV K "number_in" BQ)
  (im:eV K "spot_in" ye)
  (hk:eV K "numbers_told" tW)
  (hL:eV K "spots_told" wN)
  (hb:eV K "corners_told" tP)
  (h9:eV K "toll_told" BL)
  (fn:eV K "net_told" G5)
  (hp:eV K "bundle_told" G4)
  (hM:eV K "row_told" GD)
  (g3:Po K mainGlobals "rows_told" =some (some (.ref c1)))
  (hY:K.lookup c1=some ⟨e5,fb,.func (Oj "rows_told" "rows_told" (cE lA) (bW lA) (aS lA) .none e6 ek eW e1 dj ed),er⟩)
  (hR:OE K dj "rows_told" =true)
  (d3:Oo K (.ref c1)=true)
  (h0:eV K "parts_of" yk)
  (hE:eV K "marked" vX)
  (ha:eV K "floor_told" xg)
  (g4:eV K "thing_told" xu)
  (f6:Po K mainGlobals "read_board" =some (some (.ref cT)))
  (fx:K.lookup cT=some ⟨en,e9,.func (Oj "read_board" "read_board" (cE pE) (bW pE) (aS pE) .none d1 e0 d2 eD dl e7),d7⟩)
  (hK:OE K dl "read_board" =true)
  (d5:Oo K (.ref cT)=true)
  (hf:eV K "_law_cell_at" Hf)
  (h1:eV K "_law_asked" B7)
  (h8:eV K "_law_asked_back" yc)
  (fC:eV K "_law_refused" uf)
  (hD:eV K "_law_word" G6)
  (he:eV K "_law_outer" D3)
  (gl:eV K "_law_good_rows" CA)
  (hN:eV K "_law_size_fault" CX)
  (h3:eV K "_law_price_fault" yy)
  (ge:eV K "_law_out_fault" G2)
  (hP:eV K "_law_thing_fault" xc)
  (h2:eV K "_law_twice_fault" wx)
  (hF:eV K "_law_fit_fault" GL)
  (hO:eV K "_law_crowd_fault" xh)
  (hg:eV K "_law_fault" D7)
  (fI:eV K "_law_bad_row" BS)
  (hs:eV K "_law_page" GZ)
  (h7:eV K "_law_spoilt" yp)
  (hu:eV K "law" KJ)
  :∃fd:FuncData,(∀(s:Shared) (v:Value),BindsTo s fd ⟨[v],[]⟩ [("script",v)])/\∀base:Heap,K.In base->base.Ns mainGlobals mg->gr l.prog w K mg base 10 fa fd ["script"] (wj K):=by
 have F0:=kW (st:=kO) l0 c0 k0
 have b0:fg K _ ["self", "row"]:=F0.binds λ_ _ _ _ _ _ us hl=>by obtain⟨_,_,rfl⟩:=Ms hl;rfl
 have F8:=qm (st:=h_) l8 c8
 have b8:fg K (Oj "__init__" "Floor.__init__" (cE h_) (bW h_) (aS h_) (.ref T8) ei ex e8 eS dK em) ["self", "sizes", "prices", "vias", "rocks", "tolls"]:=uA rfl d8 λus hl=>by obtain⟨_,_,_,_,_,_,rfl⟩:=Ng hl;exact⟨_,rfl,rfl⟩
 have eA:=kW (st:=kQ) f4 hA d6
 have bD:fg K _ ["self", "name", "half", "room"]:=eA.binds λ_ _ _ _ _ _ us hl=>by obtain⟨_,_,_,_,rfl⟩:=Nh hl;rfl
 have ht:=qm (st:=ik) ia hJ
 have bu:fg K (Oj "__init__" "Net.__init__" (cE ik) (bW ik) (aS ik) (.ref dL) c5 dm c6 c7 ct dt) ["self", "name", "pins", "half", "room"]:=uA rfl hc λus hl=>by obtain⟨_,_,_,_,_,rfl⟩:=M0 hl;exact⟨_,rfl,rfl⟩
 have hv:=qm (st:=hU) gd hn
 have bz:fg K (Oj "__init__" "Bundle.__init__" (cE hU) (bW hU) (aS hU) (.ref du) c4 ds dp dc cz db) ["self", "name", "starts", "goals", "room"]:=uA rfl fl λus hl=>by obtain⟨_,_,_,_,_,rfl⟩:=M0 hl;exact⟨_,rfl,rfl⟩
 have d4:=kW (st:=lA) hY hR d3
 have bv:fg K _ ["page"]:=d4.binds λ_ _ _ _ _ _ us hl=>by obtain⟨_,rfl⟩:=K5 hl;rfl
 have e3:=kW (st:=pE) fx hK d5
 have bA:fg K _ ["page"]:=e3.binds λ_ _ _ _ _ _ us hl=>by obtain⟨_,rfl⟩:=K5 hl;rfl
 obtain⟨fd,F,_,_,_,_,_,_,e⟩:=eV.law X G hu g6
 refine⟨fd,λs v=>by subst e;exact .of_eq rfl,λbase hB _=>?_⟩
 have go:∀{x st k ps sp},eV K x st->yZ l.prog w K mg base k x x st ps sp->aG l.prog w K mg base x k ps sp:=eV.go X G
 have gx:∀{x st k ps sp},eV K x st->yZ l.prog w K mg base k x x st ps sp->aG l.prog w K mg base x k ps sp:=eV.go X G
 have me:∀{C x q st k ps sp},Ap K C x q st->yZ l.prog w K mg base k x q st ps sp->fE l.prog w K mg base C x k ps sp:=Ap.go
 have an:mP l.prog w K mg base "BadRow" b3 1 ["self", "row"] (mr K):=⟨f0,_,Dt T F0,T.eBadRow.bd,⟨f1,⟨_,l0,JA l0 i0⟩,ib⟩,b0⟩
 have m:=go l1 (yE T)
 have a2:=go l2 (Cn T)
 have W:=go l3 (zS T)
 have j:=gx l4 (yT T hB)
 have n:=gx l5 (zq T hB)
 have f:=gx l6 (u_ T n)
 have c:=gx l7 (uC T hB m)
 have a4:fW l.prog w K mg base b5 "Floor" 3 ["self", "sizes", "prices", "vias", "rocks", "tolls"] (qj b5):=⟨f8,_,BX T F8 j f c,⟨ck.mi,a8,i8,ck.kc⟩,Px X G ck.n,b8⟩
 have Q:=me l9 (yW T c)
 have dr:=go h4 (E7 T)
 have i:=gx fp (yU T hB)
 have z:hZ l.prog w K mg base b6 "__init__" 2 ["self", "name", "half", "room"] (my ca b1 b4):=⟨cP,_,A_ T eA hB dr,⟨⟨_,hX,hx⟩,rfl,hz,d6⟩,bD⟩
 have av:fW l.prog w K mg base ca "Net" 3 ["self", "name", "pins", "half", "room"] (qH ca b4):=⟨cB,_,CN T ht hB i z,⟨cx.mi,hd,gg,cx.kc⟩,Px X G cx.n,bu⟩
 have r:=me g5 (AR T)
 have a5:fW l.prog w K mg base b1 "Bundle" 3 ["self", "name", "starts", "goals", "room"] (rD b1 b4):=⟨cF,_,Dd T hv hB i z,⟨cd.mi,h6,hw,cd.kc⟩,Px X G cd.n,bz⟩
 have u:=me f2 (Ce T)
 have bi:=go g8 (Ee T m W Q)
 have aB:=go g2 (BZ T)
 have ai:=go ho (CK T a2 aB)
 have H:=go h5 (y8 T ai)
 have N:=gx hr (zJ T hB)
 have ap:=gx hy (Bw T hB r u bi)
 have B:=gx ih (u9 T hB r u H)
 have U:=Ap.ix (P:=l.prog) (w:=w) (base:=base) X G c2 ii (zj T N ap B)
 have br:=go hI (Iq T)
 have bn:=go gt (IU T br)
 have D:=go hh (vW T)
 have S:=go gc (yI T D)
 have p:=go hm (CV T)
 have E:=go im (zG T p)
 have a:=go hk (uX T p)
 have d:=go hL (zU T E)
 have g:=go hb (uB T d)
 have a6:=go h9 (B2 T a g)
 have bc:=go fn (Ga T a d)
 have bb:=go hp (Eg T a d)
 have bl:=go hM (Ei T a g a6 bc bb)
 have a3:aG l.prog w K mg base "rows_told" 7 ["page"] (qI b3):=⟨c1,_,Cr T d4 an S bl,Px X G g3,d3,bv⟩
 have O:=go h0 (zx T)
 have R:=go hE (zN T bn)
 have Z:=gx ha (yO T j n f c a4 O R)
 have Y:=gx g4 (zk T av a5)
 have o:aG l.prog w K mg base "read_board" 8 ["page"] (nG b3 ce cc b7 b4 cr co ch):=⟨cT,_,EZ T e3 U a3 Z Y,Px X G f6,d5,bA⟩
 have be:=go hf (E3 T)
 have a7:=go h1 (Dm T o)
 have I:=go h8 (yN T o)
 have A:=go fC (uJ T o)
 have b:=go hD (FU T)
 have y:=go he (Cy T b)
 have am:=go gl (Ca T b)
 have aC:=go hN (CY T)
 have ac:=go h3 (yJ T)
 have bh:=go ge (EH T y)
 have af:=go hP (yK T b)
 have ad:=go h2 (zV T b)
 have bm:=go hF (Gi T b y)
 have J:=go hO (zP T b)
 have ba:=go hg (Ct T aC ac bh af ad bm J)
 have a1:=go fI (Ck T)
 have bd:=go hs (F6 T am ba)
 have M:=go h7 (y_ T a1)
 exact(IM T be a7 I A bd M).2 F
theorem walk {l:PySem.W.OpenLaw}{m:(Str->Option Value)->Heap->Prop}{e:World->Heap->Prop}{d:DefRec}{K:Params->NJ}(g:l.most=some 63)(b:d.params.defaults=[])
  (o:∀(w:World) (h:Heap),e w h->(K w.params).In h)
  (F:∀(w:World) (mg:Str->Option Value) (c:Addr) (h:Heap),(K w.params).In h->h.Ns mainGlobals mg->mg d.name=some (.ref c)->
   ∃fd:FuncData,(∀(s:Shared) (u:Value),BindsTo s fd ⟨[u],[]⟩ [("script",u)])/\∀base:Heap,(K w.params).In base->base.Ns mainGlobals mg->gr l.prog w (K w.params) mg base 10 c fd ["script"] (wj (K w.params))):
  PySem.W.WalkO q loose m e l.row.toRowW d [] (λf vs=>PySem.call f vs):=
 L2.walk_of (n:=63) (k:=10) (x:= "script") (sp:=λw=>wj (K w.params)) g (by decide) b ⟨rfl,by decide,by decide,rfl⟩ o F (λ_ _ a ns i _ j=>⟨a,ns,rfl,j,i,λ_=>rfl⟩)
end K19

end
/-! these names are taken, so that the head lays no second forms of the greatest of its objects -/
structure PySem.W.Fast:Prop where
 (tw10196323342163866304 tw11102091205287490043 tw12902998437527738997 tw15895510653027362689 tw9993930400367924649 tw16854252624753284863 tw18125729326093866892 tw15169925087618348580 tw1928164379630766276 tw10514315829033899738 tw14694120109359800551 tw7615671574205868417 tw17331523212144275288 tw9454490426951852135 tw16561020471563221888 tw8888042936088882919 tw17468504109613086122 tw10569949246247559848 tw8822891910077864502 tw10711868267163677671 tw13246358044819046926 tw2322115596955558124 tw6760535334146288104 tw55841813798438864 tw1875902871106121616 tw5532673186952199390 tw4676526357062455369 tw13161393682298207470 tw6393036087553728229 tw14065637419572776564 tw12249450674325747475 tw18352458462633771981 tw11144036681096723418 tw2913719739542235362 tw7153090277635312800 tw1782513165276184174 tw15639678112724217899 tw10684506670043009806 tw12355882874741511032 tw5735320975845603281 tw8433823947381119115 tw11781582398846183693 tw14129195945026870928 tw13088758276964011357 tw1222489904316278543 tw6995931651269776510 tw18385123345780585374 tw9032559058511824723 tw2574322827393201048 tw1477523428380100867 tw10200155492144628690 tw9874801206699944456 tw9110878381160175964 tw9993288318693099214 tw17504232198250856341 tw2199844679151095338 tw475803933809414756 tw8674135443459524922 tw11253429080009288166 tw9604552380284990980 tw12188720341872566424 tw4220647932459475004 tw5734596456089197916 tw1353672762891237622 tw5801599288444778536 tw6113250201592931158 tw1735469859585428067 tw2453645513587189130 tw14900939720431859259 tw118541854256548906 tw10119617652240420645 tw592571021250691170 tw17466547661264950008 tw10284618443244708276 tw16371916849391307715 tw16178297951590659871 tw4465606224244985255 tw17832729067699841478 tw17234992803297849997 tw10440522777513145185 tw5227858375022849884 tw10618690825656367829 tw17391822923002026818 tw4237962875747828957 tw1261555778515699099 tw11196012246412606152 tw10574277500322135925 tw10131472748839948530 tw4559892240640734153 tw15598062222290602855 tw18398868516416702693 tw17792713146271873502 tw7253899163347646292 tw9857881479751795833 tw143372023361605755 tw13226909050904392664 tw583336040445504476 tw15790196835159715581 tw9942874023042130084 tw7060064303925903423 tw5721701232135399939 tw17877371724864727030 tw9587454273046330601 tw11688780807384404288 tw13167107981399130074 tw17890023565477348993 tw16905151188473466532 tw4883376213309461449 tw10649576887710823537 tw5778733385904521128 tw17803412553154269774 tw16957297599230544998 tw1971645669891035647 tw17332943770505970344 tw2823023731064179743 tw7798815155829125696 tw11537099265283075104 tw13780256437609040522 tw14607450501178231135 tw1751178982218484113 tw2512180963561024402 tw7159842784253298432 tw13782062768152042209 tw12883210976695689759 tw6129009165697809983 tw5102333076088574286 tw10138926217695506686 tw7726227543802156014 tw5094047325561930749 tw11463756387045145907 tw12181206843428670045 tw7341984672819427382 tw11210922235965178451 tw10264247602602017487 tw11666114608586842253 tw15694397024616127749 tw1183047526114800066 tw12667948783877317749 tw3552195546575897817 tw13555306891940576592 tw5562957249559095349 tw5058651900450969496 tw7703170103550553955 tw17283918921489688192 tw5647801706218100938 tw325337342846323511 tw5703695983682226730 tw6283350625549065781 tw12758470232303519084 tw5144248496384314761 tw14808494189028603329 tw3185139425280968139 tw12921437704580126540 tw11656527252851117232 tw12137267232537838883 tw14651955813603287585 tw17769371962180904086 tw10329422622854019063 tw7341091107556540541 tw11166202497124931428 tw4095490085320964251 tw3193825803171765931 tw6891676766450340547 tw5673423072217761340 tw468674930445371249 tw14363481527542536829 tw9317387468894691868 tw16586472383276613883 tw14981743129334624985 tw1642913647113042171 tw7124098731320595999 tw110350279589881938 tw9926704857080264939 tw13280478285185034104 tw1798807531908561890 tw11426029951386703906 tw7086419351670734355 tw8237156153690082563 tw4163612953739936418 tw5136445868150553280 tw2416390176593872427 tw6452060953898947648 tw1556532454828462356 tw4868685025842013206 tw15800308607422496127 tw713315920811865033 tw4549442724325719530 tw16208530129606806785 tw564742053153818260 tw8072453778895731135 tw17257278705939107475 tw4616835371847648533 tw11140607465145526813 tw10226503081650289545 tw15836122939009596958 tw14693396991585722681 tw18146001113908645703 tw41096832390415525 tw16770446139879080975 tw9269183527787558850 tw18315031711651703234 tw14446206817259760375 tw17195177466044622789 tw1491030815651448375 tw7267756370584928279 tw4344768534204806238 tw17963984981063054731 tw11826080576303924287 tw9221842030566234600 tw15665912698168200656 tw7525647386666606145 tw6388547532343792030 tw11460697878442081633 tw4570241012337352481 tw14368275494427468237 tw12239792288888915594 tw12598390601785932498 tw11200699457862311900 tw9495591937146667367 tw5581485543517980111 tw15229253483309651937 tw10403697289661012270 tw2853701529940803015 tw7867824948687446561 tw2478251399731812324 tw2297260489745997918 tw9707380922539266978 tw932343633050378615 tw3626350076876349712 tw13807750846791883788 tw16831763320006348117 tw15094392895047591502 tw14389390082747856982 tw8050138394737565523 tw17560437907390343997 tw6862057063424049367 tw3692233813118312645 tw16287073037096822952 tw740338272009451786 tw16204865710980393610 tw6390923664272444817 tw11694406488040027565 tw9519456261465491461 tw12046021161503700400 tw14468269729041859585 tw2425918716069971917 tw9499002426308195129 tw11968949208537899761 tw13209814108927742410 tw663875484007131289 tw13119676387055969566 tw18192681514129593753 tw425537325366496862 tw8413708460877904507 tw3379341725255465889 tw15439268735961046331 tw8265551856727859865 tw3949251308770360971 tw15446251335996814961 tw3913985610381751171 tw16482320236419511217 tw794137169394343565 tw14645691630602528767 tw13256692263548702322 tw10144301819622352405 tw12113259237522702568 tw14268753074419953580 tw2809397943720735201 tw9020150663398360496 tw757380273375042102 tw16177685391247727475 tw3314945018218972142 tw2152369289457908796 tw11869604601709585612 tw17316566517468796237 tw12774578819524571644 tw3620820776592539887 tw1761284037165952801 tw18413214518600482216 tw9856422265269582714 tw10511295627547047730 tw10608128746476627295 tw6137271104549041810 tw1043636174055141567 tw1460002029350420499 tw3538191125342587767 tw14165949406955799637 tw16132157874892442250 tw16503206264227708536 tw16066381248275228247 tw7588305494405018118 tw4228193624028331035 tw12778149406802089356 tw9853057882641025777 tw3618410152457239468 tw12907441331999457035 tw8032877375853327519 tw17951135990059405011 tw415867777881501975 tw15798509640097688600 tw13186976947170269630 tw6662246156704743920 tw15135216744920049606 tw15913187239694063169 tw7195248121808677028 tw4272097690165661234 tw14131907589774239661 tw10339582457463558921 tw16886486395211674079 tw4069493507022096901 tw16886187348703420691 tw17173795176719163725 tw13571375794168763623 tw13302774206109722669 tw3654562375402501868 tw10736711169375436868 tw8253824357845716181 tw2637699756025115245 tw6402448980212192670 tw2280943621070760601 tw7601701023417530334 tw2302472230239650396 tw218540477591914896 tw17140992198968455951 tw1548759247811877626 tw1169611595933725108 tw1838040146502049794 tw6369477848954436082 tw8954197081759606552 tw744667494615535613 tw13568286774640206142 tw13886343412395894780 tw11665353971984820375 tw1524533325937788929 tw13684587740369543026 tw5084311828431274914 tw14393430127705743009 tw7509796670962517593 tw15713196416380900162 tw9491736780031083665 tw16965542907951889092 tw11478077234503315018 tw837083385618108030 tw1469602185569274751 tw18237263590397918940 tw12911369517263260016 tw1616082728157820609 tw2588230665394680678 tw10410796922762561556 tw7716567789095749741 tw5426079361029099256 tw13531057552341600189 tw8713647898519739027 tw12247643238901062987 tw6769781741548491745 tw18115808951965637896 tw4096401650085454990 tw8208129391881514005 tw11350327850123083500 tw2619973887152447499 tw7877565284843712550 tw9661973832158962937 tw15049013797059120186 tw13141512875534393101 tw13779753484557825094 tw11498630364498226511 tw17807849293467294244 tw14913116344832409526 tw15502012227437989400 tw11719255077961431571 tw3822280387240647426 tw11448297898747467678 tw11211072376383880201 tw12154995833178189829 tw637931799257474484 tw14345342510650936329 tw271840598094687729 tw2746397695194657272 tw12094020479978594938 tw17241530997928716472 tw5774222585813249674 tw5566121587046721212 tw6391449477499151920 tw1161989127807937360 tw7153061716943071775 tw13005771532652586531 tw3938738845001783463 tw12277207451837535411 tw6535234942687387535 tw2986586589593983167 tw12480361558203521284 tw3060541460643495666 tw7266948955868961502 tw7806960221210793919 tw10777451530764337148 tw16665726314897537215 tw2510993567423780323 tw14285935856163051517 tw4112353800529412363 tw4046991737612894948 tw1160049588992744691 tw17081327344513505279 tw8436231431356768611 tw160160997478033875 tw10294110303599731018 tw8893797121970207626 tw12816421282352067660 tw10997782995180206682 tw13663751920932918016 tw6157206069828850665 tw13017077252006687406 tw18138416382604989055 tw4730023003648086938 tw14716631961333143836 tw14016677079953433948 tw8009513449368864383 tw11567057746815097616 tw6889423810624778249 tw7790538924421629286 tw16714206617842681245 tw15742095612463891962 tw10867430938695662729 tw5395218227795585228 tw9839539255608400143:True)
open PySem PySem.W PyProof.Rows
set_option maxRecDepth 100000 in
set_option tactic.hygienic true in
set_option maxHeartbeats 0 in
theorem PySem.Challenge.cw_wirefloor_k19_pages_refused_holds : PySem.Challenge.rw_wirefloor_k19_pages_refused.Holds := by
  w_on; o_law; k_head; (case hw => w_witness2)
  k_fill
  refine K19.walk (l := PySem.Challenge.rw_wirefloor_k19_pages_refused) rfl rfl (fun w h Y => PySem.W.kIn_of Y) ?F
  case F =>
    intro w mg fa h KX G hmg
    have N := fun {n} e => @PySem.W.mg_none_of _ _ _ n KX G e
    have M := fun {n v} e => @PySem.W.mg_of _ _ _ n v KX G e
    refine' K19.all_mk KX G hmg ⟨N ?u0, N ?u1, N ?u2, N ?u3, N ?u4, N ?u5, N ?u6, N ?u7, N ?u8, N ?u9, N ?u10, N ?u11, N ?u12, N ?u13, N ?u14, N ?u15, N ?u16, N ?u17, ⟨?u19, ?u20, ?u21, ?u22⟩, M ?u18, L2.ClG.cl ?h0, M (L2.ClG.n ?h0), ?u23, ?u24, ?u25, ?u26, L2.ClG.cl ?h1, M (L2.ClG.n ?h1), ?u27, ?u28, ?u29, ?u30, ?u31, L2.ClG.cl ?h2, M (L2.ClG.n ?h2), ?u32, ?u33, ?u34, ?u35, ?u36, L2.ClG.cl ?h3, M (L2.ClG.n ?h3), ?u37, ?u38, ⟨M ?u39, ⟨⟨.type "type", ?u40, ?u41⟩, ?u42⟩⟩, ⟨M ?u43, ?u44, ⟨?u45, ?u46, ?u47, ?u48, ?u49, ?u50, ?u51⟩⟩, ⟨M ?u52, ?u53, ⟨?u54, ?u55, ?u56, ?u57, ?u58, ?u59, ?u60⟩⟩, ⟨M ?u61, ?u62, ⟨?u63, ?u64, ?u65, ?u66, ?u67, ?u68, ?u69⟩⟩, ⟨M ?u70, ?u71, ⟨?u72, ?u73, ?u74, ?u75, ?u76, ?u77, ?u78⟩⟩, ⟨M ?u79, ?u80, ⟨?u81, ?u82, ?u83, ?u84, ?u85, ?u86, ?u87⟩⟩, ⟨M ?u88, ?u89, ⟨?u90, ?u91, ?u92, ?u93, ?u94, ?u95, ?u96⟩⟩, ⟨M ?u97, ?u98, ⟨?u99, ?u100, ?u101, ?u102, ?u103, ?u104, ?u105⟩⟩, ⟨M ?u106, ⟨?u107, ?u108, ?u109, ?u110, ?u111, ?u112, ?u113⟩, ⟨?u114, ?u112, ?u113, ?u115, ?u116, ?u107, ?u108⟩⟩, ⟨_, M (by k_is), ⟨_, rfl⟩⟩, ⟨_, M (by k_is), ⟨_, rfl⟩⟩, ⟨_, M (by k_is), ⟨_, rfl⟩⟩, ⟨_, M (by k_is), ⟨_, rfl⟩⟩, ⟨_, M (by k_is), ⟨_, rfl⟩⟩, ⟨_, M (by k_is), ⟨_, rfl⟩⟩, ⟨_, M (by k_is), ⟨_, rfl⟩⟩, ⟨_, M (by k_is), ⟨_, rfl⟩⟩, ⟨_, M (by k_is), ⟨_, rfl⟩⟩, ⟨_, M (by k_is), ⟨_, rfl⟩⟩, ⟨_, M (by k_is), rfl⟩, fun _ => .inr ⟨⟨.type "tuple", _, .seq #[.int 4 _, .int 16 _, .int 16 _] _, _⟩, _, _, (by k_is), rfl, rfl, (by show 3 <= sizeLine; decide), (.cons ⟨_, rfl⟩ (.cons ⟨_, rfl⟩ (.cons ⟨_, rfl⟩ .nil)))⟩, ?u117, ?u118, ?u119, ?u120, ?u121, ?u122, ?u123, ?u124, ?u125, ?u126, ?u127, ?u128, ?u129, ?u130, ?u131, ?u132, ?u133, ?u134, ?u135, ?u136, ?u137, ?u138, ?u139, ?u140, ?u141, ?u142, ?u143, ?u144, ?u145, ?u146, ?u147, ?u148, ?u149, ?u150, ?u151, ?u152, ?u153, ?u154, ?u155, ?u156, ?u157, ?u158, ?u159, ?u160, ?u161, ?u162, ?u163, ?u164, ?u165, ?u166, ?u167, ?u168, ?u169, ?u170, ?u171, ?u172, ?u173, ?u174, ?u175, ?u176, ?u177, ?u178, ?u179, ?u180, ?u181, ?u182, ?u183, ?u184, ?u185, ?u186, ?u187, ?u188, ?u189, ?u190, ?u191, ?u192, ?u193, ?u194, ?u195, ?u196, ?u197, ?u198⟩ ?h0 ?h1 ?h2 ?h3 ?h4 ?h5 ?h6 ?h7 ?h8 ?h9 ?h10 ?h11 ?h12 ?h13 ?h14 ?h15 ?h16 ?h17 ?h18 ?h19 ?h20 ?h21 ?h22 ?h23 ?h24 ?h25 ?h26 ?h27 ?h28 ?h29 ?h30 ?h31 ?h32 ?h33 ?h34 ?h35 ?h36 ?h37 ?h38 ?h39 ?h40 ?h41 ?h42 ?h43 ?h44 ?h45 ?h46 ?h47 ?h48 ?h49 ?h50 ?h51 ?h52 ?h53 ?h54 ?h55 ?h56 ?h57 ?h58 ?h59 ?h60 ?h61 ?h62 ?h63 ?h64 ?h65 ?h66 ?h67 ?h68 ?h69 ?h70 ?h71 ?h72 ?h73 ?h74 ?h75 ?h76 ?h77 ?h78 ?h79 ?h80 ?h81 ?h82 ?h83 ?h84 ?h85 ?h86 ?h87 ?h88 ?h89 ?h90 ?h91 ?h92 ?h93 ?h94 ?h95 ?h96 ?h97 ?h98
    (case h0|h1|h2|h3 => (refine' ⟨?a, ?b, ?c, ?d, ?e, ?f, ?g⟩; (case a => k_is); (case b => k_is); (case c => k_is); (case d => k_is); (case e => k_is); (case f => k_is); (case g => k_is)))
    (case u0|u1|u2|u3|u4|u5|u6|u7|u8|u9|u10|u11|u12|u13|u14|u15|u16|u17|u18|u19|u20|u21|u22|u39|u40|u41|u42|u43|u45|u46|u47|u48|u49|u50|u51|u52|u54|u55|u56|u57|u58|u59|u60|u61|u63|u64|u65|u66|u67|u68|u69|u70|u72|u73|u74|u75|u76|u77|u78|u79|u81|u82|u83|u84|u85|u86|u87|u88|u90|u91|u92|u93|u94|u95|u96|u97|u99|u100|u101|u102|u103|u104|u105|u106|u107|u108|u109|u110|u111|u112|u113|u114|u115|u116|h4|h5|h6|h7|h8|h10|h18|h19|h20|h21|h22|h23|h27|h28|h29|h30|h31|h32|h33|h34|h35|h36|h37|h38|h40|h41|h42|h43|h44|h45|h68|h69|h70|h71|h76|h77|h78|h79 => k_is)
    (case h11|h12|h13|h14|h15|h16|h17|h25|h26|h47|h48|h49|h50|h51|h52|h53|h55|h56|h57|h58|h59|h60|h61|h62|h63|h64|h65|h66|h67|h72|h73|h74|h75|h80|h81|h82|h83|h84|h85|h86|h87|h88|h89|h90|h91|h92|h93|h94|h95|h96|h97|h98 => (refine' L2.fng ?a (L2.fnat ?b ?c ?d); (case a => k_is); (case b => k_is); (case c => k_is); (case d => k_is)))
    (case h24|h39|h46|h54 => (refine' L2.meg ?a ?i (L2.fnat ?b ?c ?d); (case a => k_is); (case i => k_is); (case b => k_is); (case c => k_is); (case d => k_is)))
    (case u44|u53|u62|u71|u80|u89|u98 => k_exc)
    (case h9 => kernel_rfl)
    (case u117|u118|u119|u120|u121|u122|u123|u124|u125|u126 => kit_is)
    (case u127|u128|u129|u130|u131|u132|u133|u134|u135|u136|u137|u138|u139|u140|u141|u142|u143|u144|u145|u146|u147|u148|u149|u150|u151|u152|u153|u154|u155|u156|u157|u158|u159|u160|u161|u162|u163|u164|u165|u166|u167|u168|u169|u170|u171|u172|u173|u174|u175|u176|u177|u178|u179|u180|u181|u182|u183|u184|u185|u186|u187|u188|u189|u190|u191|u192|u193|u194|u195|u196|u197|u198 => kts_exm)
    (case u23|u24|u25|u26|u27|u28|u29|u30|u31|u32|u33|u34|u35|u36|u37|u38 => show _ = _; k_is)
