import PyProof.Rows.All
import Wide.All
import OpenK.AllK
import Wide.FinOn
import Lean
import PyProof.EqAt
import PyProof.EqKinds
import PyProof.TupleCall
import OpenK.KRaise
import OpenK.KOwn
import KE.KTryMore
import KE.RegKTryMore
import PyProof.ExcArgsOwn
import KE.KIntText
import KE.KSortTup
import KE.KDictOf
import KE.KRevIter
import KE.KEqDict
import PyProof.Rows.SetFrom
import PyProof.TupleKey
import PyProof.Rows.SetObj
import PyProof.SetRoads
import PyProof.IsiH_list
import PyProof.ZipIter
import PyProof.Rows.TupIter
import PyProof.DictValues
import PyProof.DictWalks
import KE.KDictSum
import KE.KNest
import KE.KLam
import KE.KNestM
import KE.KDictList
import KE.KDictLaws
import PySem.Challenge.RW_wirefloor_k25_whole_cheapest
set_option Elab.async false
set_option linter.all false
set_option maxRecDepth 100000
open PySem renaming wpAny_bind → CH, wpAny_pure → CI, wpAny_call_entry → Dr, wpAny_mono → Dy, wpAny_holding → Dz, wpAny_newObj_type → DA, wpAny_dictEntries → DB, wpAny_field → DC, wpAny_dictEpoch → DV, wpAny_seqItems → DW, wpAny_attempt → D6, wpAny_setField_rec → D7
open PySem renaming wpAny_rule → D8, wpAny_truthy_bool → Ec, wpAny_Call_Name_kw → Ed, wpAny_isInstance → Eg, wpAny_callSpecial?_slot → Ei, wpAny_letGo → Et, wpAny_passesOwn → EG, wpAny_setField → EK, wpAny_notOrdered_dict → E1, wpAny_typeOf → E2, wpAny_pyIter_slot → E4, wpAny_fieldsOf → E5
open PySem renaming wpAny_forIn_list → Fe, wpAny_specialOf → Fg, wpAny_typeNameOfWhole_keyiter → FD, wpAny_typeNameOf_keyiter → FE, wpAny_typeNameOfWhole_itemiter → FF, wpAny_typeNameOf_itemiter → FG, wpAny_typeNameOfWhole_valiter → FH, wpAny_typeNameOf_valiter → FI
open PySem.W renaming Frag → CJ, fnOf → CT, nsIn → CY, keepIn → CZ, codeIn → C1, mg_of → C9, findIn → Dg, mg_none_of → DI, isFn → DP, kitOne → DT, kia_one → D1, emptyDict → En
open PySem.W renaming instObj → Eu, kla_obj → EM, plainGet → EU, hasDictIn → Fb, tabIn → Fp, codeHdIn → Fq, plainOver → FB
open List renaming length_map → CK, mem_singleton → CP, mem_map → CU, mem_cons → CV, getElem?_map → CW, mem_of_getElem? → C2, map_append → C3, map_cons → C5, getElem?_eq_some_iff → C7, length_append → C_, getD_eq_getElem?_getD → Dc, getElem?_eq_getElem → Dd
open List renaming size_toArray → De, mem_cons_of_mem → Dh, mem_cons_self → Dk, length_cons → Dl, mem_append → Dm, map_map → Dq, nodup_cons → Ds, append_assoc → Dt, append_nil → Dw, length_take → Dx, mem_iff_getElem? → DD, lookup_cons → DF
open List renaming mem_map_of_mem → DG, filter_append → DH, filter_cons_of_pos → DJ, filter_cons_of_neg → DK, mem_filter → DO, take_length → DR, getElem?_drop → DS, mem_append_right → DZ, getElem?_take_of_lt → D3, not_mem_nil → D9, getElem?_append_right → Ee, getElem?_append_left → Ef
open List renaming lookup → Eo, length_set → Es, mem_range → Ew, length_dropLast → Ez, take_of_length_le → EB, filter_nil → EF, zip_cons_cons → EH, nodup_nil → EI, foldl → EN, mem_append_left → ET, length_replicate → EV, length_drop → EW
open List renaming length_singleton → EX, find?_cons → EY, take_append_drop → E6, pairwise_map → E7, dropLast_concat_getLast → E8, of_mem_zip → Fd, length_nil → Ff, all_eq_true → Fi, length_reverse → Fk, map_congr_left → Fo, perm_append_comm → Fs, drop_eq_getElem_cons → Ft
open List renaming eq_nil_of_length_eq_zero → Fu, length_filter_le → Fv, mem_filterMap → Fy, reverse_cons → FC, nodup_append → FJ, extract_eq_drop_take → FL, pairwise_iff_getElem → FN, map_singleton → FQ, length_range → FR
open PyProof.Rows renaming wpS_bind → CL, wpS_pure → CN, wpS_mono → Du, wpS_forRange → DE, wpS_get → DX, wpS_modify → Ej
open Nat renaming le_refl → CM, ne_of_lt → C6, zero_le → C8, le_trans → Df, lt_of_lt_of_le → Dv, lt_irrefl → DL, ne_of_gt → DY, le_add_right → EL, not_lt_zero → EZ, lt_succ_self → Fc, lt_succ_of_lt → Fj
open PySem.Heap renaming get?_push_of_some → CO, lt_size → CS, get?_push_size → C4, size_push → DM, get?_none_of_le → El, get?_update_self → Ep, get?_update_other → Er
open Ne renaming symm → CQ
open Bool renaming false_ne_true → C0, false_eq_true → Eh, eq_iff_iff → Em, and_eq_true → EA
open Array renaming length_toList → Di, size_push → DN, getElem?_toList → DU, toList_append → D_, toList_push → EC, getElem?_eq_getElem → E3, getElem?_eq_none → Fl, mem_toList_iff → Fz, toList_extract → FK, size_append → FM
open Option renaming map_eq_some_iff → Do, isSome_iff_exists → Ey, map_some → ES
open Int renaming toNat_natCast → DQ, le_refl → Ea, eq_ofNat_of_zero_le → Eb, emod_nonneg → ED, emod_lt_of_pos → EE, add_comm → E9, zero_add → E_, mul_ediv_add_emod → FO
open PySem.F renaming plainAttrs_list → Ek, slot_dict_get → EJ, slot_list_append → EO, type_list_append → ER, plainAttrs_dict → Fw, type_dict_get → Fx
noncomputable section
namespace L2
open PySem PySem.Spec PyProof.Rows
abbrev cK:=Sum Int Str
noncomputable def mI:cK→Value→Bool
 | .inl k,v=>Value.isInt k v
 | .inr x,v=>Value.isStrOf x v
noncomputable def mf (w:World):cK→Int
 | .inl k=>hashInt k
 | .inr x=>hashStr w x
theorem cf:∀{k:cK} {v:Value},mI k v=true→(∃i t,k=Sum.inl i∧v=Value.int i t)∨(∃x t,k=Sum.inr x∧v=Value.str x t)
 | .inl i,v,h=>by
  obtain⟨t,e⟩:=Value.isInt_shape (k:=i) (v:=v) h
  exact .inl ⟨i,t,rfl,e⟩
 | .inr x,v,h=>by
  obtain⟨t,e⟩:=Value.isStrOf_shape (x:=x) (v:=v) h
  exact .inr ⟨x,t,rfl,e⟩
theorem tD (i:Int)(t:Tok):mI (.inl i) (.int i t)=true:=by simp[mI,Value.isInt]
theorem tP (x:Str)(t:Tok):mI (.inr x) (.str x t)=true:=by simp[mI,Value.isStrOf]
theorem Am (a b:Int):decide ((Sum.inl a:cK)=Sum.inl b)=(a==b):=by
 by_cases e:a=b
 ·subst e;simp
 ·have h:¬(Sum.inl a:cK)=Sum.inl b:=fun q=>e (Sum.inl.inj q)
  rw[decide_eq_false h]
  exact(beq_eq_false_iff_ne.mpr e).symm
theorem zA (a b:Str):decide ((Sum.inr a:cK)=Sum.inr b)=decide (a=b):=by
 by_cases e:a=b
 ·subst e;simp
 ·have h:¬(Sum.inr a:cK)=Sum.inr b:=fun q=>e (Sum.inr.inj q)
  rw[decide_eq_false h,decide_eq_false e]
theorem zD (a:Int)(b:Str):decide ((Sum.inl a:cK)=Sum.inr b)=false:=decide_eq_false (fun q=>nomatch q)
theorem Ae (a:Str)(b:Int):decide ((Sum.inr a:cK)=Sum.inl b)=false:=decide_eq_false (fun q=>nomatch q)
noncomputable def aW (prog:Program) (w:World):PySem.KeyKind prog w cK where
 is:=mI
 hash:=mf w
 inj:=fun v a b ha hb=>by
  rcases cf ha with ⟨i,t,rfl,rfl⟩|⟨x,t,rfl,rfl⟩
  ·rcases cf hb with ⟨j,u,rfl,e⟩|⟨y,u,rfl,e⟩
   ·injection e with e1 _;rw[e1]
   ·exact nomatch e
  ·rcases cf hb with ⟨j,u,rfl,e⟩|⟨y,u,rfl,e⟩
   ·exact nomatch e
   ·injection e with e1 _;rw[e1]
 byValue:=fun k v h=>by
  rcases cf h with ⟨i,t,rfl,rfl⟩|⟨x,t,rfl,rfl⟩<;>rfl
 pyHash:=fun hv h=>by
  rcases cf hv with ⟨i,t,rfl,rfl⟩|⟨x,t,rfl,rfl⟩
  ·exact wpAny_pyHash_int h
  ·exact wpAny_pyHash_str h
 eqBool:=fun hu hv h=>by
  rcases cf hu with ⟨i,t,rfl,rfl⟩|⟨x,t,rfl,rfl⟩
  ·rcases cf hv with ⟨j,u,rfl,rfl⟩|⟨y,u,rfl,rfl⟩
   ·rw[Am] at h;exact wpAny_eqBool_int h
   ·rw[zD] at h;exact SeqAt.EqAt.int_str i t y u _ _ _ _ h
  ·rcases cf hv with ⟨j,u,rfl,rfl⟩|⟨y,u,rfl,rfl⟩
   ·rw[Ae] at h;exact SeqAt.EqAt.str_int x t j u _ _ _ _ h
   ·rw[zA] at h;exact wpAny_eqBool_str h
 «strs»:=fun k x t v h=>by
  rcases cf h with ⟨i,u,rfl,e⟩|⟨y,u,rfl,e⟩
  ·exact nomatch e
  ·injection e with e1 _
   subst e1
   cases v<;>rfl
theorem pK (prog:Program)(w:World)(i:Int)(t:Tok):(aW prog w).is (.inl i) (.int i t)=true:=tD i t
theorem pW (prog:Program)(w:World)(x:Str)(t:Tok):(aW prog w).is (.inr x) (.str x t)=true:=tP x t
inductive V where
 |non|bl (b:Bool)|int (i:Int)|str (x:Str)|byt (b:Array UInt8)|flt (b:UInt64)|ref (a:Addr)|ty (n:String)
 deriving DecidableEq
noncomputable def aT:V→Value→Prop
 | .non,u=>u=Value.none
 | .bl b,u=>u=Value.bool b
 | .int i,u=>∃t,u=Value.int i t
 | .str x,u=>∃t,u=Value.str x t
 | .byt b,u=>∃t,u=Value.bytes b t
 | .flt b,u=>∃t,u=Value.float b t
 | .ref a,u=>u=Value.ref a
 | .ty n,u=>u=Value.type n
abbrev bh:List V→List Value→Prop:=Paired aT
theorem bh.length(r:bh xs us):xs.length=us.length:=Paired.length r
theorem bh.get:∀{xs:List V} {us:List Value} {i:Nat} {x:V},bh xs us→xs[i]?=some x→∃u,us[i]?=some u∧aT x u
 |_,_,_,_,.nil,e=>by simp at e
 |_,_,0,_,.cons r _,e=>by simp at e;subst e;exact⟨_,rfl,r⟩
 |_,_,i+1,x,.cons _ t,e=>by
  obtain⟨u,h1,h2⟩:=bh.get (i:=i) (x:=x) t (by simpa using e)
  exact⟨u,by simpa using h1,h2⟩
theorem bh.set(r:aT x u):∀{xs:List V} {us:List Value} (i:Nat),bh xs us→bh (xs.set i x) (us.set i u)
 |_,_,_,.nil=> .nil
 |_,_,0,.cons _ t=> .cons r t
 |_,_,i+1,.cons q t=> .cons q (bh.set r i t)
theorem bh.append:∀{xs ys:List V} {us ws:List Value},bh xs us→bh ys ws→bh (xs++ys) (us++ws)
 |_,_,_,_,.nil,s=>s
 |_,_,_,_,.cons r t,s=> .cons r (bh.append t s)
theorem bh.take:∀{xs:List V} {us:List Value} (n:Nat),bh xs us→bh (xs.take n) (us.take n)
 |_,_,0,_=> .nil
 |_,_,_+1,.nil=> .nil
 |_,_,n+1,.cons r t=> .cons r (bh.take n t)
theorem bh.drop:∀{xs:List V} {us:List Value} (n:Nat),bh xs us→bh (xs.drop n) (us.drop n)
 |_,_,0,r=>r
 |_,_,_+1,.nil=> .nil
 |_,_,n+1,.cons _ t=>bh.drop n t
noncomputable def fU:Option V→Option Value→Prop
 |some v,some u=>aT v u
 |none,none=>True
 |_,_=>False
noncomputable def KV {κ:Type}:List (κ×V)→List (κ×Value)→Prop:=Paired fun(p:κ×V) (q:κ×Value)=>p.1=q.1∧aT p.2 q.2
def kV:cK→V
 | .inl i=> .int i
 | .inr x=> .str x
inductive HO where
 |lst (xs:List V)
 |tup (xs:List V)
 |dK (kvs:List (cK×V))|dT (kvs:List (List cK×V))
 |set (S:Int→Bool) (n:Nat)
 |ins (C dx:Addr) (fs:List (Str×V))
 |own (x:Addr)
 |xd (fs:List (Str×V))
 |met (f x:Addr)
 |rng (lo hi:Int)
 |frz (o:Obj) (u:HO)
 |tbl (ps:Array Value)
 |ext (φ:Heap→Prop)
abbrev Hp:=Addr→Option HO
noncomputable def upd (H:Hp) (a:Addr) (o:HO):Hp:=fun b=>if b=a then some o else H b
theorem ag:upd H a o a=some o:=by unfold upd;rw[if_pos rfl]
theorem aj(h:b≠a):upd H a o b=H b:=by unfold upd;rw[if_neg h]
theorem xJ:upd (upd H a o) a u=upd H a u:=by
 funext b;unfold upd;split<;>rfl
theorem cN {H:Hp}{a b:Addr}{o u:HO}(h:H a=some o)(h':H b=some u)(d:o≠u):a≠b:=by
 intro e;subst e;rw[h] at h';exact d (Option.some.inj h')
theorem ak {H:Hp}{a b:Addr}{o:HO}(h:H a=some o)(h':H b=none):a≠b:=by
 intro e;subst e;rw[h] at h';cases h'
section
variable (P:Program) (w:World)
noncomputable def bL (H:Hp) (h:Heap) (a:Addr):HO→Prop
 | .lst xs=>xs.length≤sizeLine∧∃(its:List Value) (n:Nat),bh xs its∧h.get? a=some {cls:=.type "list",data:=.seq its.toArray n}
 | .tup xs=>xs.length≤sizeLine∧∃its:List Value,bh xs its∧IsTup h a its.toArray
 | .dK kvs=>kvs.length≤sizeLine∧(a==sysModules)=false∧∃vs,KV kvs vs∧h.DictOf (aW P w) a vs
 | .dT kvs=>kvs.length≤sizeLine∧(a==sysModules)=false∧∃xs:List (List cK×Addr×Value),
   Paired (fun(p:List cK×V) (q:List cK×Addr×Value)=>p.1=q.1∧H q.2.1=some (.tup (p.1.map kV))∧aT p.2 q.2.2) kvs xs∧
   ∃o es ep,h.get? a=some o∧o.ExactDict∧o.data=.dict es ep∧es.toList=xs.map (entryOfKey (tupleKind (aW P w)))∧(xs.map (·.1)).Nodup
 | .set S n=>h.SetOf (intKind P w) a S n
 | .ins C dx fs=>H dx=some (.own a)∧fs.length≤1000∧dx≠a∧h.get? a=some (Eu C dx)∧
   ∃mA,h.Ns1 dx mA∧(∀f,fU (fs.lookup f) (mA f))∧PySem.Within mA (fs.map (·.1))
 | .own _=>∃o,h.get? a=some o
 | .xd fs=>∃mA,h.Ns1 a mA∧∀f,fU (fs.lookup f) (mA f)
 | .rng lo hi=>∃t u v,h.get? a=some {cls:=.type "range",data:=.fields #[.int lo t,.int hi u,.int 1 v]}
 | .frz o u=>h.get? a=some o∧bL H h a u
 | .tbl ps=>h.get? a=some {cls:=.none,data:=.fields ps}
 | .met f x=>h.get? a=some (PySem.W.methodObj (.ref f) (.ref x))
 | .ext φ=>φ h∧(∃o,h.get? a=some o)∧∀h1 h2:Heap,φ h1→(∀o,h1.get? a=some o→h2.get? a=some o)→φ h2
def fV (H:Hp) (h:Heap):Prop:=∀a o,H a=some o→bL P w H h a o
end
section
variable {P:Program} {w:World} {H H':Hp} {h h':Heap} {a:Addr} {o:HO}
theorem bL.lt (x:bL P w H h a o):a<h.objs.size:=by
 cases o with
 |lst xs=>obtain⟨_,_,_,_,e⟩:=x;exact CS e
 |tup xs=>obtain⟨_,_,_,p⟩:=x;exact p.lt
 |dK kvs=>obtain⟨_,_,_,_,o,_,_,e,_⟩:=x;exact CS e
 |dT kvs=>obtain⟨_,_,_,_,o,_,_,e,_⟩:=x;exact CS e
 |set S n=>obtain⟨o,_,_,_,e,_⟩:=x;exact CS e
 |ins C dx fs=>obtain⟨_,_,_,e,_⟩:=x;exact CS e
 |own y=>obtain⟨_,e⟩:=x;exact CS e
 |xd fs=>obtain⟨_,⟨_,_,_,e,_⟩,_⟩:=x;exact CS e
 |rng lo hi=>obtain⟨_,_,_,e⟩:=x;exact CS e
 |frz ob u=>obtain⟨e,_⟩:=x;exact CS e
 |tbl ps=>exact CS (show h.get? a=some _ from x)
 |met f y=>exact CS (show h.get? a=some _ from x)
 |ext φ=>obtain⟨_,⟨_,e⟩,_⟩:=x;exact CS e
theorem Paired.mapP {α β:Type}{F G:α→β→Prop}:∀{l₁:List α} {l₂:List β},Paired F l₁ l₂→(∀a b,F a b→G a b)→Paired G l₁ l₂
 |_,_,.nil,_=> .nil
 |_,_,.cons r t,f=> .cons (f _ _ r) (Paired.mapP t f)
theorem bL.stay (x:bL P w H h a o)(k:∀b u,(b=a∨H b=some (.own a))→h.get? b=some u→h'.get? b=some u)
  (ho:∀b,H b=some (.own a)→H' b=some (.own a)) (ht:∀b xs,H b=some (.tup xs)→H' b=some (.tup xs)):bL P w H' h' a o:=by
 induction o with
 |lst xs=>obtain⟨z,g,n,r,e⟩:=x;exact⟨z,g,n,r,k _ _ (.inl rfl) e⟩
 |tup xs=>obtain⟨z,g,r,ob,e,c⟩:=x;exact⟨z,g,r,ob,k _ _ (.inl rfl) e,c⟩
 |dK kvs=>obtain⟨z,y,vs,r,ob,es,ep,e,c⟩:=x;exact⟨z,y,vs,r,ob,es,ep,k _ _ (.inl rfl) e,c⟩
 |dT kvs=>
  obtain⟨z,y,xs,r,ob,es,ep,e,c⟩:=x
  exact⟨z,y,xs,Paired.mapP r fun p q z=>⟨z.1,ht _ _ z.2.1,z.2.2⟩,ob,es,ep,k _ _ (.inl rfl) e,c⟩
 |set S n=>obtain⟨ob,es,ep,t,e,c⟩:=x;exact⟨ob,es,ep,t,k _ _ (.inl rfl) e,c⟩
 |ins C dx fs=>
  obtain⟨d,z,ne,e,mA,⟨od,es,ep,e2,c⟩,r⟩:=x
  exact⟨ho _ d,z,ne,k _ _ (.inl rfl) e,mA,⟨od,es,ep,k _ _ (.inr d) e2,c⟩,r⟩
 |own y=>obtain⟨ob,e⟩:=x;exact⟨ob,k _ _ (.inl rfl) e⟩
 |xd fs=>obtain⟨mA,⟨od,es,ep,e,c⟩,r⟩:=x;exact⟨mA,⟨od,es,ep,k _ _ (.inl rfl) e,c⟩,r⟩
 |rng lo hi=>obtain⟨t,u,v,e⟩:=x;exact⟨t,u,v,k _ _ (.inl rfl) e⟩
 |frz ob u ih=>obtain⟨e,q⟩:=x;exact⟨k _ _ (.inl rfl) e,ih q⟩
 |tbl ps=>
  have e:h.get? a=some {cls:=.none,data:=.fields ps}:=x
  show h'.get? a=some {cls:=.none,data:=.fields ps}
  exact k a _ (.inl rfl) e
 |met f y=>
  have e:h.get? a=some (PySem.W.methodObj (.ref f) (.ref y)):=x
  show h'.get? a=some (PySem.W.methodObj (.ref f) (.ref y))
  exact k a _ (.inl rfl) e
 |ext φ=>obtain⟨p,⟨o,e⟩,st⟩:=x;exact⟨st _ _ p fun o q=>k _ _ (.inl rfl) q,⟨o,k _ _ (.inl rfl) e⟩,st⟩
theorem fV.lt (x:fV P w H h)(e:H a=some o):a<h.objs.size:=(x a o e).lt
theorem fV.fresh (x:fV P w H h)(e:h.objs.size≤a):H a=none:=by
 cases q:H a with
 |none=>rfl
 |some u=>exact absurd (Dv (x.lt q) e) (DL _)
theorem fV.kept (x:fV P w H h)(k:∀b u,h.get? b=some u→h'.get? b=some u):fV P w H h':=fun a o e=>
 (x a o e).stay (fun b u _ q=>k b u q) (fun _ q=>q) fun _ _ q=>q
theorem fV.laid (x:fV P w H h)(k:∀b u,h.get? b=some u→h'.get? b=some u)(hp:h.objs.size≤a)(new:bL P w (upd H a o) h' a o):fV P w (upd H a o) h':=fun b u e=>by
 have hn:=x.fresh hp
 by_cases hb:b=a
 ·subst hb;rw[ag] at e;cases e;exact new
 ·rw[aj hb] at e
  exact(x b u e).stay (fun c v _ q=>k c v q) (fun c q=>by rw[aj (ak q hn)];exact q) fun c xs q=>by rw[aj (ak q hn)];exact q
end
def Rd (H:Hp) (a:Addr) (u:HO):Prop:=H a=some u∨∃o,H a=some (.frz o u)
theorem Rd.ok(r:Rd H a u)(x:fV P w H h):bL P w H h a u:=by
 rcases r with r|⟨o,r⟩
 ·exact x a u r
 ·obtain⟨_,q⟩:=x a _ r
  exact q
noncomputable def w5:Option HO→Prop
 |some (.lst _)=>True
 |some (.dK _)=>True
 |some (.dT _)=>True
 |some (.set _ _)=>True
 |some (.ins _ _ _)=>True
 |some (.ext _)=>True
 |_=>False
section
variable {P:Program} {w:World} {H:Hp} {h h':Heap} {x e:Addr} {o':HO}
theorem fV.write (ok:fV P w H h)(mu:w5 (H x))(he:e=x∨H e=some (.own x))(k:∀b u,b≠e→h.get? b=some u→h'.get? b=some u)(heo:∃u,h'.get? e=some u)
  (new:bL P w (upd H x o') h' x o'):fV P w (upd H x o') h':=fun b u q=>by
 have nown:∀c y,H c=some (.own y)→c≠x:=fun c y r z=>by subst z;rw[r] at mu;exact mu
 have ntup:∀c xs,H c=some (.tup xs)→c≠x:=fun c xs r z=>by subst z;rw[r] at mu;exact mu
 by_cases hb:b=x
 ·subst hb;rw[ag] at q;cases q;exact new
 ·rw[aj hb] at q
  by_cases hbe:b=e
  ·have q':H b=some (.own x):=by
    rcases he with z|z
    ·exact absurd (hbe.trans z) hb
    ·rw[hbe];exact z
   rw[q] at q';cases q'
   obtain⟨v,hv⟩:=heo
   exact⟨v,by rw[hbe];exact hv⟩
  ·refine(ok b u q).stay (fun c v hc r=>k c v ?_ r) (fun c r=>by rw[aj (nown c b r)];exact r) fun c xs r=>by rw[aj (ntup c xs r)];exact r
   rcases hc with rfl|hc
   ·exact hbe
   ·rintro rfl
    rcases he with z|z
    ·exact nown c b hc z
    ·rw[hc] at z;cases z;exact hb rfl
end
structure Un (fs ex:List Addr) (H H':Hp) (h h':Heap):Prop where
 keep:∀b o,h.get? b=some o→H b=none→b∉fs→b∉ex→h'.get? b=some o
 slot:∀b o,h.get? b=some o→H b=none→b∈fs→b∉ex→∃sl,h'.get? b=some {o with slots:=sl}
 free:∀b o,h.get? b=some o→H b=none→b∉ex→H' b=none
 there:∀b o,h.get? b=some o→b∉ex→∃o',h'.get? b=some o'
 tups:∀b xs,H b=some (.tup xs)→H' b=some (.tup xs)
 frzs:∀b o u,H b=some (.frz o u)→H' b=some (.frz o u)
 tbls:∀b ps,H b=some (.tbl ps)→∃more,H' b=some (.tbl (ps++more))
section
variable {fs fs' ex ex':List Addr} {H H1 H2:Hp} {h h1 h2 h':Heap} {a x e:Addr} {o:HO}
theorem Un.any (u:Un fs ex H H1 h h1){b:Addr}{ob:Obj}(q:h.get? b=some ob)(n:H b=none)(hx:b∉ex):∃sl,h1.get? b=some {ob with slots:=sl}:=by
 by_cases hb:b∈fs
 ·exact u.slot b ob q n hb hx
 ·exact⟨ob.slots,u.keep b ob q n hb hx⟩
theorem Un.kept (k:∀b u,h.get? b=some u→h'.get? b=some u):Un fs ex H H h h':=
 ⟨fun b ob q _ _ _=>k b ob q,fun b ob q _ _ _=>⟨ob.slots,k b ob q⟩,fun _ _ _ n _=>n,fun b ob q _=>⟨ob,k b ob q⟩,fun _ _ q=>q,fun _ _ _ q=>q,fun _ ps q=>⟨#[],by rw[q];simp⟩⟩
theorem Un.refl:Un fs ex H H h h:=Un.kept fun _ _ q=>q
theorem Un.laid (k:∀b u,h.get? b=some u→h'.get? b=some u)(hp:h.objs.size≤a)(hn:H a=none):Un fs ex H (upd H a o) h h' where
 keep:=fun b u q _ _ _=>k b u q
 slot:=fun b u q _ _ _=>⟨u.slots,k b u q⟩
 free:=fun b u q n _=>by rw[aj (C6 (Dv (CS q) hp))];exact n
 there:=fun b u q _=>⟨u,k b u q⟩
 tups:=fun b xs q=>by rw[aj (ak q hn)];exact q
 frzs:=fun b u xs q=>by rw[aj (ak q hn)];exact q
 tbls:=fun b ps q=>⟨#[],by rw[aj (ak q hn),q];simp⟩
theorem Un.write (mu:w5 (H x))(he:e=x∨H e=some (.own x))(k:∀b u,b≠e→h.get? b=some u→h'.get? b=some u)(heo:∃u,h'.get? e=some u):Un fs ex H (upd H x o) h h':=by
 have hx:∀b,H b=none→b≠x:=fun b n z=>by subst z;rw[n] at mu;exact mu
 have hb:∀b,H b=none→b≠e:=fun b n z=>by
  subst z
  rcases he with r|r
  ·exact hx b n r
  ·rw[n] at r;cases r
 have hm:∀b u,H b=some u→¬w5 (some u)→b≠x:=fun b u q nm z=>by subst z;rw[q] at mu;exact nm mu
 refine⟨fun b u q n _ _=>k b u (hb b n) q,fun b u q n _ _=>⟨u.slots,k b u (hb b n) q⟩,fun b u q n _=>by rw[aj (hx b n)];exact n,fun b u q _=>?_,
  fun b xs q=>by rw[aj (hm b _ q fun z=>z)];exact q,fun b u xs q=>by rw[aj (hm b _ q fun z=>z)];exact q,fun b ps q=>⟨#[],by rw[aj (hm b _ q fun z=>z),q];simp⟩⟩
 by_cases hbe:b=e
 ·subst hbe;exact heo
 ·exact⟨u,k b u hbe q⟩
end
noncomputable def qL (h:Heap) (H:Hp):List Addr:=(List.range h.objs.size).filter fun a=>(H a).isSome
def mh (h:Heap) (H:Hp):Heap:=PySem.W.hideAll h (qL h H)
theorem t9 (h:Heap)(H:Hp):(mh h H).objs.size=h.objs.size:=PySem.W.hideAll_size _ _
theorem wB(e:h.get? b=some o)(n:H b=none):(mh h H).get? b=some o:=
 PySem.W.hideAll_get _ e fun hm=>by
  have q:(H b).isSome=true:=(DO.mp hm).2
  rw[n] at q;simp at q
theorem yz(e:(mh h H).get? b=some o):h.get? b=some o∧H b=none:=by
 have e':h.get? b=some o:=PySem.W.of_hideAll (qL h H) e
 refine⟨e',?_⟩
 cases q:H b with
 |none=>rfl
 |some x=>
  have hm:b∈qL h H:=DO.mpr ⟨Ew.mpr (CS e'),by simp[q]⟩
  have z:(mh h H).get? b=none:=PySem.W.hideAll_none (qL h H) hm
  rw[z] at e;cases e
noncomputable def ko (g h:Heap) (L:Addr):List (Addr×Obj):=(List.range h.objs.size).filterMap fun a=>if a=L∨(g.get? a).isSome=true then none else (h.get? a).map fun o=>(a,o)
theorem jO(h1:a≠L)(h2:g.get? a=none)(h3:h.get? a=some o):(a,o)∈ko g h L:=
 Fy.mpr ⟨a,Ew.mpr (CS h3),by simp[h1,h2,h3]⟩
theorem lW{p:Addr×Obj}(hp:p∈ko g h L):p.1≠L∧g.get? p.1=none∧h.get? p.1=some p.2:=by
 obtain⟨b,_,e⟩:=Fy.mp hp
 split at e
 ·cases e
 ·rename_i hn
  cases q:h.get? b with
  |none=>rw[q] at e;simp at e
  |some u=>
   rw[q] at e
   simp only[ES,Option.some.injEq] at e
   subst e
   refine⟨fun z=>hn (.inl z),?_,q⟩
   show g.get? b=none
   cases r:g.get? b with
   |none=>rfl
   |some v=>exact(hn (.inr (by simp[r]))).elim
noncomputable def bC (g h:Heap) (L d:Addr):List (Addr×Obj):=(ko g h L).filter fun p=>decide (p.1≠d)
theorem vG:News g L h (ko g h L):=fun p hp=>let ⟨a,b,c⟩:=lW hp;⟨c,a,b⟩
structure Mod (K:CJ) (mg:Str→Option Value) (base:Heap):Prop where
 kin:K.In base
 glob:base.Ns mainGlobals mg
 blt:∃mb,base.Ns builtinsNs mb∧∀x:Str,x≠ "__name__" →mb x=bootBuiltins x
 nolimit:base.NoLimit
structure Cx where
 prog:Program
 w:World
 K:CJ
 mg:Str→Option Value
 base:Heap
 A:Around
 N:List Str
 s₀:Shared
 H₀:Hp
 env:Env
 outer:List Env
 stack:List Env
 ex:List Addr
 fn:Str→Bool
 calm:Bool
 pn:List (Addr×Obj)
 xe:Value→Shared→Prop
def sS (l:List Env):List Addr:=l.filterMap (·.frame)
abbrev Cx.fs (X:Cx):List Addr:=sS X.outer
def BY (sc:Scope) (x:Str):Prop:=sc.names.lookup x=some .local∨sc.names.lookup x=some .cell∨sc.names.lookup x=some .free
def A7 (sc:Scope) (x:Str):Prop:=sc.names.lookup x=some .local∨sc.names.lookup x=some .cell
def Bx (env:Env) (h:Heap) (m:Str→Option Value) (x:Str) (u:Value):Prop:=
 (env.kindOf x=some .local∧m x=some u)∨((env.kindOf x=some .cell∨env.kindOf x=some .free)∧∃c,env.cells.lookup x=some c∧h.IsCell c (some u))
structure Cx.Ok (X:Cx):Prop where
 mod:Mod X.K X.mg X.base
 kind:X.env.scope.kind=.function
 glob:X.env.globals=mainGlobals
 blt:X.env.builtins=builtinsNs
 above:X.s₀.heap.objs.size≤X.env.locals
 inj:∀x y c,X.env.cells.lookup x=some c→X.env.cells.lookup y=some c→x=y
 has:∀x,(X.env.kindOf x=some .cell∨X.env.kindOf x=some .free)→∃c,X.env.cells.lookup x=some c
 cab:∀x c,X.fn x=true→X.env.cells.lookup x=some c→X.s₀.heap.objs.size≤c
 hd:X.calm=true→X.A.handled=none
 frames:X.A.frames=some X.stack
 stk:X.stack=X.outer∨(X.stack=X.env::X.outer∧X.env.frame=some X.env.locals)
 exf:∀b∈X.ex,b≠X.env.locals∧∀x c,X.env.cells.lookup x=some c→c≠b
 bs:∀b o,X.base.get? b=some o→X.s₀.heap.get? b=some o∧X.H₀ b=none
 bsz:X.base.objs.size≤X.s₀.heap.objs.size
 noex:∀b o,X.base.get? b=some o→b∉X.ex
 exfs:∀b∈X.ex,b∉X.fs
 funs:X.s₀.heap.FunFrames X.base X.outer
 frf:∀b∈X.fs,X.H₀ b=none
structure aL (X:Cx) (pins:List (Addr×Obj)) (σ:List (Option V)) (H:Hp) (s:Shared):Prop where
 ok:X.Ok
 os:s.os=X.s₀.os
 bare:AllBare s.gens
 base:Un X.fs X.ex X.H₀ H X.s₀.heap s.heap
 loc:∃m,s.heap.Ns X.env.locals m∧∀(i:Nat) (x:Str) (v:V),X.N[i]?=some x→σ[i]?=some (some v)→BY X.env.scope x→∃u,aT v u∧Bx X.env s.heap m x u
 cell:∀x c,X.env.cells.lookup x=some c→∃v,s.heap.IsCell c v
 free:H X.env.locals=none
 freeC:∀x c,X.env.cells.lookup x=some c→H c=none
 pin:∀p∈X.pn++pins,s.heap.get? p.1=some p.2∧H p.1=none∧p.1≠X.env.locals∧p.1∉X.fs∧∀v,p.2.data≠.cell v
 hok:fV X.prog X.w H s.heap
 len:σ.length=X.N.length
section
variable {X:Cx} {pins:List (Addr×Obj)} {σ:List (Option V)} {H H':Hp} {s:Shared} {h':Heap}
theorem Cx.Ok.nofr (ok:X.Ok){b:Addr}{o:Obj}(e:X.base.get? b=some o):b∉X.fs:=fun hb=>by
 have:=(ok.funs.mem hb).1
 rw[e] at this;cases this
theorem aL.bs (I:aL X pins σ H s):∀b o,X.base.get? b=some o→s.heap.get? b=some o∧H b=none:=fun b o e=>
 ⟨I.base.keep b o (I.ok.bs b o e).1 (I.ok.bs b o e).2 (I.ok.nofr e) (I.ok.noex b o e),I.base.free b o (I.ok.bs b o e).1 (I.ok.bs b o e).2 (I.ok.noex b o e)⟩
theorem aL.bk (I:aL X pins σ H s):∀b o,X.base.get? b=some o→s.heap.get? b=some o:=fun b o e=>(I.bs b o e).1
theorem aL.mod (I:aL X pins σ H s):Mod X.K X.mg X.base:=I.ok.mod
theorem aL.kIn (I:aL X pins σ H s):X.K.In s.heap:=I.ok.mod.kin.keeps I.bk
theorem aL.lt (I:aL X pins σ H s):X.env.locals<s.heap.objs.size:=let ⟨_,hn,_⟩:=I.loc;hn.lt
theorem aL.sz (I:aL X pins σ H s):X.s₀.heap.objs.size≤s.heap.objs.size:=Df I.ok.above (Nat.le_of_lt I.lt)
theorem aL.nofs (I:aL X pins σ H s){a:Addr}(h:s.heap.objs.size≤a):a∉X.fs:=fun hb=>by
 obtain⟨_,o,ho,_⟩:=I.ok.funs.mem hb
 exact absurd (Dv (CS ho) (Df I.sz h)) (DL _)
theorem aL.cne (I:aL X pins σ H s):∀x c,X.env.cells.lookup x=some c→c≠X.env.locals:=fun x c e z=>by
 obtain⟨v,o,ho,hd⟩:=I.cell x c e
 obtain⟨m,⟨o',es,ep,b,a,_⟩,_⟩:=I.loc
 rw[z,b] at ho;cases ho;rw[a] at hd;cases hd
theorem aL.funs (I:aL X pins σ H s):s.heap.FunFrames X.base X.outer:=by
 have all:∀(l:List Env),(∀b∈sS l,b∈X.fs)→X.s₀.heap.FunFrames X.base l→s.heap.FunFrames X.base l:=by
  intro l
  induction l with
  |nil=>intro _ _;trivial
  |cons env r ih=>
   intro hs hl
   obtain⟨hk,⟨L,o,hf,hn,ho,hd⟩,hr⟩:=hl
   have hL:L∈X.fs:=hs L (by unfold sS;rw[List.filterMap_cons,hf];exact Dk)
   obtain⟨sl,e⟩:=I.base.slot L o ho (I.ok.frf L hL) hL fun z=>I.ok.exfs L z hL
   exact⟨hk,⟨L,_,hf,hn,e,hd⟩,ih (fun b hb=>hs b (by unfold sS;rw[List.filterMap_cons,hf];exact Dh _ hb)) hr⟩
 exact all X.outer (fun _ hb=>hb) I.ok.funs
theorem aL.stack (I:aL X pins σ H s):s.heap.FunFrames X.base X.stack:=by
 rcases I.ok.stk with e|⟨e,hf⟩
 ·rw[e];exact I.funs
 ·rw[e]
  obtain⟨m,hn,_⟩:=I.loc
  refine .cons (by rw[I.ok.kind];decide) hf hn ?_ I.funs
  exact El (Df I.ok.bsz I.ok.above)
theorem aL.stkSub (I:aL X pins σ H s):∀b∈sS X.stack,b∈X.env.locals::X.fs:=fun b hb=>by
 rcases I.ok.stk with e|⟨e,hf⟩
 ·rw[e] at hb;exact Dh _ hb
 ·rw[e] at hb
  unfold sS at hb
  rw[List.filterMap_cons,hf] at hb
  exact hb
theorem aL.stkFree (I:aL X pins σ H s):∀b∈sS X.stack,H b=none:=fun b hb=>by
 rcases CV.mp (I.stkSub b hb) with e|hb
 ·rw[e];exact I.free
 ·obtain⟨_,o,ho,_⟩:=I.ok.funs.mem hb
  exact I.base.free b o ho (I.ok.frf b hb) fun z=>I.ok.exfs b z hb
theorem aL.step {g':Array GenState}{t':Nat}{d':Drawn}{ch:List Addr}(I:aL X pins σ H s)
  (hch:∀b∈ch,(b∈X.ex∨X.s₀.heap.objs.size≤b)∧b≠X.env.locals∧(∀x c,X.env.cells.lookup x=some c→c≠b)∧∀p∈X.pn++pins,p.1≠b)
  (keep:∀b o,b≠X.env.locals→b∉X.fs→b∉ch→s.heap.get? b=some o→H b=none→h'.get? b=some o)
  (slot:∀b o,b≠X.env.locals→b∈X.fs→b∉ch→s.heap.get? b=some o→H b=none→∃sl,h'.get? b=some {o with slots:=sl}) (free:∀b o,b∉ch→s.heap.get? b=some o→H b=none→H' b=none)
  (there:∀b o,b∉ch→s.heap.get? b=some o→∃o',h'.get? b=some o')
  (tups:∀b xs,H b=some (.tup xs)→H' b=some (.tup xs)) (frzs:∀b o u,H b=some (.frz o u)→H' b=some (.frz o u)) (tbls:∀b ps,H b=some (.tbl ps)→∃more,H' b=some (.tbl (ps++more)))
  (ns:∀m,s.heap.Ns X.env.locals m→h'.Ns X.env.locals m) (hok:fV X.prog X.w H' h') (hg:AllBare g'):
  aL X pins σ H' {s with heap:=h',gens:=g',drawn:=d',toks:=t'}:=by
 have h:∀b o,X.s₀.heap.get? b=some o→b≠X.env.locals:=fun b o e=>C6 (Dv (CS e) I.ok.above)
 have f:∀b o,X.s₀.heap.get? b=some o→b∉X.ex→b∉ch:=fun b o e hx hb=>by
  rcases(hch b hb).1 with z|z
  ·exact hx z
  ·exact absurd (Dv (CS e) z) (DL _)
 have g:∀x c,X.env.cells.lookup x=some c→∀v,s.heap.IsCell c v→h'.IsCell c v:=fun x c e v ⟨o,ho,hd⟩=>by
  have a:c∉ch:=fun z=>(hch c z).2.2.1 x c e rfl
  by_cases hc:c∈X.fs
  ·obtain⟨sl,q⟩:=slot c o (I.cne x c e) hc a ho (I.freeC x c e)
   exact⟨_,q,hd⟩
  ·exact⟨o,keep c o (I.cne x c e) hc a ho (I.freeC x c e),hd⟩
 refine⟨I.ok,I.os,hg,⟨fun b o e n hb hx=>?_,fun b o e n hb hx=>?_,fun b o e n hx=>?_,fun b o e hx=>?_,fun b xs e=>tups b xs (I.base.tups b xs e),fun b o xs e=>frzs b o xs (I.base.frzs b o xs e),fun b ps e=>?_⟩,?_,fun x c e=>?_,?_,fun x c e=>?_,fun p hp=>?_,hok,I.len⟩
 ·exact keep b o (h b o e) hb (f b o e hx) (I.base.keep b o e n hb hx) (I.base.free b o e n hx)
 ·obtain⟨sl,e1⟩:=I.base.slot b o e n hb hx
  obtain⟨j,e2⟩:=slot b _ (h b o e) hb (f b o e hx) e1 (I.base.free b o e n hx)
  exact⟨j,e2⟩
 ·obtain⟨o',e1⟩:=I.base.there b o e hx
  exact free b o' (f b o e hx) e1 (I.base.free b o e n hx)
 ·obtain⟨o',e1⟩:=I.base.there b o e hx
  exact there b o' (f b o e hx) e1
 ·obtain⟨m1,e1⟩:=I.base.tbls b ps e
  obtain⟨m2,e2⟩:=tbls b _ e1
  exact⟨m1++m2,by rw[e2,Array.append_assoc]⟩
 ·obtain⟨m,hn,hl⟩:=I.loc
  refine⟨m,ns m hn,fun i x v e1 e2 e3=>?_⟩
  obtain⟨u,r,l⟩:=hl i x v e1 e2 e3
  refine⟨u,r,?_⟩
  rcases l with l|⟨k,c,e,z⟩
  ·exact .inl l
  ·exact .inr ⟨k,c,e,g x c e _ z⟩
 ·obtain⟨v,z⟩:=I.cell x c e
  exact⟨v,g x c e v z⟩
 ·obtain⟨m,⟨o,_,_,ho,_⟩,_⟩:=I.loc
  exact free _ o (fun z=>(hch _ z).2.1 rfl) ho I.free
 ·obtain⟨v,o,ho,hd⟩:=I.cell x c e
  exact free c o (fun z=>(hch c z).2.2.1 x c e rfl) ho (I.freeC x c e)
 ·obtain⟨e,n,ne,nf,d⟩:=I.pin p hp
  have a:p.1∉ch:=fun z=>(hch p.1 z).2.2.2 p hp rfl
  exact⟨keep p.1 p.2 ne nf a e n,free p.1 p.2 a e n,ne,nf,d⟩
theorem aL.un(I:aL X pins σ H s)(u:Un X.fs [] H H' s.heap h')(hok:fV X.prog X.w H' h'):aL X pins σ H' {s with heap:=h',toks:=t'}:=by
 obtain⟨m,⟨o,es,ep,ho,r⟩,_⟩:=id I.loc
 obtain⟨sl,hL⟩:=u.any ho I.free (by simp)
 exact I.step (g':=s.gens) (d':=s.drawn) (ch:=[]) (fun _ z=>nomatch z) (fun b o _ hb _ e n=>u.keep b o e n hb (by simp)) (fun b o _ hb _ e n=>u.slot b o e n hb (by simp)) (fun b o _ e n=>u.free b o e n (by simp)) (fun b o _ e=>u.there b o e (by simp)) u.tups u.frzs u.tbls (fun m' hm=>by
  obtain⟨o',c,d,a,r'⟩:=hm
  rw[ho] at a;cases a
  exact⟨_,c,d,hL,r'⟩) hok I.bare
theorem aL.call {g':Array GenState}{d':Drawn}(I:aL X pins σ H s)(u:Un (sS X.stack) ch H H' s.heap h')(hok:fV X.prog X.w H' h')(hg:AllBare g')
  (hch:∀b∈ch,(b∈X.ex∨X.s₀.heap.objs.size≤b)∧b≠X.env.locals∧(∀x c,X.env.cells.lookup x=some c→c≠b)∧∀p∈X.pn++pins,p.1≠b):
  aL X pins σ H' {s with heap:=h',gens:=g',drawn:=d',toks:=t'}:=by
 obtain⟨m,⟨o,es,ep,ho,r⟩,_⟩:=id I.loc
 obtain⟨sl,hL⟩:=u.any ho I.free fun z=>(hch _ z).2.1 rfl
 exact I.step (ch:=ch) hch (fun b o hL hb hc e n=>u.keep b o e n (fun z=>(CV.mp (I.stkSub b z)).elim hL hb) hc) (fun b o _ _ hc e n=>u.any e n hc) (fun b o hc e n=>u.free b o e n hc) (fun b o hc e=>u.there b o e hc) u.tups u.frzs u.tbls (fun m' hm=>by
  obtain⟨o',d,f,a,r'⟩:=hm
  rw[ho] at a;cases a
  exact⟨_,d,f,hL,r'⟩) hok hg
theorem aL.turned{it:Addr}(I:aL X pins σ H s)(k:∀b o,b≠it→s.heap.get? b=some o→h'.get? b=some o)(hn:H it=none)(hL:it≠X.env.locals)
  (h1:it∈X.ex∨X.s₀.heap.objs.size≤it) (h2:∀x c,X.env.cells.lookup x=some c→c≠it) (h3:∀p∈X.pn++pins,p.1≠it):aL X pins σ H {s with heap:=h',toks:=t'}:=by
 have a:∀b u,H b=some u→b≠it:=fun b u e z=>by rw[z,hn] at e;cases e
 refine I.step (g':=s.gens) (d':=s.drawn) (ch:=[it]) (fun b hb=>?_) (fun b o _ _ hc e _=>k b o (fun z=>hc (by simp[z])) e) (fun b o _ _ hc e _=>⟨o.slots,k b o (fun z=>hc (by simp[z])) e⟩) (fun _ _ _ _ n=>n)
  (fun b o hc e=>⟨o,k b o (fun z=>hc (by simp[z])) e⟩) (fun _ _ e=>e) (fun _ _ _ e=>e) (fun b ps e=>⟨#[],by rw[e];simp⟩) (fun m hm=>?_) (fun b u e=>?_) I.bare
 ·have e:b=it:=by simpa using hb
  subst e
  exact⟨h1,hL,h2,h3⟩
 ·obtain⟨o,es,ep,ho,r⟩:=hm
  exact⟨o,es,ep,k _ o (CQ hL) ho,r⟩
 ·refine(I.hok b u e).stay (fun c v hc q=>k c v ?_ q) (fun _ q=>q) fun _ _ q=>q
  rcases hc with z|z
  ·rw[z];exact a b u e
  ·exact a c _ z
theorem aL.tok (I:aL X pins σ H s)(t:Nat):aL X pins σ H {s with toks:=t}:=I.un (h':=s.heap) (t':=t) Un.refl I.hok
theorem aL.kept(I:aL X pins σ H s)(k:∀b u,s.heap.get? b=some u→h'.get? b=some u):aL X pins σ H {s with heap:=h',toks:=t'}:=I.un (Un.kept k) (I.hok.kept k)
theorem aL.laid(I:aL X pins σ H s)(k:∀b u,s.heap.get? b=some u→h'.get? b=some u)(hp:s.heap.objs.size≤a)(new:bL X.prog X.w (upd H a o) h' a o):
  aL X pins σ (upd H a o) {s with heap:=h',toks:=t'}:=I.un (Un.laid k hp (I.hok.fresh hp)) (I.hok.laid k hp new)
theorem aL.write(I:aL X pins σ H s)(mu:w5 (H x))(he:e=x∨H e=some (.own x))(k:∀b u,b≠e→s.heap.get? b=some u→h'.get? b=some u)(heo:∃u,h'.get? e=some u)
  (new:bL X.prog X.w (upd H x o) h' x o):aL X pins σ (upd H x o) {s with heap:=h',toks:=t'}:=I.un (Un.write mu he k heo) (I.hok.write mu he k heo new)
theorem aL.pins_of {pins':List (Addr×Obj)}(I:aL X pins σ H s)(h:∀p∈pins',s.heap.get? p.1=some p.2∧H p.1=none∧p.1≠X.env.locals∧p.1∉X.fs∧∀v,p.2.data≠.cell v):aL X pins' σ H s:=
 ⟨I.ok,I.os,I.bare,I.base,I.loc,I.cell,I.free,I.freeC,fun p hp=>(Dm.mp hp).elim (fun z=>I.pin p (ET _ z)) (h p),I.hok,I.len⟩
theorem pI {N:List Str}(hN:N.Nodup){i j:Nat}{x:Str}(a:N[i]?=some x)(b:N[j]?=some x):i=j:=by
 obtain⟨h1,e1⟩:=C7.mp a
 obtain⟨h2,e2⟩:=C7.mp b
 exact(List.getElem_inj hN).mp (e1.trans e2.symm)
theorem m_{Q:Unit→Shared→Prop}(I:aL X pins σ H s)(hN:X.N.Nodup)(hi:X.N[i]?=some x)(hx:A7 X.env.scope x)(r:aT v u)
  (h:∀s',aL X pins (σ.set i (some v)) H s'→(∃a,Heap.SameBut a s.heap s'.heap∧(a=X.env.locals∨X.env.cells.lookup x=some a))→Q () s') (hf:X.fn x=true∨X.env.scope.names.lookup x=some .local:=by first|exact .inl rfl|exact .inr rfl|assumption):wpAny M A (storeName X.env x u) Q E s:=by
 obtain⟨m,hn,hl⟩:=id I.loc
 have D:(X.env.scope.kind==.class||(X.env.scope.kind==.module&&X.env.locals !=X.env.globals))=false:=by rw[I.ok.kind];rfl
 have B:i<σ.length:=by rw[I.len];exact(C7.mp hi).1
 have cne:=I.cne
 have f:∀{a:Addr} {h':Heap},(∃o,s.heap.get? a=some o∧H a=none)→Heap.SameBut a s.heap h'→fV X.prog X.w H h':=fun{a h'} ha hs b ob e=>by
  obtain⟨_,_,g⟩:=ha
  refine(I.hok b ob e).stay (fun c w' hc q=>(hs.2 c ?_).trans q) (fun _ q=>q) fun _ _ q=>q
  rintro rfl
  rcases hc with rfl|hc
  ·rw[g] at e;cases e
  ·rw[g] at hc;cases hc
 rcases hx with hk|hk
 ·refine wpAny_storeName_local hk hn (fun h' hn' hs=>?_) D
  obtain⟨oL,_,_,F,_⟩:=id hn
  refine h _ ⟨I.ok,I.os,I.bare,⟨fun b o e n hb hx=>?_,fun b o e n hb hx=>?_,I.base.free,fun b o e hx=>?_,I.base.tups,I.base.frzs,I.base.tbls⟩,⟨_,hn',fun j y v' e1 e2 e3=>?_⟩,fun y c e=>?_,I.free,I.freeC,fun p hp=>?_,f ⟨oL,F,I.free⟩ hs,by simpa using I.len⟩ ⟨_,hs,.inl rfl⟩
  ·exact(hs.2 b (C6 (Dv (CS e) I.ok.above))).trans (I.base.keep b o e n hb hx)
  ·obtain⟨sl,e1⟩:=I.base.slot b o e n hb hx
   exact⟨sl,(hs.2 b (C6 (Dv (CS e) I.ok.above))).trans e1⟩
  ·obtain⟨o',e1⟩:=I.base.there b o e hx
   exact⟨o',(hs.2 b (C6 (Dv (CS e) I.ok.above))).trans e1⟩
  ·by_cases hj:j=i
   ·subst hj
    rw[hi] at e1;cases e1
    rw[List.getElem?_set_self B] at e2
    cases e2
    exact⟨u,r,.inl ⟨hk,by simp⟩⟩
   ·rw[List.getElem?_set_ne (CQ hj)] at e2
    obtain⟨u',r',q⟩:=hl j y v' e1 e2 e3
    refine⟨u',r',?_⟩
    rcases q with ⟨k,e⟩|⟨k,c,e,z⟩
    ·refine .inl ⟨k,?_⟩
     have:y≠x:=fun e=>hj (pI hN e1 (e▸hi))
     simp[this,e]
    ·exact .inr ⟨k,c,e,z.sameBut hs (cne y c e)⟩
  ·obtain⟨w',z⟩:=I.cell y c e
   exact⟨w',z.sameBut hs (cne y c e)⟩
  ·obtain⟨e,n,ne,nf,d⟩:=I.pin p hp
   exact⟨(hs.2 p.1 ne).trans e,n,ne,nf,d⟩
 ·have l:X.fn x=true:=by
   rcases hf with z|z
   ·exact z
   ·rw[z] at hk;cases hk
  obtain⟨c,hc⟩:=I.ok.has x (.inl hk)
  obtain⟨w',z⟩:=I.cell x c hc
  refine wpAny_storeName_cell I.ok.kind hk hc z (fun h' hc' hs=>?_)
  obtain⟨oc,w,C⟩:=id z
  refine h {s with heap:=h'} ⟨I.ok,I.os,I.bare,⟨fun b o e n hb hx=>?_,fun b o e n hb hx=>?_,I.base.free,fun b o e hx=>?_,I.base.tups,I.base.frzs,I.base.tbls⟩,⟨m,hn.sameBut hs (CQ (cne x c hc)),fun j y v' e1 e2 e3=>?_⟩,fun y c' e=>?_,I.free,I.freeC,fun p hp=>?_,f ⟨oc,w,I.freeC x c hc⟩ hs,by simpa using I.len⟩ ⟨c,hs,.inr hc⟩
  ·exact(hs.2 b (C6 (Dv (CS e) (I.ok.cab x c l hc)))).trans (I.base.keep b o e n hb hx)
  ·obtain⟨sl,e1⟩:=I.base.slot b o e n hb hx
   exact⟨sl,(hs.2 b (C6 (Dv (CS e) (I.ok.cab x c l hc)))).trans e1⟩
  ·obtain⟨o',e1⟩:=I.base.there b o e hx
   exact⟨o',(hs.2 b (C6 (Dv (CS e) (I.ok.cab x c l hc)))).trans e1⟩
  ·by_cases hj:j=i
   ·subst hj
    rw[hi] at e1;cases e1
    rw[List.getElem?_set_self B] at e2
    cases e2
    exact⟨u,r,.inr ⟨.inl hk,c,hc,hc'⟩⟩
   ·rw[List.getElem?_set_ne (CQ hj)] at e2
    obtain⟨u',r',q⟩:=hl j y v' e1 e2 e3
    refine⟨u',r',?_⟩
    rcases q with q|⟨k,c',e,z'⟩
    ·exact .inl q
    ·refine .inr ⟨k,c',e,z'.sameBut hs ?_⟩
     rintro rfl
     exact hj (pI hN e1 (I.ok.inj _ _ _ e hc▸hi))
  ·by_cases hcc:c'=c
   ·subst hcc;exact⟨_,hc'⟩
   ·obtain⟨w2,z2⟩:=I.cell y c' e
    exact⟨w2,z2.sameBut hs hcc⟩
  ·obtain⟨e,n,ne,nf,d⟩:=I.pin p hp
   refine⟨(hs.2 p.1 ?_).trans e,n,ne,nf,d⟩
   intro q
   rw[q,w] at e
   have q':oc=p.2:=Option.some.inj e
   exact d w' (by rw[←q'];exact C)
theorem pS{Q:Unit→Shared→Prop}(I:aL X pins σ H s)(hN:X.N.Nodup)(hi:X.N[i]?=some x)(hx:A7 X.env.scope x)(r:aT v u)
  (h:∀s',aL X pins (σ.set i (some v)) H s'→Q () s') (hf:X.fn x=true∨X.env.scope.names.lookup x=some .local:=by first|exact .inl rfl|exact .inr rfl|assumption):wpAny M A (storeName X.env x u) Q E s:=
 m_ I hN hi hx r (fun s' I' _=>h s' I') hf
theorem aL.call'(I:aL X pins σ H s)(ho:s'.os=s.os)(u:Un (sS X.stack) ch H H' s.heap s'.heap)(hok:fV X.prog X.w H' s'.heap)(hg:AllBare s'.gens)
  (hch:∀b∈ch,(b∈X.ex∨X.s₀.heap.objs.size≤b)∧b≠X.env.locals∧(∀x c,X.env.cells.lookup x=some c→c≠b)∧∀p∈X.pn++pins,p.1≠b):aL X pins σ H' s':=by
 obtain⟨h',g',d',t',o'⟩:=s'
 have e:o'=s.os:=ho
 subst e
 exact I.call (g':=g') (t':=t') (d':=d') u hok hg hch
end
abbrev XK:=Value→Option Addr→Hp→Prop
abbrev St:=List (Option V)
abbrev VK:=V→Hp→Prop
abbrev TE:=St→Hp→VK→Prop
abbrev TT:=St→Hp→(Bool→Hp→Prop)→Prop
abbrev TA:=St→Hp→(List V→Hp→Prop)→Prop
structure eK where
 nx:St→Hp→Prop
 rt:VK
 bk:St→Hp→Prop:=fun _ _=>False
 ct:St→Hp→Prop:=fun _ _=>False
abbrev TS:=eK→St→Hp→Prop
def EP (X:Cx) (pins:List (Addr×Obj)) (σ:St) (Q:VK) (u:Value) (s':Shared):Prop:=∃v H',aL X pins σ H' s'∧aT v u∧Q v H'
def TP (X:Cx) (pins:List (Addr×Obj)) (σ:St) (Q:Bool→Hp→Prop) (b:Bool) (s':Shared):Prop:=∃H',aL X pins σ H' s'∧Q b H'
def AP (X:Cx) (pins:List (Addr×Obj)) (σ:St) (Q:List V→Hp→Prop) (us:List Value) (s':Shared):Prop:=∃vs H',aL X pins σ H' s'∧bh vs us∧Q vs H'
def SP (X:Cx) (pins:List (Addr×Obj)) (D:eK) (f:Flow) (s':Shared):Prop:=
 match f with
 | .next=>∃σ' H',aL X pins σ' H' s'∧D.nx σ' H'
 | .brk=>∃σ' H',aL X pins σ' H' s'∧D.bk σ' H'
 | .cont=>∃σ' H',aL X pins σ' H' s'∧D.ct σ' H'
 | .ret u=>∃v σ' H',aL X pins σ' H' s'∧aT v u∧D.rt v H'
def PE (X:Cx) (e:Expr) (t:TE):Prop:=
 ∀(pins:List (Addr×Obj)) (s:Shared) (σ:St) (H:Hp) (Q:VK),aL X pins σ H s→t σ H Q→wpAny (model X.prog X.w) X.A (eval e X.env) (EP X pins σ Q) X.xe s
def PT (X:Cx) (e:Expr) (t:TT):Prop:=
 ∀(pins:List (Addr×Obj)) (s:Shared) (σ:St) (H:Hp) (Q:Bool→Hp→Prop),aL X pins σ H s→t σ H Q→wpAny (model X.prog X.w) X.A (isTrue e X.env (eval e X.env)) (TP X pins σ Q) X.xe s
def PW (X:Cx) (e:Expr) (t:TT):Prop:=
 ∀(whole:Sem Value) (pins:List (Addr×Obj)) (s:Shared) (σ:St) (H:Hp) (Q:Bool→Hp→Prop),aL X pins σ H s→t σ H Q→wpAny (model X.prog X.w) X.A (isTrue e X.env whole) (TP X pins σ Q) X.xe s
theorem PW.pt(h:PW X e t):PT X e t:=h _
def PA (X:Cx) (es:List Expr) (t:TA):Prop:=
 ∀(pos:Pos) (pins:List (Addr×Obj)) (s:Shared) (σ:St) (H:Hp) (Q:List V→Hp→Prop),aL X pins σ H s→t σ H Q→wpAny (model X.prog X.w) X.A (spliced (backTo pos (starEach es X.env))) (AP X pins σ Q) X.xe s
def PS (X:Cx) (st:Stmt) (t:TS):Prop:=
 ∀(pins:List (Addr×Obj)) (s:Shared) (σ:St) (H:Hp) (D:eK),aL X pins σ H s→t D σ H→wpAny (model X.prog X.w) X.A (exec st X.env) (SP X pins D) X.xe s
def sG (X:Cx) (st:List Stmt) (t:TS):Prop:=
 ∀(pins:List (Addr×Obj)) (s:Shared) (σ:St) (H:Hp) (D:eK),aL X pins σ H s→t D σ H→wpAny (model X.prog X.w) X.A (execs st X.env) (SP X pins D) X.xe s
theorem bR {α:Type}{t:Sem α}{Q Q':α→Shared→Prop}(h:wpAny M A t Q E s)(hQ:∀a s,Q a s→Q' a s):wpAny M A t Q' E s:=Dy h hQ fun _ _ x=>x
section
variable {X:Cx}
theorem BQ(ha:PE X a ta)(hb:PE X b tb){pins:List (Addr×Obj)}{s:Shared}{σ:St}{H:Hp}{R:V→V→Hp→Prop}(I:aL X pins σ H s)(h:ta σ H fun x H1=>tb σ H1 fun y H2=>R x y H2)
  {α:Type} {Q:α→Shared→Prop} {f:Value→Value→Sem α}
  (hf:∀v u s2 x y H2,aL X pins σ H2 s2→aT x v→aT y u→R x y H2→wpAny (model X.prog X.w) X.A (f v u) Q X.xe s2):
  wpAny (model X.prog X.w) X.A (eval a X.env) (fun v s₁=>wpAny (model X.prog X.w) X.A (eval b X.env) (fun u s₂=>wpAny (model X.prog X.w) X.A (f v u) Q X.xe s₂) X.xe s₁) X.xe s:=by
 refine bR (ha pins s σ H _ I h) fun v s1 ⟨x,H1,I1,r1,q1⟩=>?_
 refine bR (hb pins s1 σ H1 _ I1 q1) fun u s2 ⟨y,H2,I2,r2,q2⟩=>?_
 exact hf v u s2 x y H2 I2 r1 r2 q2
def bQ (i:Nat):TE:=fun σ H Q=>∃v,σ[i]?=some (some v)∧Q v H
def tC (v:V):TE:=fun _ H Q=>Q v H
theorem zV(hN:X.N[i]?=some x)(hv:BY X.env.scope x)(hd:(x==("__debug__" :Str))=false:=by decide)(hcd:(x==("__classdict__" :Str))=false:=by decide):PE X (.Name x pos) (bQ i):=by
 intro pins s σ H Q I h
 obtain⟨v,e,h⟩:=h
 obtain⟨m,hn,hl⟩:=I.loc
 obtain⟨u,r,l⟩:=hl i x v hN e hv
 have a:EP X pins σ Q u s:=⟨v,H,I,r,h⟩
 rcases l with ⟨hk,hm⟩|⟨hk,c,hc,hcell⟩
 ·exact wpAny_Name (wpAny_loadName_local I.ok.kind hk hn hm a) hd
 ·rcases hk with hk|hk
  ·exact wpAny_Name (wpAny_loadName_cell I.ok.kind hk hc hcell a) hd
  ·exact wpAny_Name (wpAny_loadName_free I.ok.kind hk hc hcell a hcd) hd
theorem ai {i j pos}:PE X (.Constant (.int i) j pos) (tC (.int i)):=fun _ _ _ H _ I h=>wpAny_Constant_int ⟨.int i,H,I.tok _,⟨_,rfl⟩,h⟩
theorem dy {b j pos}:PE X (.Constant (.bool b) j pos) (tC (.bl b)):=fun _ _ _ H _ I h=>Constant_bool ⟨.bl b,H,I,rfl,h⟩
theorem o_ {j pos}:PE X (.Constant .none j pos) (tC .non):=fun _ _ _ H _ I h=>Constant_none ⟨.non,H,I,rfl,h⟩
theorem oV {x j pos}:PE X (.Constant (.str x) j pos) (tC (.str x)):=fun _ _ _ H _ I h=>Calls.Constant_str ⟨.str x,H,I.tok _,⟨_,rfl⟩,h⟩
def Gl (X:Cx) (x:Str):Prop:=X.env.kindOf x=some .globalImplicit
theorem ky{pins:List (Addr×Obj)}(I:aL X pins σ H s)(hg:Gl X x)(hm:X.mg x=some u)(h:Q u s)
  (hd:(x==("__debug__" :Str))=false:=by decide):wpAny (model X.prog X.w) X.A (eval (.Name x pos) X.env) Q E s:=
 Calls.Name_function_global I.ok.kind hg (Calls.loadGlobal_global (by rw[I.ok.glob];exact I.mod.glob.keeps I.bk) hm h) hd
theorem fH{pins:List (Addr×Obj)}(I:aL X pins σ H s)(hg:Gl X x)(hm:X.mg x=none)(hv:bootBuiltins x=some u)(h:Q u s)
  (hn:x≠ "__name__" :=by decide) (hd:(x==("__debug__" :Str))=false:=by decide):wpAny (model X.prog X.w) X.A (eval (.Name x pos) X.env) Q E s:=by
 obtain⟨mb,h1,h2⟩:=I.mod.blt
 exact Calls.Name_function_global I.ok.kind hg (Calls.loadGlobal_builtin (by rw[I.ok.glob];exact I.mod.glob.keeps I.bk) hm (by rw[I.ok.blt];exact h1.keeps I.bk) ((h2 x hn).trans hv) h) hd
theorem xy(hg:Gl X x)(hm:X.mg x=some u)(r:aT v u)(hd:(x==("__debug__" :Str))=false:=by decide):PE X (.Name x pos) (tC v):=
 fun _ _ _ H _ I h=>ky I hg hm ⟨v,H,I,r,h⟩ hd
theorem fN(hg:Gl X x)(hm:X.mg x=none)(hv:bootBuiltins x=some u)(r:aT v u)(hn:x≠ "__name__" :=by decide)(hd:(x==("__debug__" :Str))=false:=by decide):PE X (.Name x pos) (tC v):=
 fun _ _ _ H _ I h=>fH I hg hm hv ⟨v,H,I,r,h⟩ hn hd
variable {a b:Expr} {ta tb:TE} {pos:Pos}
def PC (X:Cx) (op:CmpOp) (a b:Expr) (t:TE):Prop:=
 ∀(pins:List (Addr×Obj)) (s:Shared) (σ:St) (H:Hp) (Q:VK),aL X pins σ H s→t σ H Q→
  wpAny (model X.prog X.w) X.A (eval a X.env) (fun v s₁=>wpAny (model X.prog X.w) X.A (eval b X.env) (fun u s₂=>wpAny (model X.prog X.w) X.A (compareOp op v u) (EP X pins σ Q) X.xe s₂) X.xe s₁) X.xe s
theorem qy (b:Expr){op:CmpOp}(h:op≠.In)(h2:op≠.NotIn):behindInMarks op b=false:=by
 have e1:(op==CmpOp.In)=false:=by cases op<;>first|rfl|exact absurd rfl h
 have e2:(op==CmpOp.NotIn)=false:=by cases op<;>first|rfl|exact absurd rfl h2
 cases b<;>simp[behindInMarks,e1,e2]
def tB (t:TE):TT:=fun σ H Q=>t σ H fun x H1=>∃c,x=.bl c∧Q c H1
theorem wg {op:CmpOp}(h:PC X op a b t)(h1:behindInMarks op b=false:=by first|exact qy _ (by decide) (by decide)|rfl):PE X (.Compare a [op] [b] pos) t:=fun pins s σ H Q I hw=>wpAny_Compare1 (h pins s σ H Q I hw) h1
theorem fI {op:CmpOp}(h:PC X op a b t)(h1:behindInMarks op b=false:=by first|exact qy _ (by decide) (by decide)|rfl):PT X (.Compare a [op] [b] pos) (tB t):=by
 intro pins s σ H Q I hw
 refine wpAny_isTrue_Compare1 (bR (h pins s σ H _ I hw) fun v s1 h1=>bR h1 fun u s2 h2=>bR h2 fun c s3 ⟨x,H1,I1,r1,q1⟩=>?_) h1
 obtain⟨d,rfl,q⟩:=q1
 cases r1
 exact Ec ⟨H1,I1,q⟩
theorem eI(h:PE X e t)(he:∀whole,isTrue e X.env whole=(do let v←whole;standAt e.pos;holding [v] (truthy v)):=by intro _;rfl):PT X e (tB t):=by
 intro pins s σ H Q I hw
 refine isTrue_plain (bR (h pins s σ H _ I hw) fun v s1 ⟨x,H1,I1,r1,q1⟩=>?_) (he _)
 obtain⟨d,rfl,q⟩:=q1
 cases r1
 exact Ec ⟨H1,I1,q⟩
variable {tA tB':TT} {bC:List Expr}
def Bh (t u:TT):TT:=fun σ H Q=>t σ H fun c H1=>if c=true then u σ H1 Q else Q false H1
def Bl (t u:TT):TT:=fun σ H Q=>t σ H fun c H1=>if c=true then Q true H1 else u σ H1 Q
def Bi (t:TT):TT:=fun σ H Q=>t σ H fun c H1=>Q (!c) H1
theorem iA (ha:PT X a tA):PW X (.BoolOp .And [a] pos) tA:=by
 intro wh pins s σ H Q I h
 refine isTrue_and (bR (ha pins s σ H Q I h) fun c s1 e=>?_)
 cases c with
 |true=>exact isTrue_and_nil e
 |false=>exact e
theorem dX (ha:PT X a tA):PW X (.BoolOp .Or [a] pos) tA:=by
 intro wh pins s σ H Q I h
 refine isTrue_or (bR (ha pins s σ H Q I h) fun c s1 e=>?_)
 cases c with
 |false=>exact isTrue_or_nil e
 |true=>exact e
theorem kO (ha:PT X a tA)(hb:PW X (.BoolOp .And (b::bC) pos) tB'):PW X (.BoolOp .And (a::b::bC) pos) (Bh tA tB'):=by
 intro wh pins s σ H Q I h
 refine isTrue_and (bR (ha pins s σ H _ I h) fun c s1 ⟨H1,I1,q1⟩=>?_)
 cases c with
 |true=>exact hb wh pins s1 σ H1 Q I1 q1
 |false=>exact⟨H1,I1,q1⟩
theorem d_ (ha:PT X a tA)(hb:PW X (.BoolOp .Or (b::bC) pos) tB'):PW X (.BoolOp .Or (a::b::bC) pos) (Bl tA tB'):=by
 intro wh pins s σ H Q I h
 refine isTrue_or (bR (ha pins s σ H _ I h) fun c s1 ⟨H1,I1,q1⟩=>?_)
 cases c with
 |true=>exact⟨H1,I1,q1⟩
 |false=>exact hb wh pins s1 σ H1 Q I1 q1
theorem eE (ha:PT X a tA):PT X (.UnaryOp .Not a pos) (Bi tA):=by
 intro pins s σ H Q I h
 exact isTrue_not (ha pins s σ H (fun c H1=>Q (!c) H1) I h)
def zi (ta tb:TE):TE:=fun σ H Q=>ta σ H fun x H1=>∃c,x=.bl c∧if c=true then tb σ H1 Q else Q (.bl false) H1
def vJ (ta:TE):TE:=fun σ H Q=>ta σ H fun x H1=>∃c,x=.bl c∧Q (.bl (!c)) H1
theorem o8 {op}{t:TE}(h:PE X a t):PE X (.BoolOp op [a] pos) t:=fun pins s σ H Q I hw=>BoolOp_one (h pins s σ H Q I hw)
theorem kK (ha:PE X a ta)(hb:PE X (.BoolOp .And (b::bC) pos) tb):PE X (.BoolOp .And (a::b::bC) pos) (zi ta tb):=by
 intro pins s σ H Q I h
 refine BoolOp_and (bR (ha pins s σ H _ I h) fun v s1 ⟨x,H1,I1,r1,q1⟩=>?_)
 obtain⟨c,rfl,q1⟩:=q1
 cases r1
 refine Ec ?_
 cases c with
 |true=>exact hb pins s1 σ H1 Q I1 q1
 |false=>exact⟨.bl false,H1,I1,rfl,q1⟩
theorem we (ha:PE X a ta):PE X (.UnaryOp .Not a pos) (vJ ta):=by
 intro pins s σ H Q I h
 refine UnaryOp_ (bR (ha pins s σ H _ I h) fun v s1 ⟨x,H1,I1,r1,q1⟩=>?_)
 obtain⟨c,rfl,q1⟩:=q1
 cases r1
 exact not_of (Ec ⟨.bl (!c),H1,I1,rfl,q1⟩)
def BE (t:TT) (ta tb:TE):TE:=fun σ H Q=>t σ H fun c H1=>if c=true then ta σ H1 Q else tb σ H1 Q
theorem kI(hc:PT X c tA)(ha:PE X a ta)(hb:PE X b tb):PE X (.IfExp c a b pos) (BE tA ta tb):=by
 intro pins s σ H Q I h
 refine wpAny_IfExp (bR (hc pins s σ H _ I h) fun d s1 ⟨H1,I1,q1⟩=>?_)
 cases d with
 |true=>exact ha pins s1 σ H1 Q I1 q1
 |false=>exact hb pins s1 σ H1 Q I1 q1
end
def bg (K:CJ) (H:Hp) (a:Addr) (xs:List V):Prop:=
 Rd H a (.lst xs)∨
  ∃(o:Obj) (its:Array Value) (n:Nat),K.lookup a=some o∧o.cls=.type "list" ∧o.dict=none∧o.data=.seq its n∧its.size≤sizeLine∧bh xs its.toList
def bH (K:CJ) (H:Hp) (a:Addr) (xs:List V):Prop:=
 Rd H a (.tup xs)∨
  ∃(o:Obj) (its:Array Value) (n:Nat),K.lookup a=some o∧o.cls=.type "tuple" ∧o.data=.seq its n∧its.size≤sizeLine∧bh xs its.toList
noncomputable def By:Value→Option V
 | .none=>some .non
 | .bool b=>some (.bl b)
 | .int i _=>some (.int i)
 | .str x _=>some (.str x)
 | .bytes b _=>some (.byt b)
 | .float b _=>some (.flt b)
 | .ref a=>some (.ref a)
 | .type n=>some (.ty n)
 |_=>none
theorem aT.abs(r:aT x u):By u=some x:=by
 cases x with
 |non=>cases r;rfl
 |bl _=>cases r;rfl
 |int _=>obtain⟨t,rfl⟩:=r;rfl
 |str _=>obtain⟨t,rfl⟩:=r;rfl
 |byt _=>obtain⟨t,rfl⟩:=r;rfl
 |flt _=>obtain⟨t,rfl⟩:=r;rfl
 |ref _=>cases r;rfl
 |ty _=>cases r;rfl
theorem aT.inj(r:aT x u)(q:aT y u):x=y:=Option.some.inj (r.abs.symm.trans q.abs)
theorem bh.inj:∀{xs ys:List V} {us:List Value},bh xs us→bh ys us→xs=ys
 |_,_,_,.nil,.nil=>rfl
 |_,_,_,.cons r t,.cons r' t'=>by rw[r.inj r',bh.inj t t']
section
variable {X:Cx} {pins:List (Addr×Obj)} {σ:St} {H:Hp} {s:Shared} {a:Addr} {xs ys:List V}
theorem bg.of {K:CJ}(h:H a=some (.lst xs)):bg K H a xs:=.inl (.inl h)
theorem bH.of {K:CJ}(h:H a=some (.tup xs)):bH K H a xs:=.inl (.inl h)
theorem aL.list (I:aL X pins σ H s)(h:bg X.K H a xs):∃its:List Value,bh xs its∧PlainL s.heap a its.toArray∧xs.length≤sizeLine:=by
 rcases h with h|⟨o,its,n,hk,hc,hd,hs,hz,r⟩
 ·obtain⟨z,its,n,r,e⟩:=h.ok I.hok
  exact⟨its,r,⟨_,n,e,rfl,rfl,rfl⟩,z⟩
 ·refine⟨its.toList,r,⟨o,n,I.kIn a o hk,hc,hd,by simpa using hs⟩,?_⟩
  have e:=r.length
  simp only[Di] at e
  lia
theorem aL.tuple (I:aL X pins σ H s)(h:bH X.K H a xs):∃its:List Value,bh xs its∧IsTup s.heap a its.toArray∧xs.length≤sizeLine:=by
 rcases h with h|⟨o,its,n,hk,hc,hs,hz,r⟩
 ·obtain⟨z,its,r,p⟩:=h.ok I.hok
  exact⟨its,r,p,z⟩
 ·refine⟨its.toList,r,⟨o,I.kIn a o hk,hc,n,by simpa using hs⟩,?_⟩
  have e:=r.length
  simp only[Di] at e
  lia
theorem aL.list_inj (I:aL X pins σ H s)(h:bg X.K H a xs)(h':bg X.K H a ys):xs=ys:=by
 obtain⟨b,r,⟨o,n,e,_,_,d⟩,_⟩:=I.list h
 obtain⟨its',r',⟨o',n',e',_,_,d'⟩,_⟩:=I.list h'
 rw[e] at e';cases e'
 rw[d] at d'
 injection d' with d1 _
 have:b=its':=by simpa using congrArg Array.toList d1
 subst this
 exact r.inj r'
theorem aL.tuple_inj (I:aL X pins σ H s)(h:bH X.K H a xs)(h':bH X.K H a ys):xs=ys:=by
 obtain⟨b,r,⟨o,e,_,n,d⟩,_⟩:=I.tuple h
 obtain⟨its',r',⟨o',e',_,n',d'⟩,_⟩:=I.tuple h'
 rw[e] at e';cases e'
 rw[d] at d'
 injection d' with d1 _
 have:b=its':=by simpa using congrArg Array.toList d1
 subst this
 exact r.inj r'
end
abbrev Cx.wish (X:Cx) (E:Value→Shared→Prop):Cx:={X with xe:=E}
abbrev Cx.nox (X:Cx):Cx:=X.wish fun _ _=>False
theorem Cx.Ok.wish {X:Cx}(ok:X.Ok)(E:Value→Shared→Prop):(X.wish E).Ok:=
 ⟨ok.mod,ok.kind,ok.glob,ok.blt,ok.above,ok.inj,ok.has,ok.cab,ok.hd,ok.frames,ok.stk,ok.exf,ok.bs,ok.bsz,ok.noex,ok.exfs,ok.funs,ok.frf⟩
theorem Cx.Ok.unwish {X:Cx}{E:Value→Shared→Prop}(ok:(X.wish E).Ok):X.Ok:=
 ⟨ok.mod,ok.kind,ok.glob,ok.blt,ok.above,ok.inj,ok.has,ok.cab,ok.hd,ok.frames,ok.stk,ok.exf,ok.bs,ok.bsz,ok.noex,ok.exfs,ok.funs,ok.frf⟩
section
variable {X:Cx} {pins:List (Addr×Obj)} {σ:St} {H:Hp} {s:Shared} {E:Value→Shared→Prop}
theorem aL.wish (I:aL X pins σ H s)(E:Value→Shared→Prop):aL (X.wish E) pins σ H s:=⟨I.ok.wish E,I.os,I.bare,I.base,I.loc,I.cell,I.free,I.freeC,I.pin,I.hok,I.len⟩
theorem aL.unwish (I:aL (X.wish E) pins σ H s):aL X pins σ H s:=⟨I.ok.unwish,I.os,I.bare,I.base,I.loc,I.cell,I.free,I.freeC,I.pin,I.hok,I.len⟩
theorem SP.unwish{f:Flow}(h:SP (X.wish E) pins D f s'):SP X pins D f s':=by
 cases f with
 |next=>obtain⟨σ',H',I,q⟩:=h;exact⟨σ',H',I.unwish,q⟩
 |brk=>obtain⟨σ',H',I,q⟩:=h;exact⟨σ',H',I.unwish,q⟩
 |cont=>obtain⟨σ',H',I,q⟩:=h;exact⟨σ',H',I.unwish,q⟩
 |ret u=>obtain⟨v,σ',H',I,r,q⟩:=h;exact⟨v,σ',H',I.unwish,r,q⟩
theorem sG.nox{st:List Stmt}(h:sG X.nox st t):sG X st t:=fun pins s σ H D I hw=>
 Dy (h pins s σ H D (I.wish _) hw) (fun _ _ q=>q.unwish) fun _ _ z=>False.elim z
end
section
variable {X:Cx} {st:Stmt} {bC:List Stmt} {t u:TS} {e:Expr} {te:TE} {pos:Pos}
def rX:TS:=fun D σ H=>D.nx σ H
def dk (t u:TS):TS:=fun D σ H=>t {D with nx:=u D} σ H
theorem aQ:sG X [] rX:=fun _ _ σ H _ I h=>wpAny_execs_nil ⟨σ,H,I,h⟩
theorem ao (h1:PS X st t)(h2:sG X bC u):sG X (st::bC) (dk t u):=by
 intro pins s σ H D I h
 refine wpAny_execs_cons (bR (h1 pins s σ H {D with nx:=u D} I h) fun f s1 q=>?_)
 cases f with
 |next=>
  obtain⟨σ',H',I',q⟩:=q
  exact h2 pins s1 σ' H' D I' q
 |ret v=>exact q
 |brk=>exact q
 |cont=>exact q
theorem aw (h1:PS X st t):sG X [st] t:=by
 intro pins s σ H D I h
 refine wpAny_execs_cons (bR (h1 pins s σ H D I h) fun f s1 q=>?_)
 cases f with
 |next=>exact wpAny_execs_nil q
 |ret v=>exact q
 |brk=>exact q
 |cont=>exact q
def Ai:TS:=fun D σ H=>D.bk σ H
theorem vg:PS X (.Break pos) Ai:=fun _ _ σ H _ I h=>wpAny_Break ⟨σ,H,I,h⟩
theorem aL.quiet {pins:List (Addr×Obj)}(I:aL X pins σ H s):interactive X.env=false:=by simp[interactive,I.ok.kind]
def v8 (te:TE):TS:=fun D σ H=>te σ H fun _ H1=>D.nx σ H1
theorem bS (he:PE X e te)(hs:swapsWith e none pos.line X.env=pure false:=by rfl):PS X (.Expr e pos) (v8 te):=by
 intro pins s σ H D I h
 exact wpAny_Expr_any (bR (he pins s σ H _ I h) fun v s1 ⟨x,H1,I1,r1,q1⟩=>⟨σ,H1,I1,q1⟩) I.quiet hs
def wU (te:TE):TS:=fun D σ H=>te σ H D.rt
theorem aP (he:PE X e te):PS X (.Return (some e) pos) (wU te):=by
 intro pins s σ H D I h
 exact wpAny_Return_some (bR (he pins s σ H _ I h) fun v s1 ⟨x,H1,I1,r1,q1⟩=>⟨x,σ,H1,I1,r1,q1⟩)
def my (c:TT) (t u:TS):TS:=fun D σ H=>c σ H fun b H1=>if b=true then t D σ H1 else u D σ H1
theorem bI(hc:PT X c tc)(ha:sG X a t)(hb:sG X b u):PS X (.If c a b pos) (my tc t u):=by
 intro pins s σ H D I h
 refine wpAny_If (bR (hc pins s σ H _ I h) fun d s1 ⟨H1,I1,q1⟩=>?_)
 cases d with
 |true=>exact ha pins s1 σ H1 D I1 q1
 |false=>exact hb pins s1 σ H1 D I1 q1
def zv:TS:=fun _ _ _=>False
theorem fe:PS X st zv:=fun _ _ _ _ _ _ h=>h.elim
end
abbrev TG:=V→St→Hp→(St→Hp→Prop)→Prop
abbrev zl:=List V→St→Hp→(St→Hp→Prop)→Prop
def PG (X:Cx) (target:Expr) (t:TG):Prop:=
 ∀(pins:List (Addr×Obj)) (s:Shared) (σ:St) (H:Hp) (v:V) (u:Value) (Q:St→Hp→Prop),aL X pins σ H s→aT v u→t v σ H Q→
  wpAny (model X.prog X.w) X.A (assign target X.env u) (fun _ s'=>∃σ' H',aL X pins σ' H' s'∧Q σ' H') X.xe s
def A0 (X:Cx) (ts:List Expr) (t:zl):Prop:=
 ∀(pins:List (Addr×Obj)) (s:Shared) (σ:St) (H:Hp) (vs:List V) (us:List Value) (Q:St→Hp→Prop),aL X pins σ H s→bh vs us→t vs σ H Q→
  wpAny (model X.prog X.w) X.A (assignInOrder ((assignEach ts X.env).map (·.2)) us) (fun _ s'=>∃σ' H',aL X pins σ' H' s'∧Q σ' H') X.xe s
abbrev AE:=V→V→V→Hp→(Hp→Prop)→Prop
def AW (X:Cx) (t:AE):Prop:=
 ∀(pins:List (Addr×Obj)) (s:Shared) (σ:St) (H:Hp) (o i v:V) (ov iv u:Value) (Q:Hp→Prop),aL X pins σ H s→aT o ov→aT i iv→aT v u→t o i v H Q→
  wpAny (model X.prog X.w) X.A (setItem ov iv u) (fun _ s'=>∃H',aL X pins σ H' s'∧Q H') X.xe s
section
variable {X:Cx} {pos:Pos}
def eL (i:Nat):TG:=fun v σ H Q=>Q (σ.set i (some v)) H
theorem aD(hN:X.N.Nodup)(hi:X.N[i]?=some x)(hx:A7 X.env.scope x)(hf:X.fn x=true∨X.env.scope.names.lookup x=some .local:=by first|exact .inl rfl|exact .inr rfl|assumption):PG X (.Name x pos) (eL i):=by
 intro pins s σ H v u Q I r h
 exact wpAny_assign_Name (pS I hN hi hx r (fun s' I'=>⟨_,H,I',h⟩) hf)
def A2:zl:=fun vs σ H Q=>vs=[]∧Q σ H
noncomputable def sQ (t:TG) (u:zl):zl:=fun vs σ H Q=>∃v r,vs=v::r∧t v σ H fun σ' H'=>u r σ' H' Q
theorem cO:A0 X [] A2:=by
 intro pins s σ H vs us Q I r h
 obtain⟨e,h⟩:=h
 subst e
 cases r
 exact assignInOrder_nil ⟨σ,H,I,h⟩
theorem aY{u:zl}(h1:PG X e t)(h2:A0 X es u)
  (hs:(assignEach (e::es) X.env).map (·.2)=assign e X.env::(assignEach es X.env).map (·.2):=by rfl):A0 X (e::es) (sQ t u):=by
 intro pins s σ H vs us Q I r h
 obtain⟨v,vr,e1,h⟩:=h
 subst e1
 cases r with
 |cons r rr=>
  rw[hs]
  refine assignInOrder_cons (bR (h1 pins s σ H _ _ _ I r h) fun _ s1 ⟨σ1,H1,I1,q1⟩=>?_)
  exact h2 pins s1 σ1 H1 _ _ Q I1 rr q1
def zW (K:CJ) (n:Nat) (t:zl):TG:=fun v σ H Q=>∃a xs,v=.ref a∧bH K H a xs∧xs.length=n∧t xs σ H Q
theorem dY{t:zl}(hc:X.calm=true)(h:A0 X es t)
  (hn:(assignEach es X.env).length=n:=by rfl) (hst:(assignEach es X.env).findIdx? (·.1)=none:=by rfl):PG X (.Tuple es k pos) (zW X.K n t):=by
 intro pins s σ H v u Q I r hw
 obtain⟨a,xs,e1,hq,hl,hw⟩:=hw
 subst e1
 cases r
 obtain⟨c,rv,ht,hz⟩:=I.tuple hq
 refine assign_Tuple_tuple (I.ok.hd hc) ht (by simp[hn,←hl,rv.length]) hst fun h' hx=>?_
 have I1:aL X pins σ H {s with heap:=h'}:=I.kept (t':=s.toks) fun b o e=>hx b o (C6 (CS e)) e
 exact h pins _ σ H xs _ Q I1 (by simpa using rv) hw
def B5 (to ti:TE) (t:AE):TG:=fun v σ H Q=>to σ H fun o H1=>ti σ H1 fun i H2=>t o i v H2 fun H3=>Q σ H3
theorem jw{t:AE}(ho:PE X o to)(hi:PE X i ti)(hs:AW X t)
  (ha:∀v,assign (.Subscript o i pos) X.env v=(do
   let ov←holding [v] (eval o X.env)
   let iv←holding [v,ov] (eval i X.env)
   standAt pos
   holding [v,ov,iv] (setItem ov iv v)
   release [v,ov,iv] []):=by intro _;rfl):PG X (.Subscript o i pos) (B5 to ti t):=by
 intro pins s σ H v u Q I r h
 rw[ha]
 refine CH (Dz (bR (ho pins s σ H _ I h) fun ov s1 ⟨x,H1,I1,r1,q1⟩=>?_))
 refine CH (Dz (bR (hi pins s1 σ H1 _ I1 q1) fun iv s2 ⟨y,H2,I2,r2,q2⟩=>?_))
 refine CH (wpAny_standAt (CH (Dz (bR (hs pins s2 σ H2 x y v ov iv u _ I2 r1 r2 r q2) fun _ s3 ⟨H3,I3,q3⟩=>?_))))
 exact wpAny_release ⟨σ,H3,I3,q3⟩
def iI (te:TE) (g:TG):TS:=fun D σ H=>te σ H fun x H1=>g x σ H1 D.nx
theorem dz(he:PE X e te)(hg:PG X tg g)(hs:swapsWithSole [tg] e pos.line X.env=pure false:=by rfl)(hw:swappedStores [tg] e X.env=pure none:=by rfl)
  (h1:(assignEach [tg] X.env).map (·.2)=[assign tg X.env]:=by rfl):PS X (.Assign [tg] e pos) (iI te g):=by
 intro pins s σ H D I h
 refine wpAny_Assign_stores (bR (he pins s σ H _ I h) fun v s1 ⟨x,H1,I1,r1,q1⟩=>?_) hs hw
 rw[h1]
 exact bR (hg pins s1 σ H1 x v _ I1 r1 q1) fun _ s2 q=>q
theorem aO(hN:X.N.Nodup)(hi:X.N[i]?=some x)(hx:A7 X.env.scope x)(he:PE X e te)(hs:swapsWith e (some (.Name x pos')) pos.line X.env=pure false:=by rfl)(hf:X.fn x=true∨X.env.scope.names.lookup x=some .local:=by first|exact .inl rfl|exact .inr rfl|assumption):
  PS X (.Assign [.Name x pos'] e pos) (iI te (eL i)):=by
 intro pins s σ H D I h
 refine wpAny_Assign_Name (bR (he pins s σ H _ I h) fun v s1 ⟨y,H1,I1,r1,q1⟩=>?_) hs
 exact pS I1 hN hi hx r1 (fun s2 I2=>⟨_,H1,I2,q1⟩) hf
end
section
variable {X:Cx} {pos:Pos}
def rC (c:TT) (tb:TS):TS:=fun D σ H=>∃W:Nat→St→Hp→Prop,(∃m,W m σ H)∧∀m σ H,W m σ H→
 c σ H fun b H1=>if b=true then∃N:St→Hp→Prop,(∀σ' H',N σ' H'→∃m',m'<m∧W m' σ' H')∧tb {D with nx:=N,ct:=N,bk:=D.nx} σ H1 else D.nx σ H1
theorem gq(hp:PassesOwn (model X.prog X.w) X.A X.env X.xe)(hc:PT X c tc)(hb:sG X body tb):PS X (.While c body [] pos) (rC tc tb):=by
 intro pins s σ H D I h
 obtain⟨W,⟨m0,w0⟩,a⟩:=h
 refine wpAny_While (codeAny_whileLoop (fun n s'=>∃σ' H',aL X pins σ' H' s'∧W n σ' H') ?_ m0 ⟨σ,H,I,w0⟩)
 rintro n s1 ⟨σ1,H1,I1,w1⟩
 refine EG hp (bR (hc pins s1 σ1 H1 _ I1 (a n σ1 H1 w1)) fun b s2 ⟨H2,I2,q2⟩=>?_)
 cases b with
 |true=>
  obtain⟨N,hN,q2⟩:=q2
  rw[if_pos rfl]
  refine EG hp (bR (hb pins s2 σ1 H2 _ I2 q2) fun f s3 q3=>?_)
  cases f with
  |next=>
   obtain⟨σ3,H3,I3,n3⟩:=q3
   obtain⟨m',hm,w3⟩:=hN σ3 H3 n3
   exact⟨m',hm,σ3,H3,I3,w3⟩
  |cont=>
   obtain⟨σ3,H3,I3,n3⟩:=q3
   obtain⟨m',hm,w3⟩:=hN σ3 H3 n3
   exact⟨m',hm,σ3,H3,I3,w3⟩
  |brk=>exact q3
  |ret v=>exact q3
 |false=>
  rw[if_neg C0]
  exact wpAny_execs_nil ⟨σ1,H2,I2,q2⟩
end
structure It where
 go:Nat→Hp→Prop
 yld:Nat→Hp→V→Hp→Prop
 stop:Nat→Hp→Prop
def jk (X:Cx) (pins:List (Addr×Obj)) (H:Hp) (b:Addr):Prop:=
 H b=none∧b≠X.env.locals∧b∉X.fs∧(b∈X.ex∨X.s₀.heap.objs.size≤b)∧(∀x c,X.env.cells.lookup x=some c→c≠b)∧∀p∈X.pn++pins,p.1≠b
theorem aL.fpOk{pins:List (Addr×Obj)}(I:aL X pins σ H s)(hb:s.heap.objs.size≤b)(hn:H' b=none):jk X pins H' b:=by
 refine⟨hn,DY (Dv I.lt hb),I.nofs hb,.inr (Df I.sz hb),fun x c e z=>?_,fun p hp z=>?_⟩
 ·obtain⟨v,q⟩:=I.cell x c e
  exact absurd (Dv q.lt (by rw[z];exact hb)) (DL _)
 ·exact absurd (Dv (CS (I.pin p hp).1) (by rw[z];exact hb)) (DL _)
structure oZ (P:Program) (w:World) (K:CJ) (tg:Expr) (J:It) (fp:List Addr) (it:Addr) (tn:Nat→Heap→Prop):Prop where
 mem:it∈fp
 obj:∀i h,tn i h→∀b∈fp,∃o,h.get? b=some o∧∀v,o.data≠.cell v
 keep:∀i h h',tn i h→(∀b∈fp,∀o,h.get? b=some o→h'.get? b=some o)→tn i h'
 item:∀(X:Cx),X.prog=P→X.w=w→X.K=K→X.calm=true→∀(i:Nat) (pins:List (Addr×Obj)) (s:Shared) (σ:St) (H:Hp) (E:Value→Shared→Prop),aL X pins σ H s→(∀b∈fp,jk X pins H b)→tn i s.heap→J.go i H→
  wpAny (model P w) X.A (pyNext (.ref it)) (fun r s1=>∃u,r=some u∧
   wpAny (model P w) X.A (letOwnedTupleGo tg (.ref it) u) (fun _ s2=>∃x H',aL X pins σ H' s2∧aT x u∧J.yld i H x H'∧tn (i+1) s2.heap∧∀b∈fp,H' b=none) E s1) E s
 done:∀(X:Cx),X.prog=P→X.w=w→X.K=K→X.calm=true→∀(i:Nat) (pins:List (Addr×Obj)) (s:Shared) (σ:St) (H:Hp) (E:Value→Shared→Prop),aL X pins σ H s→(∀b∈fp,jk X pins H b)→tn i s.heap→J.stop i H→
  wpAny (model P w) X.A (pyNext (.ref it)) (fun r s1=>r=none∧aL X pins σ H s1) E s
 self:∀(A:Around) (i:Nat) (s:Shared) (Q:Value→Shared→Prop) (E:Value→Shared→Prop),tn i s.heap→Q (.ref it) s→wpAny (model P w) A (pyIter (.ref it)) Q E s
abbrev TI:=St→Hp→(It→Hp→Prop)→Prop
def Cd (X:Cx) (pins:List (Addr×Obj)) (σ:St) (tg:Expr) (R:It→Hp→Prop) (itv:Value) (s2:Shared):Prop:=
 ∃(it:Addr) (fp:List Addr) (tn:Nat→Heap→Prop) (J:It) (H':Hp),itv=.ref it∧aL X pins σ H' s2∧oZ X.prog X.w X.K tg J fp it tn∧tn 0 s2.heap∧(∀b∈fp,jk X pins H' b)∧R J H'
def PI (X:Cx) (tg iter:Expr) (wi:TI):Prop:=
 ∀(pins:List (Addr×Obj)) (s:Shared) (σ:St) (H:Hp) (R:It→Hp→Prop),aL X pins σ H s→wi σ H R→
  wpAny (model X.prog X.w) X.A (eval iter X.env) (fun v s1=>wpAny (model X.prog X.w) X.A (pyIter v) (Cd X pins σ tg R) X.xe s1) X.xe s
theorem pT{it:Addr}{n:String}{Q:Unit→Shared→Prop}(ho:s.heap.get? it=some o)(hc:o.cls=.type n)(hd:o.data=.fields vs)
  (hn:["enumerate", "zip", "dict_itemiterator", "dict_reverseitemiterator", "odict_iterator", "itertools.zip_longest", "itertools.pairwise"].contains n=false) (hQ:Q () s):wpAny M A (letOwnedTupleGo tg (.ref it) u) Q E s:=by
 unfold letOwnedTupleGo
 cases tg<;>first
  |exact CI hQ
  |(cases u<;>first
    |exact CI hQ
    |(refine CH (wpAny_load ho ?_)
      rw[hc,hd]
      show wpAny M A (if (["enumerate", "zip", "dict_itemiterator", "dict_reverseitemiterator", "odict_iterator", "itertools.zip_longest", "itertools.pairwise"].contains n&&vs[0]?==some (rawInt _))=true then _ else _) Q E s
      rw[if_neg (by intro h;rw[hn,Bool.false_and] at h;cases h)]
      exact CI hQ))
noncomputable def uM (K:CJ) (a:Addr):It:=
 ⟨fun i H=>∃xs x,bg K H a xs∧xs[i]?=some x,fun i H x H'=>H'=H∧∀xs,bg K H a xs→xs[i]?=some x,fun i H=>∃xs,bg K H a xs∧xs.length≤i⟩
noncomputable def tK (lo:Int) (n:Nat):It:=⟨fun i _=>i<n,fun i H x H'=>H'=H∧x=.int (lo+i),fun i _=>n≤i⟩
theorem ui {P:Program}{w:World}{K:CJ}{tg:Expr}(a it:Addr):oZ P w K tg (uM K a) [it] it (fun i h=>h.IsListIter it a i) where
 mem:=by simp
 obj:=fun i h st b hb=>by
  have e:b=it:=by simpa using hb
  subst e
  obtain⟨o,e,c,d⟩:=st
  exact⟨o,e,fun v z=>by rw[d] at z;cases z⟩
 keep:=fun i h h' st k=>st.at fun o e=>k it (by simp) o e
 item:=by
  intro X hP hw hK hc i pins s σ H E I hf st hg
  subst hP hw hK
  obtain⟨xs,x,hq,hx⟩:=hg
  obtain⟨f,rv,p,hz⟩:=I.list hq
  obtain⟨u,hu,ru⟩:=rv.get hx
  obtain⟨f0,f1,f2,f3,f4,f5⟩:=hf it (by simp)
  refine wpAny_pyNext_list_item st p.isList (x:=u) (by simpa using hu) fun h' st' sb=>?_
  have I1:aL X pins σ H {s with heap:=h'}:=I.turned (t':=s.toks) (fun b o hb e=>(sb.2 b hb).trans e) f0 f1 f3 f4 f5
  obtain⟨o,e,c,d⟩:=id st'
  exact⟨u,rfl,pT (s:={s with heap:=h'}) e c d (by decide) ⟨x,H,I1,ru,⟨rfl,fun ys hy=>by rw[I.list_inj hy hq];exact hx⟩,st',fun b hb=>(hf b hb).1⟩⟩
 done:=by
  intro X hP hw hK hc i pins s σ H E I hf st hg
  subst hP hw hK
  obtain⟨xs,hq,hx⟩:=hg
  obtain⟨f,rv,p,hz⟩:=I.list hq
  obtain⟨f0,f1,f2,f3,f4,f5⟩:=hf it (by simp)
  have hl:=rv.length
  exact wpAny_pyNext_list_end (I.ok.hd hc) st p.isList (by simp;lia) fun h' eb=>⟨rfl,I.turned (t':=s.toks) (fun b o hb e=>eb b o hb e) f0 f1 f3 f4 f5⟩
 self:=fun _ _ _ _ _ st h=>wpAny_pyIter_listiter st h
theorem rT {P:Program}{w:World}{K:CJ}{tg:Expr}(it:Addr)(lo:Int)(n:Nat):oZ P w K tg (tK lo n) [it] it (fun i h=>IsRangeIter h it (lo+(i:Nat)*1) ((n:Int) - (i:Nat)) 1) where
 mem:=by simp
 obj:=fun i h st b hb=>by
  have e:b=it:=by simpa using hb
  subst e
  exact⟨_,st,fun v z=>by
   have z':Data.fields _=Data.cell v:=z
   cases z'⟩
 keep:=fun i h h' st k=>k it (by simp) _ st
 item:=by
  intro X hP hw hK hc i pins s σ H E I hf st hg
  subst hP hw hK
  obtain⟨f0,f1,f2,f3,f4,f5⟩:=hf it (by simp)
  have W:=Walks.range (prog:=X.prog) (w:=X.w) (I.ok.hd hc) it lo 1 n
  refine W.item i s _ _ hg st fun v h' tk hv st' kk=>?_
  obtain⟨t,rfl⟩:=hv
  have I1:aL X pins σ H {s with heap:=h',toks:=tk}:=I.turned (fun b o hb e=>kk b o (by simpa using hb) e) f0 f1 f3 f4 f5
  refine⟨_,rfl,pT (s:={s with heap:=h',toks:=tk}) (n:= "range_iterator") st' rfl rfl (by decide) ⟨.int (lo+i),H,I1,⟨t,?_⟩,⟨rfl,rfl⟩,st',fun b hb=>(hf b hb).1⟩⟩
  rw[Int.mul_one]
 done:=by
  intro X hP hw hK hc i pins s σ H E I hf st hg
  subst hP hw hK
  obtain⟨f0,f1,f2,f3,f4,f5⟩:=hf it (by simp)
  exact wpAny_pyNext_range_end (I.ok.hd hc) st (by have:n≤i:=hg;lia) fun h' eb=>⟨rfl,I.turned (t':=s.toks) (fun b o hb e=>eb b o hb e) f0 f1 f3 f4 f5⟩
 self:=fun _ _ _ _ _ st h=>wpAny_pyIter_rangeiter st h
section
variable {X:Cx} {tg:Expr}
def nR (K:CJ) (tl:TE):TI:=fun σ H R=>tl σ H fun x H1=>∃a,x=.ref a∧(∃xs,bg K H1 a xs)∧R (uM K a) H1
theorem cg(hl:PE X l tl):PI X tg l (nR X.K tl):=by
 intro pins s σ H R I h
 refine bR (hl pins s σ H _ I h) fun v s1 ⟨x,H1,I1,r1,q1⟩=>?_
 obtain⟨a,e,⟨xs,hq⟩,q⟩:=q1
 subst e
 cases r1
 obtain⟨c,rv,p,hz⟩:=I1.list hq
 refine wpAny_pyIter_list p.isList ?_
 refine⟨s1.heap.objs.size,[s1.heap.objs.size],_,_,H1,rfl,I1.kept (t':=s1.toks) fun b o e=>CO _ e,ui a _,⟨_,C4 _ rfl,rfl,rfl⟩,fun b hb=>?_,q⟩
 have e:b=s1.heap.objs.size:=by simpa using hb
 subst e
 exact I1.fpOk (CM _) (I1.hok.fresh (CM _))
theorem qb {pins:List (Addr×Obj)}{σ:St}{H:Hp}{s:Shared}{R:It→Hp→Prop}{E:Value→Shared→Prop}{lo hi:Int}{t u v:Tok}{tk:Nat}(I:aL X pins σ H s)(h1: -(2^62)≤lo)(h2:lo<2^62)(h3: -(2^62)≤hi)(h4:hi<2^62)
  (q:R (tK lo (hi - lo).toNat) H):wpAny (model X.prog X.w) X.A (pyIter (.ref s.heap.objs.size)) (Cd X pins σ tg R) E {s with heap:=s.heap.push {cls:=.type "range",data:=.fields #[.int lo t,.int hi u,.int 1 v]},toks:=tk}:=by
 refine wpAny_pyIter_range (IsRange.new ..) (small_one h1 h2 h3 h4) ?_
 have I1:aL X pins σ H {s with heap:=s.heap.push {cls:=.type "range",data:=.fields #[.int lo t,.int hi u,.int 1 v]},toks:=tk}:=I.kept fun b o e=>CO _ e
 refine⟨(s.heap.push {cls:=.type "range",data:=.fields #[.int lo t,.int hi u,.int 1 v]}).objs.size,[(s.heap.push {cls:=.type "range",data:=.fields #[.int lo t,.int hi u,.int 1 v]}).objs.size],_,_,H,rfl,
  I1.kept (t':=tk) fun b o e=>CO _ e,rT _ lo (hi - lo).toNat,?_,fun b hb=>?_,q⟩
 ·have e1:lo+((0:Nat):Int)*1=lo:=by simp
  have e2:(((hi - lo).toNat:Nat):Int) - ((0:Nat):Int)=Builtin.Range.rangeSize lo hi 1:=by rw[rangeSize_one];split<;>lia
  show IsRangeIter _ _ (lo+((0:Nat):Int)*1) ((((hi - lo).toNat:Nat):Int) - ((0:Nat):Int)) 1
  rw[e1,e2]
  exact C4 _ rfl
 ·have e:b=(s.heap.push {cls:=.type "range",data:=.fields #[.int lo t,.int hi u,.int 1 v]}).objs.size:=by simpa using hb
  subst e
  exact I1.fpOk (CM _) (I1.hok.fresh (CM _))
def pA (ta:TA):TI:=fun σ H R=>ta σ H fun vs H1=>∃j:Int,vs=[.int j]∧ -(2^62)≤j∧j<2^62∧R (tK 0 j.toNat) H1
def zj (ta:TA):TI:=fun σ H R=>ta σ H fun vs H1=>∃i j:Int,vs=[.int i,.int j]∧(-(2^62)≤i∧i<2^62∧ -(2^62)≤j∧j<2^62)∧R (tK i (j - i).toNat) H1
theorem cG(hg:Gl X "range")(hm:X.mg "range" =none)(ha:PA X [a] ta)(hs:starEach [a] X.env=[(false,eval a X.env)]:=by rfl):PI X tg (.Call (.Name "range" p) [a] [] pos) (pA ta):=by
 intro pins s σ H R I h
 refine Call_ (fH I hg hm boot_range (PyProof.Rows.callWith_type1 (bR (ha pos pins s σ H _ I h) fun us s1 ⟨vs,H1,I1,r1,q1⟩=>?_) hs rfl))
 obtain⟨j,e,q1,q2,q⟩:=q1
 subst e
 cases r1 with
 |cons r rr=>
  cases rr
  obtain⟨t,rfl⟩:=r
  exact call_range_1 (qb I1 (by lia) (by lia) q1 q2 (by simpa using q))
theorem mS(hg:Gl X "range")(hm:X.mg "range" =none)(ha:PA X [a,b] ta)(hs:starEach [a,b] X.env=[(false,eval a X.env),(false,eval b X.env)]:=by rfl)(hs2:starEach [b] X.env=[(false,eval b X.env)]:=by rfl):
  PI X tg (.Call (.Name "range" p) [a,b] [] pos) (zj ta):=by
 intro pins s σ H R I h
 refine Call_ (fH I hg hm boot_range (PyProof.Rows.callWith_type1 (bR (ha pos pins s σ H _ I h) fun us s1 ⟨vs,H1,I1,r1,q1⟩=>?_) (by rw[hs,hs2]) (by rw[hs2];rfl)))
 obtain⟨i,j,e,⟨q1,q2,q3,q4⟩,q⟩:=q1
 subst e
 cases r1 with
 |cons r rr=>
  cases rr with
  |cons r' rr=>
   cases rr
   obtain⟨t,rfl⟩:=r
   obtain⟨t',rfl⟩:=r'
   exact call_range_2 (qb I1 q1 q2 q3 q4 q)
def jH (wi:TI) (g:TG) (tb:TS):TS:=fun D σ H=>wi σ H fun J H1=>∃W:Nat→Nat→St→Hp→Prop,(∃m,W 0 m σ H1)∧∀i m σ H,W i m σ H→
 (J.stop i H∧D.nx σ H)∨(J.go i H∧∃N:St→Hp→Prop,(∀σ' H',N σ' H'→∃m',m'<m∧W (i+1) m' σ' H')∧∀x H',J.yld i H x H'→g x σ H' fun σ2 H2=>tb {D with nx:=N,ct:=N,bk:=D.nx} σ2 H2)
noncomputable def lu (fp:List Addr) (h:Heap):List (Addr×Obj):=fp.filterMap fun b=>(h.get? b).map fun o=>(b,o)
theorem fD(hb:b∈fp)(e:h.get? b=some o):(b,o)∈lu fp h:=Fy.mpr ⟨b,hb,by rw[e];rfl⟩
theorem ux{p:Addr×Obj}(hp:p∈lu fp h):p.1∈fp∧h.get? p.1=some p.2:=by
 obtain⟨b,hb,e⟩:=Fy.mp hp
 cases q:h.get? b with
 |none=>rw[q] at e;cases e
 |some o=>
  rw[q] at e
  have e':(b,o)=p:=Option.some.inj e
  subst e'
  exact⟨hb,q⟩
theorem aL.pinned {pins:List (Addr×Obj)}(I:aL X pins σ H s)(hf:∀b∈fp,jk X pins H b)(ho:∀b∈fp,∃o,s.heap.get? b=some o∧∀v,o.data≠.cell v):aL X (pins++lu fp s.heap) σ H s:=
 I.pins_of fun p hp=>(Dm.mp hp).elim (fun z=>I.pin p (DZ _ z)) fun z=>by
  obtain⟨hb,e⟩:=ux z
  obtain⟨f0,f1,f2,_⟩:=hf p.1 hb
  obtain⟨o,e',d⟩:=ho p.1 hb
  rw[e] at e';cases e'
  exact⟨e,f0,f1,f2,d⟩
theorem aL.unpinned {pins pl:List (Addr×Obj)}(I:aL X (pins++pl) σ H s):aL X pins σ H s:=I.pins_of fun p hp=>I.pin p (DZ _ (ET _ hp))
theorem bP(hp:PassesOwn (model X.prog X.w) X.A X.env X.xe)(hc:X.calm=true)(hi:PI X tg iter wi)(hg:PG X tg g)(hb:sG X body tb)
  (hs:∀x,foldedSetIterable iter X.env x=pure x:=by intro _;rfl):PS X (.For tg iter body [] pos) (jH wi g tb):=by
 intro pins s σ H D I h
 refine wpAny_For (bR (hi pins s σ H _ I h) fun v s1 h1=>bR h1 fun itv s2 h2=>?_) hs
 obtain⟨it,fp,tn,J,H2,e,I2,T,p,f2,W,⟨m0,w0⟩,l⟩:=h2
 subst e
 have a:∀{H':Hp},(∀b∈fp,H' b=none)→∀b∈fp,jk X pins H' b:=fun hn b hb=>⟨hn b hb,(f2 b hb).2⟩
 refine codeAny_forLoop_any (fun n s'=>∃i σ' H',aL X pins σ' H' s'∧tn i s'.heap∧(∀b∈fp,H' b=none)∧W i n σ' H') ?_ m0 ⟨0,σ,H2,I2,p,fun b hb=>(f2 b hb).1,w0⟩
 rintro n s3 ⟨i,σ3,H3,I3,k,j,w3⟩
 rcases l i n σ3 H3 w3 with ⟨stop,qn⟩|⟨go,N,hN,step⟩
 ·refine EG hp (bR (T.done X rfl rfl rfl hc i pins s3 σ3 H3 X.xe I3 (a j) k stop) fun r s4 ⟨hr,I4⟩=>?_)
  subst hr
  exact wpAny_execs_nil ⟨σ3,H3,I4,qn⟩
 ·refine EG hp (bR (T.item X rfl rfl rfl hc i pins s3 σ3 H3 X.xe I3 (a j) k go) fun r s4 ⟨u,hr,h4⟩=>?_)
  subst hr
  refine EG hp (bR h4 fun _ s5 ⟨x,H5,I5,r5,y5,st5,fr5⟩=>?_)
  have I5':=I5.pinned (a fr5) (T.obj _ _ st5)
  refine EG hp (bR (hg _ s5 σ3 H5 x u _ I5' r5 (step x H5 y5)) fun _ s6 ⟨σ6,H6,I6,q6⟩=>?_)
  refine EG hp (bR (hb _ s6 σ6 H6 _ I6 q6) fun f s7 q7=>?_)
  have c:∀{σ7:St} {H7:Hp},aL X (pins++lu fp s5.heap) σ7 H7 s7→N σ7 H7→∃m,m<n∧∃i σ' H',aL X pins σ' H' s7∧tn i s7.heap∧(∀b∈fp,H' b=none)∧W i m σ' H':=fun{σ7 H7} I7 n7=>by
   obtain⟨m',hm,w7⟩:=hN σ7 H7 n7
   refine⟨m',hm,i+1,σ7,H7,I7.unpinned,T.keep _ _ _ st5 fun b hb o e=>(I7.pin (b,o) (DZ _ (DZ _ (fD hb e)))).1,fun b hb=>?_,w7⟩
   obtain⟨o,e,d⟩:=T.obj _ _ st5 b hb
   exact(I7.pin (b,o) (DZ _ (DZ _ (fD hb e)))).2.1
  cases f with
  |next=>obtain⟨σ7,H7,I7,n7⟩:=q7;exact c I7 n7
  |cont=>obtain⟨σ7,H7,I7,n7⟩:=q7;exact c I7 n7
  |brk=>obtain⟨σ7,H7,I7,q7⟩:=q7;exact⟨σ7,H7,I7.unpinned,q7⟩
  |ret v=>obtain⟨x7,σ7,H7,I7,r7,q7⟩:=q7;exact⟨x7,σ7,H7,I7.unpinned,r7,q7⟩
end
theorem cZ {K:CJ}{a:Addr}{xs:List V}{g:TG}{tb:TS}{D:eK}{σ:St}{H:Hp}(Pv:Nat→St→Hp→Prop)(h0:Pv 0 σ H)(hl:∀i σ H,i≤xs.length→Pv i σ H→bg K H a xs)
  (hs:∀i x σ H,xs[i]?=some x→Pv i σ H→g x σ H fun σ2 H2=>tb {D with nx:=Pv (i+1),ct:=Pv (i+1),bk:=D.nx} σ2 H2) (hd:∀σ H,Pv xs.length σ H→D.nx σ H):
  ∃W:Nat→Nat→St→Hp→Prop,(∃m,W 0 m σ H)∧∀i m σ H,W i m σ H→
   ((uM K a).stop i H∧D.nx σ H)∨((uM K a).go i H∧∃N:St→Hp→Prop,(∀σ' H',N σ' H'→∃m',m'<m∧W (i+1) m' σ' H')∧∀x H',(uM K a).yld i H x H'→g x σ H' fun σ2 H2=>tb {D with nx:=N,ct:=N,bk:=D.nx} σ2 H2):=by
 refine⟨fun i m σ H=>m=xs.length - i∧i≤xs.length∧Pv i σ H,⟨xs.length,by simp,C8 _,h0⟩,?_⟩
 rintro i m σ H ⟨rfl,hi,p⟩
 have q:=hl i σ H hi p
 by_cases hlt:i<xs.length
 ·refine .inr ⟨⟨xs,xs[i],q,by simp[hlt]⟩,Pv (i+1),fun σ' H' p'=>⟨xs.length - (i+1),by lia,rfl,hlt,p'⟩,fun x H' y=>?_⟩
  obtain⟨e,y⟩:=y
  subst e
  exact hs i x σ _ (y xs q) p
 ·have e:i=xs.length:=by lia
  subst e
  exact .inl ⟨⟨xs,q,CM _⟩,hd σ H p⟩
theorem cM {lo:Int}{n:Nat}{g:TG}{tb:TS}{D:eK}{σ:St}{H:Hp}(Pv:Nat→St→Hp→Prop)(h0:Pv 0 σ H)
  (hs:∀i σ H,i<n→Pv i σ H→g (.int (lo+i)) σ H fun σ2 H2=>tb {D with nx:=Pv (i+1),ct:=Pv (i+1),bk:=D.nx} σ2 H2) (hd:∀σ H,Pv n σ H→D.nx σ H):
  ∃W:Nat→Nat→St→Hp→Prop,(∃m,W 0 m σ H)∧∀i m σ H,W i m σ H→
   ((tK lo n).stop i H∧D.nx σ H)∨((tK lo n).go i H∧∃N:St→Hp→Prop,(∀σ' H',N σ' H'→∃m',m'<m∧W (i+1) m' σ' H')∧∀x H',(tK lo n).yld i H x H'→g x σ H' fun σ2 H2=>tb {D with nx:=N,ct:=N,bk:=D.nx} σ2 H2):=by
 refine⟨fun i m σ H=>m=n - i∧i≤n∧Pv i σ H,⟨n,by simp,C8 _,h0⟩,?_⟩
 rintro i m σ H ⟨rfl,hi,p⟩
 by_cases hlt:i<n
 ·refine .inr ⟨hlt,Pv (i+1),fun σ' H' p'=>⟨n - (i+1),by lia,rfl,hlt,p'⟩,fun x H' y=>?_⟩
  obtain⟨e,y⟩:=y
  subst e y
  exact hs i σ _ hlt p
 ·have e:i=n:=by lia
  subst e
  exact .inl ⟨CM _,hd σ H p⟩
abbrev R2:=V→V→Hp→VK→Prop
def g6 (X:Cx) (f:Value→Value→Sem Value) (r:R2):Prop:=
 ∀(pins:List (Addr×Obj)) (s:Shared) (σ:St) (H:Hp) (x y:V) (v u:Value) (Q:VK),aL X pins σ H s→aT x v→aT y u→r x y H Q→
  wpAny (model X.prog X.w) X.A (f v u) (EP X pins σ Q) X.xe s
def BA (X:Cx) (f:Value→Sem Value) (r:V→Hp→VK→Prop):Prop:=
 ∀(pins:List (Addr×Obj)) (s:Shared) (σ:St) (H:Hp) (x:V) (v:Value) (Q:VK),aL X pins σ H s→aT x v→r x H Q→
  wpAny (model X.prog X.w) X.A (f v) (EP X pins σ Q) X.xe s
def dO (X:Cx) (f:Value) (r:List V→Hp→VK→Prop):Prop:=
 ∀(pins:List (Addr×Obj)) (s:Shared) (σ:St) (H:Hp) (xs:List V) (us:List Value) (Q:VK),aL X pins σ H s→bh xs us→r xs H Q→
  wpAny (model X.prog X.w) X.A (call f us) (EP X pins σ Q) X.xe s
def fb (r:R2) (ta tb:TE):TE:=fun σ H Q=>ta σ H fun x H1=>tb σ H1 fun y H2=>r x y H2 Q
def BB (r:V→Hp→VK→Prop) (ta:TE):TE:=fun σ H Q=>ta σ H fun x H1=>r x H1 Q
def rI (C:Int→Int→Prop) (g:Int→Int→V):R2:=fun x y H Q=>∃i j,x=.int i∧y=.int j∧C i j∧Q (g i j) H
def rY (g:Int→Int→V):R2:=fun x y H Q=>∃i j,x=.int i∧y=.int j∧Q (g i j) H
def rU (g:Int→V):V→Hp→VK→Prop:=fun x H Q=>∃i,x=.int i∧Q (g i) H
section
variable {X:Cx} {a b c:Expr} {ta tb tc:TE} {pos:Pos}
theorem Ao (ha:PE X a ta)(hb:PE X b tb){pins:List (Addr×Obj)}{s:Shared}{σ:St}{H:Hp}{R:V→V→Hp→Prop}(I:aL X pins σ H s)
  (h:ta σ H fun x H1=>tb σ H1 fun y H2=>R x y H2) {Q:Value→Shared→Prop} {f:Value→Value→Sem Value}
  (hf:∀v u s2 x y H2,aL X pins σ H2 s2→aT x v→aT y u→R x y H2→wpAny (model X.prog X.w) X.A (f v u) Q X.xe s2):
  wpAny (model X.prog X.w) X.A (eval a X.env) (fun v s₁=>wpAny (model X.prog X.w) X.A (eval b X.env) (fun u s₂=>wpAny (model X.prog X.w) X.A (f v u) Q X.xe s₂) X.xe s₁) X.xe s:=by
 refine bR (ha pins s σ H _ I h) fun v s1 ⟨x,H1,I1,r1,q1⟩=>?_
 refine bR (hb pins s1 σ H1 _ I1 q1) fun u s2 ⟨y,H2,I2,r2,q2⟩=>?_
 exact hf v u s2 x y H2 I2 r1 r2 q2
theorem aF {op:Operator}(ho:g6 X (binaryOp op) r)(ha:PE X a ta)(hb:PE X b tb):PE X (.BinOp a op b pos) (fb r ta tb):=by
 intro pins s σ H Q I h
 exact wpAny_BinOp (Ao ha hb I h fun v u s2 x y H2 I2 rx ry q=>ho pins s2 σ H2 x y v u Q I2 rx ry q)
theorem vM {op:UnaryOp}{r:V→Hp→VK→Prop}(ho:BA X (unaryOp op) r)(ha:PE X a ta):PE X (.UnaryOp op a pos) (BB r ta):=by
 intro pins s σ H Q I h
 exact UnaryOp_ (bR (ha pins s σ H _ I h) fun v s1 ⟨x,H1,I1,r1,q1⟩=>ho pins s1 σ H1 x v Q I1 r1 q1)
theorem Bn {f:Value→Value→Sem Value}{C:Int→Int→Prop}{g:Int→Int→Int}
  (rule:∀(i j:Int) (t u:Tok) (s:Shared) (Q:Value→Shared→Prop) (E:Value→Shared→Prop),C i j→Q (.int (g i j) s.toks) {s with toks:=s.toks+1}→wpAny (model X.prog X.w) X.A (f (.int i t) (.int j u)) Q E s):
  g6 X f (rI C fun i j=> .int (g i j)):=by
 intro pins s σ H x y v u Q I rx ry h
 obtain⟨i,j,rfl,rfl,hc,q⟩:=h
 obtain⟨t,rfl⟩:=rx
 obtain⟨t',rfl⟩:=ry
 exact rule i j t t' s _ _ hc ⟨.int (g i j),H,I.tok _,⟨_,rfl⟩,q⟩
theorem AH {f:Value→Value→Sem Value}{g:Int→Int→Int}
  (rule:∀(i j:Int) (t u:Tok) (s:Shared) (Q:Value→Shared→Prop) (E:Value→Shared→Prop),Q (.int (g i j) s.toks) {s with toks:=s.toks+1}→wpAny (model X.prog X.w) X.A (f (.int i t) (.int j u)) Q E s):
  g6 X f (rY fun i j=> .int (g i j)):=by
 intro pins s σ H x y v u Q I rx ry h
 obtain⟨i,j,rfl,rfl,q⟩:=h
 obtain⟨t,rfl⟩:=rx
 obtain⟨t',rfl⟩:=ry
 exact rule i j t t' s _ _ ⟨.int (g i j),H,I.tok _,⟨_,rfl⟩,q⟩
theorem yZ {f:Value→Value→Sem Value}{g:Int→Int→Bool}
  (rule:∀(i j:Int) (t u:Tok) (s:Shared) (Q:Value→Shared→Prop) (E:Value→Shared→Prop),Q (.bool (g i j)) s→wpAny (model X.prog X.w) X.A (f (.int i t) (.int j u)) Q E s):
  g6 X f (rY fun i j=> .bl (g i j)):=by
 intro pins s σ H x y v u Q I rx ry h
 obtain⟨i,j,rfl,rfl,q⟩:=h
 obtain⟨t,rfl⟩:=rx
 obtain⟨t',rfl⟩:=ry
 exact rule i j t t' s _ _ ⟨.bl (g i j),H,I,rfl,q⟩
def A1 (i j:Int):Prop:=0≤j∧j≤1000000∧i.natAbs<2^64
def uV (i j:Int):Prop:=(-(2^64)<i∧i<2^64)∨(-(2^64)<j∧j<2^64)
theorem uV.ok(h:uV i j):IntMulOk i j:=by
 rcases h with ⟨h1,h2⟩|⟨h1,h2⟩
 ·exact .of_left (intBits_le_64 h1 h2)
 ·exact .of_right (intBits_le_64 h1 h2)
theorem bB:g6 X (binaryOp .Add) (rY fun i j=> .int (i+j)):=AH fun _ _ _ _ _ _ _ q=>add_int q
theorem dt:g6 X (binaryOp .Sub) (rY fun i j=> .int (i - j)):=AH fun _ _ _ _ _ _ _ q=>sub_int q
theorem fO:g6 X (binaryOp .Mult) (rI uV fun i j=> .int (i*j)):=Bn fun _ _ _ _ _ _ _ hc q=>mul_int q hc.ok
theorem cx:g6 X (binaryOp .Mod) (rI (fun _ j=>0<j) fun i j=> .int (i%j)):=Bn fun i j _ _ _ _ _ hc q=>by
 have h1:(0:Int)<j:=hc
 exact mod_int' (by lia) (by rw[Int.fmod_eq_emod_of_nonneg i (by lia)];exact q)
theorem zT:g6 X (binaryOp .Pow) (rI A1 fun i j=> .int (i^j.toNat)):=Bn fun _ _ _ _ _ _ _ hc q=>pow_int_small hc.1 hc.2.1 hc.2.2 q
theorem CF {f:Value→Sem Value}{g:Int→Int}
  (rule:∀(i:Int) (t:Tok) (s:Shared) (Q:Value→Shared→Prop) (E:Value→Shared→Prop),Q (.int (g i) s.toks) {s with toks:=s.toks+1}→wpAny (model X.prog X.w) X.A (f (.int i t)) Q E s):
  BA X f (rU fun i=> .int (g i)):=by
 intro pins s σ H x v Q I rx h
 obtain⟨i,rfl,q⟩:=h
 obtain⟨t,rfl⟩:=rx
 exact rule i t s _ _ ⟨.int (g i),H,I.tok _,⟨_,rfl⟩,q⟩
theorem rh:BA X (unaryOp .USub) (rU fun i=> .int (-i)):=CF fun _ _ _ _ _ q=>neg_int q
end
noncomputable def yB:V→V→Bool
 | .non,.non=>true| .non,.int _=>true| .int _,.non=>true| .non,.bl _=>true| .bl _,.non=>true| .non,.str _=>true| .str _,.non=>true
 | .int _,.int _=>true| .bl _,.bl _=>true| .str _,.str _=>true| .byt _,.byt _=>true
 | .int _,.str _=>true| .str _,.int _=>true| .bl _,.str _=>true| .str _,.bl _=>true
 |_,_=>false
def BP:R2:=fun x y H Q=>yB x y=true∧Q (.bl (decide (x=y))) H
def BV:R2:=fun x y H Q=>yB x y=true∧Q (.bl (!decide (x=y))) H
theorem kc:decide (V.int i=V.int j)=(i==j):=by
 rw[Em]
 simp
theorem wN:decide (V.bl i=V.bl j)=(i==j):=by
 rw[Em]
 simp
theorem sU:decide (V.str i=V.str j)=(i==j):=by
 rw[Em]
 simp
theorem sM {i j:Array UInt8}:decide (V.byt i=V.byt j)=(i.toList==j.toList):=by
 rw[Em]
 cases i
 cases j
 simp
section
variable {X:Cx} {a b c:Expr} {ta tb tc:TE} {pos:Pos}
theorem bG {pins:List (Addr×Obj)}(I:aL X pins σ H s)(q:Q (.bl k) H)(e:k=k'):EP X pins σ Q (.bool k') s:=by
 subst e
 exact⟨.bl k,H,I,rfl,q⟩
theorem e_:g6 X (compareOp .Eq) BP:=by
 intro pins s σ H x y v u Q I rx ry h
 obtain⟨hs,q⟩:=h
 cases x with
 |non=>
  cases rx
  cases y with
  |non=>cases ry;exact PySem.EqNone.eq_none_none (bG I q (by simp))
  |bl j=>cases ry;exact PySem.EqNone.eq_none_bool (bG I q (by simp))
  |int j=>obtain⟨t',rfl⟩:=ry;exact PySem.EqNone.eq_none_int (bG I q (by simp))
  |str j=>obtain⟨t',rfl⟩:=ry;exact PySem.EqNone.eq_none_str (bG I q (by simp))
  |_=>exact absurd (show false=true from hs) C0
 |bl i=>
  cases rx
  cases y with
  |non=>cases ry;exact PySem.EqNone.eq_bool_none (bG I q (by simp))
  |bl j=>cases ry;exact eq_bool (bG I q wN)
  |str j=>obtain⟨t',rfl⟩:=ry;exact PySem.EqMixed.eq_bool_str (bG I q (by simp))
  |_=>exact absurd (show false=true from hs) C0
 |int i=>
  obtain⟨t,rfl⟩:=rx
  cases y with
  |non=>cases ry;exact PySem.EqNone.eq_int_none (bG I q (by simp))
  |int j=>obtain⟨t',rfl⟩:=ry;exact eq_int (bG I q kc)
  |str j=>obtain⟨t',rfl⟩:=ry;exact PySem.EqMixed.eq_int_str (bG I q (by simp))
  |_=>exact absurd (show false=true from hs) C0
 |str i=>
  obtain⟨t,rfl⟩:=rx
  cases y with
  |non=>cases ry;exact PySem.EqNone.eq_str_none (bG I q (by simp))
  |bl j=>cases ry;exact PySem.EqMixed.eq_str_bool (bG I q (by simp))
  |int j=>obtain⟨t',rfl⟩:=ry;exact PySem.EqMixed.eq_str_int (bG I q (by simp))
  |str j=>obtain⟨t',rfl⟩:=ry;exact eq_str (bG I q sU)
  |_=>exact absurd (show false=true from hs) C0
 |byt i=>
  obtain⟨t,rfl⟩:=rx
  cases y with
  |byt j=>obtain⟨t',rfl⟩:=ry;exact PySem.W.eq_bytes (bG I q sM)
  |_=>exact absurd (show false=true from hs) C0
 |_=>cases y<;>exact absurd (show false=true from hs) C0
theorem gk:g6 X (compareOp .NotEq) BV:=by
 intro pins s σ H x y v u Q I rx ry h
 obtain⟨hs,q⟩:=h
 cases x with
 |non=>
  cases rx
  cases y with
  |non=>cases ry;exact PySem.EqNone.ne_none_none (bG I q (by simp))
  |bl j=>cases ry;exact PySem.EqNone.ne_none_bool (bG I q (by simp))
  |int j=>obtain⟨t',rfl⟩:=ry;exact PySem.EqNone.ne_none_int (bG I q (by simp))
  |str j=>obtain⟨t',rfl⟩:=ry;exact PySem.EqNone.ne_none_str (bG I q (by simp))
  |_=>exact absurd (show false=true from hs) C0
 |bl i=>
  cases rx
  cases y with
  |non=>cases ry;exact PySem.EqNone.ne_bool_none (bG I q (by simp))
  |bl j=>cases ry;exact ne_bool (bG I q (congrArg not wN))
  |str j=>obtain⟨t',rfl⟩:=ry;exact PySem.EqMixed.ne_bool_str (bG I q (by simp))
  |_=>exact absurd (show false=true from hs) C0
 |int i=>
  obtain⟨t,rfl⟩:=rx
  cases y with
  |non=>cases ry;exact PySem.EqNone.ne_int_none (bG I q (by simp))
  |int j=>obtain⟨t',rfl⟩:=ry;exact ne_int (bG I q (congrArg not kc))
  |str j=>obtain⟨t',rfl⟩:=ry;exact PySem.EqMixed.ne_int_str (bG I q (by simp))
  |_=>exact absurd (show false=true from hs) C0
 |str i=>
  obtain⟨t,rfl⟩:=rx
  cases y with
  |non=>cases ry;exact PySem.EqNone.ne_str_none (bG I q (by simp))
  |bl j=>cases ry;exact PySem.EqMixed.ne_str_bool (bG I q (by simp))
  |int j=>obtain⟨t',rfl⟩:=ry;exact PySem.EqMixed.ne_str_int (bG I q (by simp))
  |str j=>obtain⟨t',rfl⟩:=ry;exact ne_str (bG I q (congrArg not sU))
  |_=>exact absurd (show false=true from hs) C0
 |byt i=>
  obtain⟨t,rfl⟩:=rx
  cases y with
  |byt j=>obtain⟨t',rfl⟩:=ry;exact PySem.W.ne_bytes (bG I q (congrArg not sM))
  |_=>exact absurd (show false=true from hs) C0
 |_=>cases y<;>exact absurd (show false=true from hs) C0
theorem fR:g6 X (compareOp .Lt) (rY fun i j=> .bl (decide (i<j))):=yZ fun _ _ _ _ _ _ _ q=>lt_int q
theorem jL:g6 X (compareOp .LtE) (rY fun i j=> .bl (decide (i≤j))):=yZ fun _ _ _ _ _ _ _ q=>le_int q
theorem mM:g6 X (compareOp .Gt) (rY fun i j=> .bl (decide (j<i))):=yZ fun _ _ _ _ _ _ _ q=>gt_int q
theorem AK:g6 X (compareOp .GtE) (rY fun i j=> .bl (decide (j≤i))):=yZ fun _ _ _ _ _ _ _ q=>ge_int q
theorem wK:g6 X (compareOp .Is) (fun x y H Q=>y=.non∧Q (.bl (decide (x=.non))) H):=by
 intro pins s σ H x y v u Q I rx ry h
 obtain⟨rfl,q⟩:=h
 cases ry
 refine is_none_gen (bG I q ?_)
 cases x<;>first
  |(cases rx;rfl)
  |(obtain⟨t,rfl⟩:=rx;rfl)
theorem y8:g6 X (compareOp .IsNot) (fun x y H Q=>y=.non∧Q (.bl (!decide (x=.non))) H):=by
 intro pins s σ H x y v u Q I rx ry h
 obtain⟨rfl,q⟩:=h
 cases ry
 refine isnot_none_gen (bG I q ?_)
 cases x<;>first
  |(cases rx;rfl)
  |(obtain⟨t,rfl⟩:=rx;rfl)
theorem aV (b:Expr){op:CmpOp}(h:op≠.In:=by decide)(h2:op≠.NotIn:=by decide):behindInMarks op b=false:=by
 have e1:(op==CmpOp.In)=false:=by cases op<;>first|rfl|exact absurd rfl h
 have e2:(op==CmpOp.NotIn)=false:=by cases op<;>first|rfl|exact absurd rfl h2
 cases b<;>simp[behindInMarks,e1,e2]
theorem oA {op:CmpOp}(ho:g6 X (compareOp op) r)(ha:PE X a ta)(hb:PE X b tb)(hm:behindInMarks op b=false):PE X (.Compare a [op] [b] pos) (fb r ta tb):=by
 intro pins s σ H Q I h
 exact wpAny_Compare1 (Ao ha hb I h fun v u s2 x y H2 I2 rx ry q=>ho pins s2 σ H2 x y v u Q I2 rx ry q) hm
def wD (t:TE):TT:=fun σ H Q=>t σ H fun x H'=>∃k,x=.bl k∧Q k H'
theorem aI {op:CmpOp}(ho:g6 X (compareOp op) r)(ha:PE X a ta)(hb:PE X b tb)(hm:behindInMarks op b=false):PT X (.Compare a [op] [b] pos) (wD (fb r ta tb)):=by
 intro pins s σ H Q I h
 refine wpAny_isTrue_Compare1 (bR (ha pins s σ H _ I h) fun v s1 ⟨x,H1,I1,r1,q1⟩=>bR (hb pins s1 σ H1 _ I1 q1) fun u s2 ⟨y,H2,I2,r2,q2⟩=>
  bR (ho pins s2 σ H2 x y v u _ I2 r1 r2 q2) fun c s3 ⟨z,H3,I3,r3,k,e,q3⟩=>?_) hm
 subst e
 cases r3
 exact Ec ⟨H3,I3,q3⟩
def q9 (r r':R2) (ta tb tc:TE):TE:=fun σ H Q=>ta σ H fun x H1=>tb σ H1 fun y H2=>r x y H2 fun z H3=>∃k,z=.bl k∧
 (if k=true then tc σ H3 fun w' H4=>r' y w' H4 Q else Q (.bl false) H3)
theorem lD {op op':CmpOp}(ho:g6 X (compareOp op) r)(ho':g6 X (compareOp op') r')(ha:PE X a ta)(hb:PE X b tb)(hc:PE X c tc)
  (hm:lastMarks [op,op'] [b,c]=false:=by with_unfolding_all rfl):PE X (.Compare a [op,op'] [b,c] pos) (q9 r r' ta tb tc):=by
 intro pins s σ H Q I h
 refine Compare_chain (bR (ha pins s σ H _ I h) fun v s1 ⟨x,H1,I1,r1,q1⟩=>chain_link (bR (hb pins s1 σ H1 _ I1 q1) fun u s2 ⟨y,H2,I2,r2,q2⟩=>
  bR (ho pins s2 σ H2 x y v u _ I2 r1 r2 q2) fun d s3 ⟨z,H3,I3,r3,k,e,q3⟩=>?_)) hm
 subst e
 cases r3
 refine Ec ?_
 cases k with
 |false=>exact ite_ff ⟨.bl false,H3,I3,rfl,q3⟩
 |true=>exact ite_tt (chain_last (bR (hc pins s3 σ H3 _ I3 q3) fun w' s4 ⟨z',H4,I4,r4,q4⟩=>ho' pins s4 σ H4 y z' u w' Q I4 r2 r4 q4))
theorem qd {op op':CmpOp}(ho:g6 X (compareOp op) r)(ho':g6 X (compareOp op') r')(ha:PE X a ta)(hb:PE X b tb)(hc:PE X c tc)
  (hm:lastMarks [op,op'] [b,c]=false:=by with_unfolding_all rfl):PT X (.Compare a [op,op'] [b,c] pos) (wD (q9 r r' ta tb tc)):=by
 intro pins s σ H Q I h
 refine isTrue_chain (bR (ha pins s σ H _ I h) fun v s1 ⟨x,H1,I1,r1,q1⟩=>test_link (bR (hb pins s1 σ H1 _ I1 q1) fun u s2 ⟨y,H2,I2,r2,q2⟩=>
  bR (ho pins s2 σ H2 x y v u _ I2 r1 r2 q2) fun d s3 ⟨z,H3,I3,r3,k,e,q3⟩=>?_)) hm
 subst e
 cases r3
 refine Ec ?_
 cases k with
 |false=>
  obtain⟨k',e',q'⟩:=q3
  cases e'
  exact ite_ff ⟨H3,I3,q'⟩
 |true=>
  refine ite_tt (test_last (bR (hc pins s3 σ H3 _ I3 q3) fun w' s4 ⟨z',H4,I4,r4,q4⟩=>bR (ho' pins s4 σ H4 y z' u w' _ I4 r2 r4 q4) fun d' s5 ⟨z2,H5,I5,r5,k2,e2,q5⟩=>?_))
  subst e2
  cases r5
  exact Ec ⟨H5,I5,q5⟩
theorem ow:(sizeLine:Nat)<2^63:=by rw[sizeLine_eq];decide
theorem iZ(r:bh [x] us):∃u,us=[u]∧aT x u:=by
 cases r with
 |cons r1 r2=>cases r2;exact⟨_,rfl,r1⟩
theorem g_(r:bh [x,y] us):∃u w',us=[u,w']∧aT x u∧aT y w':=by
 cases r with
 |cons r1 r2=>
  cases r2 with
  |cons r3 r4=>cases r4;exact⟨_,_,rfl,r1,r3⟩
theorem nJ (hc:X.calm=true):dO X (.builtin "min") (fun xs H Q=>∃i j,xs=[.int i,.int j]∧Q (.int (if j<i then j else i)) H):=by
 intro pins s σ H xs us Q I r h
 obtain⟨i,j,rfl,q⟩:=h
 obtain⟨u,w',rfl,⟨t,rfl⟩,⟨t',rfl⟩⟩:=g_ r
 refine min_two_ints (I.ok.hd hc) fun h' tk k=>⟨_,H,I.kept k,?_,q⟩
 by_cases hj:j<i
 ·rw[if_pos hj,if_pos hj];exact⟨_,rfl⟩
 ·rw[if_neg hj,if_neg hj];exact⟨_,rfl⟩
def yU (K:CJ) (x:V) (H:Hp) (n:Nat):Prop:=
 match x with
 | .str y=>y.length≤sizeLine∧n=y.length
 | .byt y=>y.size≤sizeLine∧n=y.size
 | .ref p=>(∃xs,bg K H p xs∧n=xs.length)∨∃xs,bH K H p xs∧n=xs.length
 |_=>False
theorem bp:dO X (.builtin "len") (fun xs H Q=>∃x n,xs=[x]∧yU X.K x H n∧Q (.int n) H):=by
 intro pins s σ H xs us Q I r h
 obtain⟨x,n,rfl,e,q⟩:=h
 obtain⟨u,rfl,rx⟩:=iZ r
 have hl:=ow
 have hs:sizeLine=16777216:=sizeLine_eq
 cases x with
 |str y=>
  obtain⟨t,rfl⟩:=rx
  obtain⟨hy,e'⟩:y.length≤sizeLine∧n=y.length:=e
  subst e'
  exact len_str (by lia) ⟨.int _,H,I.tok _,⟨_,rfl⟩,q⟩
 |byt y=>
  obtain⟨t,rfl⟩:=rx
  obtain⟨hy,e'⟩:y.size≤sizeLine∧n=y.size:=e
  subst e'
  exact PySem.W.len_bytes (by lia) ⟨.int _,H,I.tok _,⟨_,rfl⟩,q⟩
 |ref p=>
  cases rx
  have e':(∃xs,bg X.K H p xs∧n=xs.length)∨∃xs,bH X.K H p xs∧n=xs.length:=e
  rcases e' with ⟨xs,hx,e'⟩|⟨xs,hx,e'⟩
  ·subst e'
   obtain⟨b,r',pl,hz⟩:=I.list hx
   have a:=r'.length
   exact Calls.call_len_list pl.isList (by simp only[De];lia) ⟨.int xs.length,H,I.tok _,⟨_,by simp only[De];rw[a]⟩,q⟩
  ·subst e'
   obtain⟨b,r',pl,hz⟩:=I.tuple hx
   have a:=r'.length
   exact len_tuple pl (by simp only[De];lia) ⟨.int xs.length,H,I.tok _,⟨_,by simp only[De];rw[a]⟩,q⟩
 |_=>exact(show False from e).elim
end
structure rp (h:Heap) (x dx C:Addr) (mA:Str→Option Value):Prop where
 obj:h.get? x=some (Eu C dx)
 ns:h.Ns1 dx mA
 ne:dx≠x
theorem ur {h:Heap}{dx:Addr}{mA:Str→Option Value}(n:h.Ns1 dx mA):∃od,h.get? dx=some od∧∀name,PySem.W.lookIn name od=some (mA name):=by
 obtain⟨o,es,ep,ho,hd,hk,_,hm⟩:=n
 refine⟨o,ho,fun name=>?_⟩
 have e:=hm name
 unfold nsFind findBy at e
 rw[←Array.find?_toList] at e
 unfold PySem.W.lookIn
 rw[hd]
 dsimp only
 split
 ·rename_i y q
  rw[q] at e
  exact congrArg some e
 ·rename_i q
  rw[q] at e
  have a:es.toList.any (·.refKey)=false:=by
   rw[List.any_eq_false]
   intro y hy
   obtain⟨z,t,b⟩:=hk y (Fz.mp hy)
   simp[DictEntry.refKey,b]
  have a':¬es.toList.any (·.refKey)=true:=by rw[a];exact C0
  rw[if_neg a']
  exact congrArg some e
theorem rp.look(I:rp h x dx C mA):∃od,PySem.W.InstAt h x (Eu C dx) C (some od)∧∀name,PySem.W.lookIn name od=some (mA name):=
 let ⟨od,ho,hl⟩:=ur I.ns
 ⟨od,⟨I.obj,rfl,rfl,ho⟩,hl⟩
section
variable {prog:Program} {w:World} {A:Around} {E:Value→Shared→Prop} {s:Shared} {K:CJ} {x dx C f:Addr} {mA:Str→Option Value} {name:Str} {v:Value}
theorem xi(X:K.In s.heap)(I:rp s.heap x dx C mA)(hg:EU K C name=true)(hh:Fb K C=true)
  (ha:Dg K (.ref C) name=some none) (hv:mA name=some v) (hv':PySem.W.handedIn v=true) (h:Q v {s with toks:=s.toks+1}):
  wpAny (model prog w) A (getAttr (.ref x) name expr) Q E s:=by
 obtain⟨od,J,hl⟩:=I.look
 exact PySem.W.get_value X J (PySem.W.plainGet_of hg).1 (PySem.W.findObj_own hh ha rfl (by rw[hl,hv])) hv' h
theorem uX {pl:Sem Bool}{Q:Value×List Value→Shared→Prop}(X:K.In s.heap)(I:rp s.heap x dx C mA)(hg:EU K C name=true)
  (hf:Dg K (.ref C) name=some (some (.ref f))) (ht:DP K (.ref f)=true) (hv:mA name=none) (h:Q (.ref f,[.ref x]) s):
  wpAny (model prog w) A (getMethod (.ref x) name pl) Q E s:=by
 obtain⟨od,J,hl⟩:=I.look
 exact PySem.W.method_fn X J (PySem.W.plainGet_of hg).1 (PySem.W.plainGet_of hg).2 hf (beq_iff_eq.mp ht) (by show(PySem.W.lookIn name od).map (·.isSome)=some false;rw[hl,hv];rfl) h
theorem yP{Q:Unit→Shared→Prop}(X:K.In s.heap)(I:rp s.heap x dx C mA)
  (hs:Dg K (.ref C) "__setattr__" =some (some (.builtin "object.__setattr__"))) (hp:FB K C=true) (ht:PySem.W.takerIn K C name=some none) (hh:Fb K C=true)
  (hw:PySem.Within mA ns) (hsz:ns.length≤sizeLine)
  (h:∀h',rp h' x dx C (fun y=>if y=name then some v else mA y)→Heap.SameBut dx s.heap h'→Q () {s with heap:=h',toks:=s.toks+2}):
  wpAny (model prog w) A (setAttr (.ref x) name v) Q E s:=by
 obtain⟨od,J,hl⟩:=I.look
 refine PySem.W.set_plain X J hs (PySem.W.osa_open (s:={s with toks:=s.toks+1}) (r:=none) X J hp ht fun b=>?_)
 obtain⟨cd,hc,e⟩:=PySem.W.any_some hh
 have hx:s.heap.get? x=some ⟨.ref C,some dx,.plain,#[]⟩:=I.obj
 refine CH (CI (CH (CH (wpAny_loadPart hx (CH (PySem.W.Looks.here (s:={s with toks:=s.toks+1}) (PySem.W.looks_clsIn X hc) ?_))))))
 rw[e]
 refine CI (a:=some dx) (CH (CI (CH ?_)))
 refine wpAny_nsSet1 (s:={s with toks:=s.toks+1}) I.ns fun h' hn2 hs2=>?_
 obtain⟨oD,i,g,f,c,d⟩:=hn2.count (PySem.Within.cons name v hw)
 refine CH (wpAny_lookBehind f (by rw[c];exact pastItsLine_dict (Df d (by rw[Dl];lia))) ?_)
 exact CI (h _ ⟨(hs2.2 _ (CQ I.ne)).trans I.obj,hn2,I.ne⟩ hs2)
theorem vq{kw:List (Str×Value)}(X:K.In s.heap)(hm:PySem.W.makesIn K C=true)
  (hi:Dg K (.ref C) "__init__" =some (some (.ref f))) (hf:PySem.W.typeIn K (.ref f)=some (.type "function"))
  (h:codeAny (model prog w) (A.under (.builtin "type.__call__" ⟨.ref C::vs,kw⟩)) (.call (.ref f) ⟨.ref (s.heap.objs.size+1)::vs,kw⟩) (PySem.W.InitBack (s.heap.objs.size+1) R)
   {s with heap:=(s.heap.push En).push (Eu C s.heap.objs.size)}):
  codeAny (model prog w) A (.call (.ref C) ⟨vs,kw⟩) R s:=by
 obtain⟨hh,g,d,t,os⟩:=s
 exact PySem.W.make_core (PySem.W.makes_of X hm) (PySem.W.looks_findIn X hi) (fun self=>PySem.W.bind_fn X self hf) (.inl rfl) h
end
noncomputable def eT (f:Str) (v:V):List (Str×V)→List (Str×V)
 |[]=>[(f,v)]
 |(g,x)::r=>if g=f then (g,v)::r else (g,x)::eT f v r
theorem jR (f g:Str)(v:V):∀fs:List (Str×V),(eT f v fs).lookup g=if g=f then some v else fs.lookup g
 |[]=>by
  show Eo g [(f,v)]=_
  by_cases h:g=f
  ·have hb:(g==f)=true:=beq_iff_eq.mpr h
   simp only[Eo,hb,if_pos h]
  ·have hb:(g==f)=false:=beq_eq_false_iff_ne.mpr h
   simp only[Eo,hb,if_neg h]
 |(k,x)::r=>by
  have ih:=jR f g v r
  rw[show eT f v ((k,x)::r)=(if k=f then (k,v)::r else (k,x)::eT f v r) from rfl]
  by_cases hk:k=f
  ·rw[if_pos hk]
   by_cases h:g=k
   ·have hb:(g==k)=true:=beq_iff_eq.mpr h
    simp only[Eo,hb,if_pos (h.trans hk)]
   ·have hb:(g==k)=false:=beq_eq_false_iff_ne.mpr h
    simp only[Eo,hb,if_neg (fun e:g=f=>h (e.trans hk.symm))]
  ·rw[if_neg hk]
   by_cases h:g=k
   ·have hb:(g==k)=true:=beq_iff_eq.mpr h
    simp only[Eo,hb,if_neg (fun e:g=f=>hk (h.symm.trans e))]
   ·have hb:(g==k)=false:=beq_eq_false_iff_ne.mpr h
    simp only[Eo,hb]
    exact ih
theorem jI (f:Str)(v:V):∀fs:List (Str×V),f∈(eT f v fs).map (·.1)∧∀g,g∈fs.map (·.1)→g∈(eT f v fs).map (·.1)
 |[]=>⟨by simp[eT],fun g h=>by simp at h⟩
 |(k,x)::r=>by
  obtain⟨i1,i2⟩:=jI f v r
  rw[show eT f v ((k,x)::r)=(if k=f then (k,v)::r else (k,x)::eT f v r) from rfl]
  by_cases hk:k=f
  ·rw[if_pos hk]
   subst hk
   exact⟨by simp,fun g h=>by simpa using h⟩
  ·rw[if_neg hk]
   refine⟨?_,fun g h=>?_⟩
   ·rw[C5]
    exact Dh _ i1
   ·rw[C5] at h⊢
    rcases CV.mp h with e|e
    ·exact CV.mpr (.inl e)
    ·exact Dh _ (i2 g e)
theorem jU (f:Str)(v:V):∀fs:List (Str×V),(eT f v fs).length≤fs.length+1
 |[]=>by simp[eT]
 |(k,x)::r=>by
  have ih:=jU f v r
  rw[show eT f v ((k,x)::r)=(if k=f then (k,v)::r else (k,x)::eT f v r) from rfl]
  by_cases hk:k=f
  ·rw[if_pos hk,Dl,Dl];lia
  ·rw[if_neg hk,Dl,Dl];lia
theorem fU.some_of{o:Option Value}(r:fU (some v) o):∃u,o=some u∧aT v u:=by
 cases o with
 |none=>exact(show False from r).elim
 |some u=>exact⟨u,rfl,r⟩
theorem fU.none_of {o:Option Value}(r:fU none o):o=none:=by
 cases o with
 |none=>rfl
 |some u=>exact(show False from r).elim
theorem tL(r:aT v u):PySem.W.handedIn u=true:=by
 cases v with
 |non=>cases(show u=Value.none from r);rfl
 |bl b=>cases(show u=Value.bool b from r);rfl
 |int i=>obtain⟨t,e⟩:=(show∃t,u=Value.int i t from r);cases e;rfl
 |str x=>obtain⟨t,e⟩:=(show∃t,u=Value.str x t from r);cases e;rfl
 |byt b=>obtain⟨t,e⟩:=(show∃t,u=Value.bytes b t from r);cases e;rfl
 |flt b=>obtain⟨t,e⟩:=(show∃t,u=Value.float b t from r);cases e;rfl
 |ref a=>cases(show u=Value.ref a from r);rfl
 |ty n=>cases(show u=Value.type n from r);rfl
section
variable {P:Program} {w:World} {H H':Hp} {h h':Heap} {a C dx:Addr} {fs fs':List (Str×V)}
theorem km (hok:fV P w H h)(e:H a=some (.ins C dx fs)):∃mA,rp h a dx C mA∧(∀f,fU (fs.lookup f) (mA f))∧PySem.Within mA (fs.map (·.1))∧fs.length≤1000∧H dx=some (.own a):=by
 obtain⟨d,z,ne,ob,mA,n,r,q⟩:=(show bL P w H h a (.ins C dx fs) from hok a _ e)
 exact⟨mA,⟨ob,n,ne⟩,r,q,z,d⟩
end
structure rG (K:CJ) (C:Addr):Prop where
 pg:EU K C Str.empty=true
 hd:Fb K C=true
 po:FB K C=true
 sa:Dg K (.ref C) "__setattr__" =some (some (.builtin "object.__setattr__"))
theorem rG.get {K:CJ}{C:Addr}(c:rG K C)(f:Str):EU K C f=true:=c.pg
def dE (K:CJ) (C:Addr) (f:Str):Prop:=Dg K (.ref C) f=some none
theorem dE.taker {K:CJ}{C:Addr}{f:Str}(n:dE K C f):PySem.W.takerIn K C f=some none:=by
 unfold PySem.W.takerIn
 rw[show Dg K (.ref C) f=some none from n]
 rfl
structure yj (K:CJ) (C:Addr) (m:Str) (f:Addr):Prop where
 at_:Dg K (.ref C) m=some (some (.ref f))
 fn:DP K (.ref f)=true
 kp:CZ K (.ref f)=true
section
variable {X:Cx} {pins:List (Addr×Obj)} {σ:St} {H:Hp} {s:Shared} {a C dx:Addr} {fs:List (Str×V)} {f:Str} {v:V} {A:Around} {E:Value→Shared→Prop}
theorem rV(I:aL X pins σ H s)(e:H a=some (.ins C dx fs))(c:rG X.K C)(n:dE X.K C f)(l:fs.lookup f=some v)
  (h:∀u s',aL X pins σ H s'→aT v u→Q u s'):wpAny (model X.prog X.w) A (getAttr (.ref a) f b) Q E s:=by
 obtain⟨mA,O,r,_,_,_⟩:=km I.hok e
 obtain⟨u,hu,ru⟩:=fU.some_of (v:=v) (o:=mA f) (by rw[←l];exact r f)
 exact xi I.kIn O (c.get f) c.hd n hu (tL ru) (h u _ (I.tok _) ru)
theorem kP{pl:Sem Bool}{Q:Value×List Value→Shared→Prop}(I:aL X pins σ H s)(e:H a=some (.ins C dx fs))(c:rG X.K C)(k:yj X.K C m g)(l:fs.lookup m=none)
  (h:Q (.ref g,[.ref a]) s):wpAny (model X.prog X.w) A (getMethod (.ref a) m pl) Q E s:=by
 obtain⟨mA,O,r,_,_,_⟩:=km I.hok e
 have hn:mA m=none:=fU.none_of (by rw[←l];exact r m)
 exact uX I.kIn O (c.get m) k.at_ k.fn hn h
theorem qV{Q:Unit→Shared→Prop}(I:aL X pins σ H s)(e:H a=some (.ins C dx fs))(c:rG X.K C)(n:dE X.K C f)(hl:fs.length<1000)(ry:aT y u)
  (h:∀s',aL X pins σ (upd H a (.ins C dx (eT f y fs))) s'→Q () s'):wpAny (model X.prog X.w) A (setAttr (.ref a) f u) Q E s:=by
 obtain⟨mA,O,r,wi,_,ho⟩:=km I.hok e
 have hz:(fs.map (·.1)).length≤sizeLine:=by rw[CK,sizeLine_eq];lia
 refine yP I.kIn O c.sa c.po n.taker c.hd wi hz fun h' O' sb=>h _ ?_
 have hd:∃o,h'.get? dx=some o:=let ⟨o,_,_,e',_⟩:=O'.ns;⟨o,e'⟩
 refine I.write (x:=a) (e:=dx) (by rw[e];exact True.intro) (.inr ho) (fun b q hb z=>(sb.2 b hb).trans z) hd ?_
 refine⟨by rw[aj O.ne];exact ho,?_,O.ne,O'.obj,_,O'.ns,fun g=>?_,fun g hg=>?_⟩
 ·have:=jU f y fs;lia
 ·show fU ((eT f y fs).lookup g) (if g=f then some u else mA g)
  rw[jR]
  by_cases q:g=f
  ·rw[if_pos q,if_pos q];exact ry
  ·rw[if_neg q,if_neg q];exact r g
 ·by_cases q:g=f
  ·rw[q];exact(jI f y fs).1
  ·refine(jI f y fs).2 g (wi g fun z=>hg ?_)
   show(if g=f then some u else mA g)=none
   rw[if_neg q];exact z
theorem aL.made (I:aL X pins σ H s):aL X pins σ (upd (upd H s.heap.objs.size (.own (s.heap.objs.size+1))) (s.heap.objs.size+1) (.ins C s.heap.objs.size []))
  {s with heap:=(s.heap.push En).push (Eu C s.heap.objs.size)}:=by
 have e1:(s.heap.push En).get? s.heap.objs.size=some En:=C4 s.heap rfl
 have e2:((s.heap.push En).push (Eu C s.heap.objs.size)).get? (s.heap.objs.size+1)=some (Eu C s.heap.objs.size):=by
  have:=C4 (s.heap.push En) (o:=Eu C s.heap.objs.size) rfl
  rwa [DM] at this
 have e3:(s.heap.push En).Ns s.heap.objs.size (fun _=>none):=⟨En,#[],_,e1,rfl,(fun e he=>absurd he (by simp)),fun _=>rfl⟩
 have I1:=I.laid (a:=s.heap.objs.size) (o:=.own (s.heap.objs.size+1)) (h':=s.heap.push En) (t':=s.toks) (fun b u q=>CO _ q) (CM _) ⟨_,e1⟩
 refine I1.laid (a:=s.heap.objs.size+1) (o:=.ins C s.heap.objs.size []) (t':=s.toks) (fun b u q=>CO _ q) (Nat.le_of_eq (DM _ _)) ?_
 have ne:s.heap.objs.size≠s.heap.objs.size+1:=C6 (Fc _)
 refine⟨by rw[aj ne,ag],C8 _,ne,e2,fun _=>none,(Heap.Ns1.of_empty e3).at fun o q=>CO _ q,fun _=>True.intro,fun y hy=>absurd rfl hy⟩
theorem yf(hb:attributeBase e f env (eval e env)=eval e env)
  (h:wpAny (model prog w) A (eval e env) (fun o s₁=>wpAny (model prog w) A (getAttr o f true) Q E s₁) E s):wpAny (model prog w) A (eval (.Attribute e f pos) env) Q E s:=
 Attribute_any_ h (by rw[arm_eval_Attribute,hb])
end
def vm (K:CJ) (ta:TE) (f:Str):TE:=fun σ H Q=>ta σ H fun x H1=>∃a C dx fs v,x=.ref a∧H1 a=some (.ins C dx fs)∧rG K C∧dE K C f∧fs.lookup f=some v∧Q v H1
def BC (K:CJ) (ta tv:TE) (f:Str):TS:=fun D σ H=>tv σ H fun y H1=>ta σ H1 fun x H2=>∃a C dx fs,x=.ref a∧H2 a=some (.ins C dx fs)∧rG K C∧dE K C f∧fs.length<1000∧
 D.nx σ (upd H2 a (.ins C dx (eT f y fs)))
section
variable {X:Cx} {o e value:Expr} {f:Str} {pos pos' tpos:Pos} {ta tv:TE}
theorem cD (he:PE X e ta)(hb:attributeBase e f X.env (eval e X.env)=eval e X.env):PE X (.Attribute e f pos) (vm X.K ta f):=by
 intro pins s σ H Q I h
 refine yf hb (bR (he pins s σ H _ I h) fun u s1 ⟨x,H1,I1,rx,a,C,dx,fs,v,ex,ea,c,n,l,q⟩=>?_)
 subst ex
 obtain rfl:u=Value.ref a:=rx
 exact rV I1 ea c n l fun u' s2 I2 ru=>⟨v,H1,I2,ru,q⟩
theorem jj (ha:PE X o ta)(hv:PE X value tv)(hs:swapsWith value (some (.Attribute o f pos')) pos.line X.env=pure false):PS X (.Assign [.Attribute o f pos'] value pos) (BC X.K ta tv f):=by
 intro pins s σ H D I h
 refine plainObj_wpAny_Assign_Attribute (bR (hv pins s σ H _ I h) fun u s1 ⟨y,H1,I1,ry,q⟩=>bR (ha pins s1 σ H1 _ I1 q) fun ov s2 ⟨x,H2,I2,rx,a,C,dx,fs,ex,ea,c,n,l,q2⟩=>?_) hs
 subst ex
 obtain rfl:ov=Value.ref a:=rx
 exact qV I2 ea c n l ry fun s3 I3=>⟨σ,_,I3,q2⟩
end
section
variable {X:Cx} {pins:List (Addr×Obj)} {σ:St} {H:Hp} {s:Shared} {A:Around} {E:Value→Shared→Prop} {Q:Value→Shared→Prop} {c:Value} {b:Bool}
inductive jC (K:CJ) (H:Hp):V→Value→Prop where
 |non:jC K H .non (.type "NoneType")
 |bl (x:Bool):jC K H (.bl x) (.type "bool")
 |int (i:Int):jC K H (.int i) (.type "int")
 |str (x:Str):jC K H (.str x) (.type "str")
 |flt (x:UInt64):jC K H (.flt x) (.type "float")
 |lst {a:Addr} {xs:List V} (e:H a=some (.lst xs)):jC K H (.ref a) (.type "list")
 |frz {a:Addr} {o:Obj} {xs:List V} (e:H a=some (.frz o (.lst xs))):jC K H (.ref a) (.type "list")
 |tup {a:Addr} {xs:List V} (e:H a=some (.tup xs)):jC K H (.ref a) (.type "tuple")
 |dK {a:Addr} {kvs:List (cK×V)} (e:H a=some (.dK kvs)):jC K H (.ref a) (.type "dict")
 |dT {a:Addr} {kvs:List (List cK×V)} (e:H a=some (.dT kvs)):jC K H (.ref a) (.type "dict")
 |ins {a C dx:Addr} {fs:List (Str×V)} (e:H a=some (.ins C dx fs)) (cl:rG K C) (ha:Dg K (.ref C) "__class__" =some (some (.builtin "object.__class__")))
   (hn:PySem.W.specialIn K (.builtin "object.__class__") "__get__" =some (some (.builtin "getset_descriptor.__get__"))) (htk:PySem.W.takesIn K (.builtin "object.__class__")=some true)
   (hm:PySem.W.mroIn K C (.type "object")=some true):jC K H (.ref a) (.ref C)
theorem mJ(I:aL X pins σ H s)(rx:aT x u)(ty:jC X.K H x t)(e:DT X.K t c=some b)(h:∀tk,Q (.bool b) {s with toks:=tk}):
  wpAny (model X.prog X.w) A (call (.builtin "isinstance") [u,c]) Q E s:=by
 cases ty with
 |non=>cases(show u=Value.none from rx);exact D1 PySem.W.kitx_none I.kIn True.intro e (fun z=>nomatch z) h
 |bl y=>cases(show u=Value.bool y from rx);exact D1 PySem.W.kitx_bool I.kIn True.intro e (fun z=>nomatch z) h
 |int i=>obtain⟨t,q⟩:=(show∃t,u=Value.int i t from rx);cases q;exact D1 PySem.W.kitx_int I.kIn True.intro e (fun z=>nomatch z) h
 |str y=>obtain⟨t,q⟩:=(show∃t,u=Value.str y t from rx);cases q;exact D1 PySem.W.kitx_str I.kIn True.intro e (fun z=>nomatch z) h
 |flt y=>obtain⟨t,q⟩:=(show∃t,u=Value.float y t from rx);cases q;exact D1 PySem.W.kitx_float I.kIn True.intro e (fun z=>nomatch z) h
 | @lst a xs ea=>
  cases(show u=Value.ref a from rx)
  obtain⟨_,_,n,_,h1⟩:=(show bL X.prog X.w H s.heap a (.lst xs) from I.hok a _ ea)
  exact D1 PySem.W.kitx_list I.kIn ⟨_,h1,rfl⟩ e (fun z=>nomatch z) h
 | @frz a ob xs ea=>
  cases(show u=Value.ref a from rx)
  obtain⟨_,_,_,n,_,h1⟩:=(show bL X.prog X.w H s.heap a (.frz ob (.lst xs)) from I.hok a _ ea)
  exact D1 PySem.W.kitx_list I.kIn ⟨_,h1,rfl⟩ e (fun z=>nomatch z) h
 | @tup a xs ea=>
  cases(show u=Value.ref a from rx)
  obtain⟨_,_,_,p⟩:=(show bL X.prog X.w H s.heap a (.tup xs) from I.hok a _ ea)
  obtain⟨o,h1,h2,_⟩:=p
  exact D1 PySem.W.kitx_tuple I.kIn ⟨o,h1,h2⟩ e (fun z=>nomatch z) h
 | @dK a kvs ea=>
  cases(show u=Value.ref a from rx)
  obtain⟨_,_,vs,_,p⟩:=(show bL X.prog X.w H s.heap a (.dK kvs) from I.hok a _ ea)
  obtain⟨o,es,ep,h1,h2,_⟩:=p
  exact D1 PySem.W.kitx_dict I.kIn ⟨o,h1,h2.1⟩ e (fun z=>nomatch z) h
 | @dT a kvs ea=>
  cases(show u=Value.ref a from rx)
  obtain⟨_,_,xs,_,o,es,ep,h1,h2,_⟩:=(show bL X.prog X.w H s.heap a (.dT kvs) from I.hok a _ ea)
  exact D1 PySem.W.kitx_dict I.kIn ⟨o,h1,h2.1⟩ e (fun z=>nomatch z) h
 | @ins a C dx fs ea cl ha hn htk hm=>
  cases(show u=Value.ref a from rx)
  obtain⟨mA,O,_⟩:=km I.hok ea
  obtain⟨od,J,_⟩:=O.look
  exact D1 (PySem.W.kitx_own (cl.get _) cl.hd ha hn htk hm) I.kIn J e (fun z=>nomatch z) h
end
structure bj (k:Nat) (A:Around):Prop where
 hd:A.handled=none
 dp:A.depth+3*k+5<recursionLimit
 un:A.units+16*k+200<cLine
 gd:A.guards=some []
theorem bj.mono(r:bj k A)(h:j≤k):bj j A:=⟨r.hd,by have:=r.dp;lia,by have:=r.un;lia,r.gd⟩
theorem bj.deeper(r:bj (k+1) A)(env:Env):bj k (A.deeper env):=
 ⟨r.hd,by have:=r.dp;show A.depth+1+3*k+5<_;lia,by have:=r.un;show A.units+3+16*k+200<_;lia,r.gd⟩
theorem q0 {A:Around}{C:Addr}{us:List Value}{kw:List (Str×Value)}:(A.under (.builtin "type.__call__" ⟨.ref C::us,kw⟩)).depth=A.depth+1:=by
 first|rfl|simp[Around.under,Code.weight,Code.isCreation,Code.isGuard,Code.isCaller,Code.frames,Code.isFrame,guardIds]
theorem qU {A:Around}{C:Addr}{us:List Value}{kw:List (Str×Value)}:(A.under (.builtin "type.__call__" ⟨.ref C::us,kw⟩)).units=A.units+1:=by
 first|rfl|simp[Around.under,Code.cUnits,Code.frames,Code.isFrame]
theorem pO {A:Around}{C:Addr}{us:List Value}{kw:List (Str×Value)}:(A.under (.builtin "type.__call__" ⟨.ref C::us,kw⟩)).guards=A.guards:=by
 first|rfl|simp[Around.under,Code.isGuard,Code.guards,guardIds]
theorem bj.make(r:bj (k+1) A)(C:Addr)(us:List Value)(kw:List (Str×Value)):bj k (A.under (.builtin "type.__call__" ⟨.ref C::us,kw⟩)):=
 ⟨r.hd,by have:=r.dp;rw[q0];lia,by have:=r.un;rw[qU];lia,by rw[pO];exact r.gd⟩
theorem bj.depth(r:bj k A):A.depth<recursionLimit:=by have:=r.dp;lia
theorem bj.units(r:bj k A):A.units+64<cLine:=by have:=r.un;lia
def fc:TA:=fun _ H Q=>Q [] H
def cL (ta:TE) (tr:TA):TA:=fun σ H Q=>ta σ H fun x H1=>tr σ H1 fun xs H2=>Q (x::xs) H2
section
variable {X:Cx} {e:Expr} {es:List Expr} {te:TE} {t:TA} {pos:Pos}
theorem aq:PA X [] fc:=fun _ _ _ _ H Q I h=>Calls.spliced_nil ⟨[],H,I,.nil,h⟩
theorem ab (ha:PE X e te)(hr:PA X es t)(hs:starEach (e::es) X.env=(false,eval e X.env)::starEach es X.env:=by rfl):PA X (e::es) (cL te t):=by
 intro pos pins s σ H Q I h
 rw[hs]
 show wpAny _ _ (spliced ((false,eval e X.env)::backTo pos (starEach es X.env))) _ _ s
 refine Calls.spliced_cons (bR (ha pins s σ H _ I h) fun u s1 ⟨x,H1,I1,r1,q1⟩=>?_)
 exact bR (hr pos pins s1 σ H1 _ I1 q1) fun us s2 ⟨xs,H2,I2,r2,q2⟩=>⟨x::xs,H2,I2,.cons r1 r2,q2⟩
def tu (t:TA):TE:=fun σ H Q=>t σ H fun xs H1=>xs.length≤sizeLine∧∀p,H1 p=none→Q (.ref p) (upd H1 p (.tup xs))
def qJ (t:TA):TE:=fun σ H Q=>t σ H fun xs H1=>xs.length≤sizeLine∧∀p,H1 p=none→Q (.ref p) (upd H1 p (.lst xs))
theorem bM {x1}(h:PA X es t):PE X (.Tuple es x1 pos) (tu t):=by
 intro pins s σ H Q I hq
 refine wpAny_Tuple_spliced (bR (h pos pins s σ H _ I hq) fun us s1 ⟨xs,H1,I1,r,z,q⟩=>⟨by rw[←r.length];exact z,?_⟩)
 have hf:H1 s1.heap.objs.size=none:=I1.hok.fresh (CM _)
 refine⟨.ref s1.heap.objs.size,upd H1 s1.heap.objs.size (.tup xs),I1.laid (t':=s1.toks) (fun b u e=>CO _ e) (CM _) ?_,rfl,q _ hf⟩
 exact⟨z,us,r,⟨_,C4 _ rfl,rfl,_,rfl⟩⟩
theorem cT (h:PA X es t):PE X (.List es pos) (qJ t):=by
 intro pins s σ H Q I hq
 refine wpAny_List_spliced (bR (h pos pins s σ H _ I hq) fun us s1 ⟨xs,H1,I1,r,z,q⟩=>⟨by rw[←r.length];exact z,?_⟩)
 have hf:H1 s1.heap.objs.size=none:=I1.hok.fresh (CM _)
 refine⟨.ref s1.heap.objs.size,upd H1 s1.heap.objs.size (.lst xs),I1.laid (t':=s1.toks) (fun b u e=>CO _ e) (CM _) ?_,rfl,q _ hf⟩
 exact⟨z,us,0,r,C4 _ rfl⟩
end
abbrev Sp:=List V→Hp→VK→XK→Prop
abbrev uL:=List Env→Hp→Shared→XK→Value→Shared→Prop
structure j7 (P:Program) (w:World) (K:CJ) (mg:Str→Option Value) (base:Heap) (A:Around) (outer:List Env) (s:Shared) (H:Hp):Prop where
 frames:A.frames=some outer
 mod:Mod K mg base
 bs:∀b o,base.get? b=some o→s.heap.get? b=some o∧H b=none
 bsz:base.objs.size≤s.heap.objs.size
 funs:s.heap.FunFrames base outer
 frf:∀b∈sS outer,H b=none
 hok:fV P w H s.heap
 bare:AllBare s.gens
def CE (outer:List Env) (P:Program) (w:World) (H:Hp) (s:Shared) (Q:VK) (u:Value) (s':Shared):Prop:=
 ∃v H',s'.os=s.os∧AllBare s'.gens∧Un (sS outer) [] H H' s.heap s'.heap∧fV P w H' s'.heap∧aT v u∧Q v H'
def CR (CX:uL) (outer:List Env) (P:Program) (w:World) (H:Hp) (s:Shared) (Q:VK) (E:XK) (r:Result) (s':Shared):Prop:=
 match r with
 | .ok (.ret u)=>CE outer P w H s Q u s'
 | .ok _=>False
 | .error e=>CX outer H s E e s'
structure bJ (P:Program) (w:World) (K:CJ) (mg:Str→Option Value) (base:Heap) (CX:uL) (k:Nat) (f:Addr) (fd:FuncData) (ps:List Str) (sp:Sp):Prop where
 len:∀vs H Q E,sp vs H Q E→vs.length=ps.length
 run:∀(A:Around) (outer:List Env) (s:Shared) (H:Hp) (args:Args) (us:List Value) (vs:List V) (Q:VK) (E:XK),bj k A→j7 P w K mg base A outer s H→BindsTo s fd args (ps.zip us)→bh vs us→sp vs H Q E→
  codeAny (model P w) A (.call (.ref f) args) (CR CX outer P w H s Q E) s
theorem j7.make {P:Program}{w:World}{K:CJ}{mg:Str→Option Value}{base:Heap}{A:Around}{outer:List Env}{s:Shared}{H:Hp}(e:j7 P w K mg base A outer s H)(C:Addr)(us:List Value)(kw:List (Str×Value)):
  j7 P w K mg base (A.under (.builtin "type.__call__" ⟨.ref C::us,kw⟩)) outer s H:=⟨by first|exact e.frames|(simpa[Around.under,Code.envs,Code.isFrame,pushEnvs] using e.frames),e.mod,e.bs,e.bsz,e.funs,e.frf,e.hok,e.bare⟩
section
variable {X:Cx} {pins:List (Addr×Obj)} {σ:St} {H:Hp} {s s':Shared}
theorem aL.env0 (I:aL X pins σ H s):j7 X.prog X.w X.K X.mg X.base X.A X.stack s H:=
 ⟨I.ok.frames,I.ok.mod,I.bs,Df I.ok.bsz I.sz,I.stack,I.stkFree,I.hok,I.bare⟩
theorem aL.after(I:aL X pins σ H s)(h:CE X.stack X.prog X.w H s Q u s'):EP X pins σ Q u s':=by
 obtain⟨v,H',os,bare,un,a,r,q⟩:=h
 obtain⟨hh,g,d,t,c⟩:=s'
 obtain rfl:c=s.os:=os
 exact⟨v,H',I.call (h':=hh) (g':=g) (d':=d) (t':=t) (ch:=[]) un a bare (fun b z=>absurd z (by simp)),r,q⟩
end
def fT (sp:Sp) (dvs:List V) (E:XK) (t:TA):TE:=fun σ H Q=>t σ H fun vs H1=>sp (vs++dvs) H1 Q E
def lY (C:Addr) (m:Str) (sp:Sp) (dvs:List V) (E:XK) (ta:TE) (t:TA):TE:=fun σ H Q=>ta σ H fun x H1=>∃a dx fs,x=.ref a∧H1 a=some (.ins C dx fs)∧fs.lookup m=none∧
 t σ H1 fun vs H2=>sp (x::(vs++dvs)) H2 Q E
def sI (C:Addr) (sp:Sp) (dvs:List V) (E:XK) (t:TA):TE:=fun σ H Q=>t σ H fun vs H1=>∀x dx,H1 x=none→H1 dx=none→dx≠x→
 sp (.ref x::(vs++dvs)) (upd (upd H1 dx (.own x)) x (.ins C dx [])) (fun v H2=>v=.non∧Q (.ref x) H2) E
def cI (K:CJ) (fd:FuncData) (ps:List Str) (ds:List Value):Prop:=
 ∀(s:Shared) (us:List Value),K.In s.heap→(us++ds).length=ps.length→BindsTo s fd ⟨us,[]⟩ (ps.zip (us++ds))
theorem cI.all {K:CJ}{fd:FuncData}{ps:List Str}(h:∀us:List Value,us.length=ps.length→bindArgs fd ⟨us,[]⟩=pure (ps.zip us)):cI K fd ps []:=fun s us _ hl=>by
 rw[Dw] at hl⊢
 exact .of_eq (h us hl)
def gm (CX:uL) (X:Cx) (E:XK):Prop:=∀(pins:List (Addr×Obj)) (σ:St) (H:Hp) (s:Shared) (e:Value) (s':Shared),aL X pins σ H s→CX X.stack H s E e s'→X.xe e s'
section
variable {X:Cx} {CX:uL} {k:Nat} {f C:Addr} {fd:FuncData} {ps:List Str} {sp:Sp} {dvs:List V} {ds:List Value} {E:XK} {x m:Str} {p pos apos:Pos} {e o:Expr} {es:List Expr} {ta:TE} {t:TA}
theorem qX {pins:List (Addr×Obj)}(F:bJ X.prog X.w X.K X.mg X.base CX k f fd ps sp)(hr:bj k X.A)(hb:cI X.K fd ps ds)(hd:bh dvs ds)(hx:gm CX X E)
  (I:aL X pins σ H s) (r:bh vs us) (h:sp (vs++dvs) H Q E):wpAny (model X.prog X.w) X.A (call (.ref f) us) (EP X pins σ Q) X.xe s:=by
 have r2:bh (vs++dvs) (us++ds):=r.append hd
 have hl:(us++ds).length=ps.length:=by rw[←r2.length];exact F.len _ _ _ _ h
 refine wpAny_call (codeAny_mono (F.run X.A X.stack s H ⟨us,[]⟩ (us++ds) (vs++dvs) Q E hr I.env0 (hb s us I.kIn hl) r2 h) fun r s' hq=>?_)
 cases r with
 |error e=>exact hx pins σ H s e s' I hq
 |ok fl=>
  cases fl with
  |ret u=>exact I.after hq
  |next=>exact False.elim hq
  |brk=>exact False.elim hq
  |cont=>exact False.elim hq
theorem ym (F:bJ X.prog X.w X.K X.mg X.base CX k f fd ps sp)(hr:bj k X.A)(hg:Gl X x)(hm:X.mg x=some (.ref f))(hk:CZ X.K (.ref f)=true)(hb:cI X.K fd ps ds)(hd:bh dvs ds)(hx:gm CX X E)
  (ha:PA X (e::es) t) (hdb:(x==("__debug__" :Str))=false:=by decide) (he:starEach (e::es) X.env=(false,eval e X.env)::starEach es X.env:=by rfl) (hpl:(backTo pos (starEach es X.env)).any (·.1)=false:=by rfl):
  PE X (.Call (.Name x p) (e::es) [] pos) (fT sp dvs E t):=by
 intro pins s σ H Q I h
 refine Ed (ky I hg hm ?_ hdb)
 refine PySem.W.callWith_K (h₀:=X.base) I.ok.mod.kin hk (bR (ha pos pins s σ H _ I h) fun us s1 ⟨vs,H1,I1,r,q⟩=>⟨I1.kIn,?_⟩) he hpl
 exact qX F hr hb hd hx I1 r q
theorem xD {pl:Sem Bool}(he:PE X o ta)(c:rG X.K C)(hm:yj X.K C m f)(F:bJ X.prog X.w X.K X.mg X.base CX k f fd ps sp)(hr:bj k X.A)(hb:cI X.K fd ps ds)(hd:bh dvs ds)(hx:gm CX X E)(ha:PA X (e::es) t)
  (hst:starEach (e::es) X.env=(false,eval e X.env)::starEach es X.env:=by rfl) (hpl:(backTo pos (starEach es X.env)).any (·.1)=false:=by rfl)
  (ht:eval (.Call (.Attribute o m apos) (e::es) [] pos) X.env=(do
   let ov←eval o X.env
   standAt apos.atName
   let (f,first)←holding [ov] (getMethod ov m pl)
   callWith pos f first (backTo pos (starEach (e::es) X.env)) (backToKw pos (keywordEach [] X.env))):=by rfl):
  PE X (.Call (.Attribute o m apos) (e::es) [] pos) (lY C m sp dvs E ta t):=by
 intro pins s σ H Q I h
 refine PySem.W.methodCall_KW (pl:=pl) (bR (he pins s σ H _ I h) fun u s1 ⟨x,H1,I1,rx,a,dx,fs,ex,ea,l,q⟩=>?_) ht
 subst ex
 obtain rfl:u=Value.ref a:=rx
 refine kP I1 ea c hm l ?_
 refine PySem.W.callWith_K (first:=[.ref a]) (h₀:=X.base) I.ok.mod.kin hm.kp (bR (ha pos pins s1 σ H1 _ I1 q) fun us s2 ⟨vs,H2,I2,r,q2⟩=>⟨I2.kIn,?_⟩) hst hpl
 exact qX (us:=.ref a::us) (vs:=.ref a::vs) F hr hb hd hx I2 (.cons rfl r) q2
theorem vc {pl:Sem Bool}(he:PE X o ta)(c:rG X.K C)(hm:yj X.K C m f)(F:bJ X.prog X.w X.K X.mg X.base CX k f fd ps sp)(hr:bj k X.A)(hb:cI X.K fd ps ds)(hd:bh dvs ds)(hx:gm CX X E)
  (ht:eval (.Call (.Attribute o m apos) [] [] pos) X.env=(do
   let ov←eval o X.env
   standAt apos.atName
   let (f,first)←holding [ov] (getMethod ov m pl)
   callWith pos f first (backTo pos (starEach [] X.env)) (backToKw pos (keywordEach [] X.env))):=by rfl):
  PE X (.Call (.Attribute o m apos) [] [] pos) (lY C m sp dvs E ta fc):=by
 intro pins s σ H Q I h
 refine PySem.W.methodCall_KW (pl:=pl) (bR (he pins s σ H _ I h) fun u s1 ⟨x,H1,I1,rx,a,dx,fs,ex,ea,l,q⟩=>?_) ht
 subst ex
 obtain rfl:u=Value.ref a:=rx
 refine kP I1 ea c hm l ?_
 exact PySem.W.callWith_K0 (first:=[.ref a]) I1.kIn hm.kp (qX (us:=[.ref a]) (vs:=[.ref a]) F hr hb hd hx I1 (.cons rfl .nil) q)
structure Mk (K:CJ) (C f:Addr):Prop where
 makes:PySem.W.makesIn K C=true
 init:Dg K (.ref C) "__init__" =some (some (.ref f))
 fn:DP K (.ref f)=true
 kp:CZ K (.ref C)=true
theorem qe {pins:List (Addr×Obj)}(M:Mk X.K C f)(F:bJ X.prog X.w X.K X.mg X.base CX k f fd ps sp)(hr:bj (k+1) X.A)(hb:cI X.K fd ps ds)(hd:bh dvs ds)
  (hx:gm CX X E) (I:aL X pins σ H s) (r:bh vs us)
  (h:∀x dx,H x=none→H dx=none→dx≠x→sp (.ref x::(vs++dvs)) (upd (upd H dx (.own x)) x (.ins C dx [])) (fun v H2=>v=.non∧Q (.ref x) H2) E):
  wpAny (model X.prog X.w) X.A (call (.ref C) us) (EP X pins σ Q) X.xe s:=by
 have hq:=h (s.heap.objs.size+1) s.heap.objs.size (I.hok.fresh (Nat.le_succ _)) (I.hok.fresh (CM _)) (C6 (Fc _))
 have I2:=aL.made (C:=C) I
 have r2:bh (V.ref (s.heap.objs.size+1)::(vs++dvs)) (Value.ref (s.heap.objs.size+1)::(us++ds)):=.cons rfl (r.append hd)
 have hl:(Value.ref (s.heap.objs.size+1)::us++ds).length=ps.length:=by
  have e:=r2.length
  rw[F.len _ _ _ _ hq] at e
  exact e.symm
 refine wpAny_call (vq (f:=f) I.kIn M.makes M.init (beq_iff_eq.mp M.fn) (codeAny_mono (F.run _ X.stack _ _ ⟨Value.ref (s.heap.objs.size+1)::us,[]⟩ (Value.ref (s.heap.objs.size+1)::(us++ds)) _ _ E (hr.make C us [])
  (I2.env0.make C us []) (hb _ (Value.ref (s.heap.objs.size+1)::us) I2.kIn hl) r2 hq) fun r s' hq'=>?_))
 cases r with
 |error e=>exact hx pins σ _ _ e s' I2 hq'
 |ok fl=>
  cases fl with
  |ret u=>
   obtain⟨v,H',I3,rv,ev,q3⟩:=I2.after hq'
   subst ev
   exact⟨rv,⟨V.ref (s.heap.objs.size+1),H',I3,rfl,q3⟩⟩
  |next=>exact False.elim hq'
  |brk=>exact False.elim hq'
  |cont=>exact False.elim hq'
theorem yp (M:Mk X.K C f)(F:bJ X.prog X.w X.K X.mg X.base CX k f fd ps sp)(hr:bj (k+1) X.A)(hg:Gl X x)(hm:X.mg x=some (.ref C))(hb:cI X.K fd ps ds)(hd:bh dvs ds)(hx:gm CX X E)
  (ha:PA X (e::es) t) (hdb:(x==("__debug__" :Str))=false:=by decide) (he:starEach (e::es) X.env=(false,eval e X.env)::starEach es X.env:=by rfl) (hpl:(backTo pos (starEach es X.env)).any (·.1)=false:=by rfl):
  PE X (.Call (.Name x p) (e::es) [] pos) (sI C sp dvs E t):=by
 intro pins s σ H Q I h
 refine Ed (ky I hg hm ?_ hdb)
 refine PySem.W.callWith_K (h₀:=X.base) I.ok.mod.kin M.kp (bR (ha pos pins s σ H _ I h) fun us s1 ⟨vs,H1,I1,r,q⟩=>⟨I1.kIn,?_⟩) he hpl
 exact qe M F hr hb hd hx I1 r q
theorem vA (M:Mk X.K C f)(F:bJ X.prog X.w X.K X.mg X.base CX k f fd ps sp)(hr:bj (k+1) X.A)(hg:Gl X x)(hm:X.mg x=some (.ref C))(hb:cI X.K fd ps ds)(hd:bh dvs ds)(hx:gm CX X E)
  (hdb:(x==("__debug__" :Str))=false:=by decide):PE X (.Call (.Name x p) [] [] pos) (sI C sp dvs E fc):=by
 intro pins s σ H Q I h
 refine Ed (ky I hg hm ?_ hdb)
 exact PySem.W.callWith_K0 I.kIn M.kp (qe (us:=[]) M F hr hb hd hx I .nil h)
end
section
variable {X:Cx} {CX:uL} {k:Nat} {f C:Addr} {fd:FuncData} {ps ks:List Str} {sp:Sp} {E:XK} {x m:Str} {p pos apos kpos:Pos} {e o:Expr} {es:List Expr} {kws:List Keyword} {te ta:TE} {t tk:TA} {nm:Option Str}
variable {g:List Value→List Value→List Value} {gV:List V→List V→List V}
end
structure aM (N P:List Str) (sc:Scope):Prop where
 kind:sc.kind=.function
 co:sc.isCoroutine=false
 gen:sc.isGenerator=false
 nd:N.Nodup
 pre:N.take P.length=P
 par:∀x∈P,sc.names.lookup x=some .local∨sc.names.lookup x=some .cell
 nofree:∀y∈sc.names,y.2≠.free
theorem nM {kindOf:Str→Option NameKind}:∀{binds:List (Str×Value)} {m:Str→Option Value},(∀v,(x,v)∉binds)→bindL kindOf binds m x=m x
 |[],_,_=>rfl
 |(n,v)::r,m,h=>by
  unfold bindL
  rw[nM fun w hw=>h w (Dh _ hw)]
  split
  ·have:x≠n:=by rintro rfl;exact h v Dk
   simp[this]
  ·rfl
theorem mU {kindOf:Str→Option NameKind}:∀{binds:List (Str×Value)} {m:Str→Option Value},(∀v,(x,v)∉binds)→bindC kindOf binds m x=m x
 |[],_,_=>rfl
 |(n,v)::r,m,h=>by
  unfold bindC
  rw[mU fun w hw=>h w (Dh _ hw)]
  split
  ·rfl
  ·have:x≠n:=by rintro rfl;exact h v Dk
   simp[this]
theorem m6 {kindOf:Str→Option NameKind}:∀{P:List Str} {vs:List Value} {i:Nat} {m:Str→Option Value},P.Nodup→P[i]?=some x→vs[i]?=some v→kindOf x=some .local→
  bindL kindOf (P.zip vs) m x=some v
 |[],_,_,_,_,h,_,_=>by simp at h
 |_::_,[],_,_,_,_,h,_=>by simp at h
 |p::P,w::vs,0,m,nd,h1,h2,hk=>by
  simp at h1 h2;subst h1;subst h2
  show bindL kindOf ((p,w)::P.zip vs) m p=_
  unfold bindL
  rw[nM fun v hv=>(Ds.mp nd).1 (Fd hv).1,if_pos hk]
  simp
 |p::P,w::vs,i+1,m,nd,h1,h2,hk=>by
  show bindL kindOf ((p,w)::P.zip vs) m x=_
  unfold bindL
  exact m6 (i:=i) (Ds.mp nd).2 (by simpa using h1) (by simpa using h2) hk
theorem nW {kindOf:Str→Option NameKind}:∀{P:List Str} {vs:List Value} {i:Nat} {m:Str→Option Value},P.Nodup→P[i]?=some x→vs[i]?=some v→kindOf x≠some .local→
  bindC kindOf (P.zip vs) m x=some v
 |[],_,_,_,_,h,_,_=>by simp at h
 |_::_,[],_,_,_,_,h,_=>by simp at h
 |p::P,w::vs,0,m,nd,h1,h2,hk=>by
  simp at h1 h2;subst h1;subst h2
  show bindC kindOf ((p,w)::P.zip vs) m p=_
  unfold bindC
  rw[mU fun v hv=>(Ds.mp nd).1 (Fd hv).1,if_neg hk]
  simp
 |p::P,w::vs,i+1,m,nd,h1,h2,hk=>by
  show bindC kindOf ((p,w)::P.zip vs) m x=_
  unfold bindC
  exact nW (i:=i) (Ds.mp nd).2 (by simpa using h1) (by simpa using h2) hk
noncomputable def start (N:List Str) (vs:List V):St:=vs.map some++List.replicate (N.length - vs.length) none
noncomputable def mz (CX:uL) (P:Program) (w:World) (K:CJ) (mg:Str→Option Value) (base:Heap) (N:List Str) (qual:Str) (scope:Scope) (f:Addr) (cd:Value) (A:Around) (outer:List Env) (s:Shared) (H:Hp) (E:XK):Cx where
 prog:=P
 w:=w
 K:=K
 mg:=mg
 base:=base
 A:=A.deeper (envOfC qual scope s.heap.objs.size f cd)
 N:=N
 s₀:=s
 H₀:=H
 env:=envOfC qual scope s.heap.objs.size f cd
 outer:=outer
 stack:=envOfC qual scope s.heap.objs.size f cd::outer
 ex:=[]
 calm:=true
 fn:=fun _=>true
 pn:=[]
 xe:=fun e s'=>wpAny (model P w) (A.deeper (envOfC qual scope s.heap.objs.size f cd)) (leaving (envOfC qual scope s.heap.objs.size f cd) e) (fun _ s''=>CX outer H s E e s'') (fun e' s''=>CX outer H s E e' s'') s'
theorem pN {sc:Scope}{n:Nat}{x:Str}(h:sc.names.lookup x=some .cell):∃c,(cellsFrom n sc.names []).lookup x=some c:=by
 have q:=PySem.W.cellsFrom_some sc.names n [] (.inl h)
 exact Ey.mp q
theorem m7 {CX:uL}{P:Program}{w:World}{K:CJ}{mg:Str→Option Value}{base:Heap}{N ps:List Str}{qual:Str}{scope:Scope}{f:Addr}{cd:Value}{A:Around}{outer:List Env}{s s1:Shared}{H:Hp}{E:XK}{us:List Value}{vs:List V}
  (S:aM N ps scope) (hd:A.handled=none) (e0:j7 P w K mg base A outer s H) (hl:vs.length=ps.length) (r:bh vs us)
  (x:InCallC s s.heap.objs.size (bindL (envOfC qual scope s.heap.objs.size f cd).kindOf (ps.zip us) fun _=>none) (cellsFrom (s.heap.objs.size+1) scope.names []) (bindC (envOfC qual scope s.heap.objs.size f cd).kindOf (ps.zip us) fun _=>none) s1):
  aL (mz CX P w K mg base N qual scope f cd A outer s H E) [] (start N vs) H s1:=by
 have j:ps.length≤N.length:=by have:=congrArg List.length S.pre;rw[Dx] at this;lia
 obtain⟨h1,tk,rfl,hk⟩:=x.done
 have d:∀b:Addr,b∉(mz CX P w K mg base N qual scope f cd A outer s H E).ex:=fun b z=>absurd (show b∈([]:List Addr) from z) (by simp)
 refine⟨⟨e0.mod,S.kind,rfl,rfl,CM _,fun y z c h1 h2=>?_,fun y hy=>?_,fun y c _ h=>?_,fun _=>hd,Around.frames_deeper e0.frames,.inr ⟨rfl,rfl⟩,fun b z=>absurd z (d b),e0.bs,e0.bsz,fun b _ _=>d b,fun b z=>absurd z (d b),e0.funs,e0.frf⟩,
  rfl,e0.bare,Un.kept hk,⟨_,x.toInCall.ns,fun i y v h1 h2 h3=>?_⟩,fun y c h=>⟨_,x.cell y c h⟩,e0.hok.fresh (CM _),fun y c h=>?_,fun p hp=>absurd (show p∈([]:List (Addr×Obj)) from hp) (by simp),e0.hok.kept hk,?_⟩
 ·exact name_of_addr x.apart (PySem.mem_of_lookup h1) (PySem.mem_of_lookup h2)
 ·have hy:scope.names.lookup y=some .cell∨scope.names.lookup y=some .free:=hy
  rcases hy with hy|hy
  ·exact pN hy
  ·exact absurd rfl (S.nofree _ (PySem.mem_of_lookup hy))
 ·exact Nat.le_of_lt (x.above y c (PySem.mem_of_lookup h))
 ·have hi:i<vs.length:=by
   unfold start at h2
   by_cases hi:i<vs.length
   ·exact hi
   ·rw[Ee (by simpa using hi)] at h2
    rw[List.getElem?_replicate] at h2
    split at h2<;>cases h2
  have ha:vs[i]?=some v:=by
   unfold start at h2
   rw[Ef (by simpa using hi),CW] at h2
   cases e:vs[i]? with
   |none=>rw[e] at h2;cases h2
   |some a=>rw[e] at h2;cases h2;rfl
  obtain⟨u,hu,rv⟩:=r.get ha
  have hp:ps[i]?=some y:=by
   rw[←S.pre,D3 (by lia)];exact h1
  have g:ps.Nodup:=by rw[←S.pre];exact S.nd.sublist (List.take_sublist _ _)
  refine⟨u,rv,?_⟩
  rcases S.par y (C2 hp) with k|k
  ·exact .inl ⟨k,m6 g hp hu k⟩
  ·obtain⟨c,e⟩:=pN (n:=s.heap.objs.size+1) k
   refine .inr ⟨.inl k,c,e,?_⟩
   have q:=x.cell y c e
   rw[nW g hp hu (by show scope.names.lookup y≠_;rw[k];decide)] at q
   exact q
 ·exact e0.hok.fresh (Nat.le_of_lt (x.above y c (PySem.mem_of_lookup h)))
 ·unfold start
  show _=N.length
  rw[C_,CK,EV]
  lia
theorem zf {CX:uL}{P:Program}{w:World}{K:CJ}{mg:Str→Option Value}{base:Heap}{k:Nat}{f:Addr}{name qual:Str}{params:Arguments}{body:List Stmt}{scope:Scope}{dV kV doc pm cdv ct oc:Value}{an od:Option Addr}
  {osl:Array (Option Value)} {N ps:List Str} {sp:Sp} (lk:K.lookup f=some ⟨oc,od,.func (CT name qual params body scope dV kV doc pm an cdv ct),osl⟩) (hcd:C1 K cdv qual=true) (S:aM N ps scope)
  (len:∀vs H Q E,sp vs H Q E→vs.length=ps.length)
  (hbody:∀(A:Around) (outer:List Env) (s:Shared) (H:Hp) (vs:List V) (Q:VK) (E:XK),bj k (A.deeper (envOfC qual scope s.heap.objs.size f cdv))→sp vs H Q E→
   ∃t,sG (mz CX P w K mg base N qual scope f cdv A outer s H E) body t∧t {nx:=fun _ H'=>Q .non H',rt:=Q} (start N vs) H):
  bJ P w K mg base CX (k+1) f (CT name qual params body scope dV kV doc pm an cdv ct) ps sp:=by
 refine⟨len,fun A outer s H args us vs Q E hr e0 hb r hsp=>?_⟩
 have hl:=len _ _ _ _ hsp
 have KX:K.In s.heap:=e0.mod.kin.keeps fun b o e=>(e0.bs b o e).1
 have d:s.heap.NoLimit:=e0.mod.nolimit.keeps fun b o e=>(e0.bs b o e).1
 have a:∀y∈ps.zip us,scope.names.lookup y.1=some .local∨(scope.names.lookup y.1=some .cell∧((cellsFrom (s.heap.objs.size+1) scope.names []).lookup y.1).isSome=true):=fun⟨n,v⟩ hy=>by
  rcases S.par n (Fd hy).1 with q|q
  ·exact .inl q
  ·exact .inr ⟨q,PySem.W.cellsFrom_some _ _ _ (.inl q)⟩
 refine codeAny_call_function hr.depth (KX _ _ lk) rfl S.co S.gen rfl (PySem.W.codeRec_of KX hcd) (hb _ _ _ _ ?_)
 refine wpAny_newFunctionEnv_cells S.kind a fun env he s1 x=>?_
 subst he
 refine⟨d.keeps x.toInCall.keep,codeAny_func ?_⟩
 obtain⟨t,ht,hq⟩:=hbody A outer s H vs Q E (hr.deeper _) hsp
 have I:aL (mz CX P w K mg base N qual scope f cdv A outer s H E) [] (start N vs) H s1:=m7 S hr.hd e0 hl r x
 refine Dy (ht [] s1 (start N vs) H _ I hq) (fun fl s' hs=>?_) fun e s' hs=>hs
 have c:∀{σ':St} {H':Hp} {v:V} {u:Value},aL (mz CX P w K mg base N qual scope f cdv A outer s H E) [] σ' H' s'→aT v u→Q v H'→CE outer P w H s Q u s':=
  fun{σ' H' v u} J rv q=>⟨v,H',J.os,J.bare,J.base,J.hok,rv,q⟩
 cases fl with
 |ret u=>
  obtain⟨v,σ',H',J,rv,q⟩:=hs
  exact c J rv q
 |next=>
  obtain⟨σ',H',J,q⟩:=hs
  exact c (v:=V.non) (u:=Value.none) J rfl q
 |brk=>
  obtain⟨_,_,_,q⟩:=hs
  exact False.elim q
 |cont=>
  obtain⟨_,_,_,q⟩:=hs
  exact False.elim q
section
variable {X:Cx} {x:Str} {p pos:Pos} {e:Expr} {es:List Expr} {t:TA} {id T:String} {r:List V→Hp→VK→Prop}
def zQ (r:List V→Hp→VK→Prop) (t:TA):TE:=fun σ H Q=>t σ H fun vs H1=>r vs H1 Q
theorem aK (hc:dO X (.builtin id) r)(hg:Gl X x)(hm:X.mg x=none)(hv:bootBuiltins x=some (.builtin id))(ha:PA X (e::es) t)(hn:x≠ "__name__" :=by decide)(hdb:(x==("__debug__" :Str))=false:=by decide)
  (he:starEach (e::es) X.env=(false,eval e X.env)::starEach es X.env:=by rfl) (hpl:(backTo pos (starEach es X.env)).any (·.1)=false:=by rfl):PE X (.Call (.Name x p) (e::es) [] pos) (zQ r t):=by
 intro pins s σ H Q I h
 refine Ed (fH I hg hm hv ?_ hn hdb)
 exact PyProof.Rows.callWith_builtin1 (bR (ha pos pins s σ H _ I h) fun us s1 ⟨vs,H1,I1,r1,q1⟩=>hc pins s1 σ H1 vs us Q I1 r1 q1) he hpl
theorem bK (hc:dO X (.type T) r)(hg:Gl X x)(hm:X.mg x=none)(hv:bootBuiltins x=some (.type T))(ha:PA X (e::es) t)(hn:x≠ "__name__" :=by decide)(hdb:(x==("__debug__" :Str))=false:=by decide)
  (he:starEach (e::es) X.env=(false,eval e X.env)::starEach es X.env:=by rfl) (hpl:(backTo pos (starEach es X.env)).any (·.1)=false:=by rfl):PE X (.Call (.Name x p) (e::es) [] pos) (zQ r t):=by
 intro pins s σ H Q I h
 refine Ed (fH I hg hm hv ?_ hn hdb)
 exact PyProof.Rows.callWith_type1 (bR (ha pos pins s σ H _ I h) fun us s1 ⟨vs,H1,I1,r1,q1⟩=>hc pins s1 σ H1 vs us Q I1 r1 q1) he hpl
end
end L2
namespace HT
open PySem PyProof.Rows
noncomputable def lexLt:List Int→List Int→Bool
 |[],[]=>false
 |[],_::_=>true
 |_::_,[]=>false
 |x::xs,y::ys=>if x=y then lexLt xs ys else decide (x<y)
theorem lexLt_cons (x y:Int)(xs ys:List Int):lexLt (x::xs) (y::ys)=if x=y then lexLt xs ys else decide (x<y):=rfl
theorem lexLt_nil_nil:lexLt [] []=false:=rfl
theorem lexLt_nil_cons (y:Int)(ys:List Int):lexLt [] (y::ys)=true:=rfl
theorem lexLt_cons_nil (x:Int)(xs:List Int):lexLt (x::xs) []=false:=rfl
theorem uP (A:Around)(s:Shared)(a:Int)(t:Tok)(c:Int)(u:Tok):∃e,SeqAt.EqAt A s (.int a t) (.int c u) e∧(e=true↔a=c):=
 ⟨(a==c),SeqAt.EqAt.int_int a t c u,by simp⟩
theorem rcLt_int (A:Around)(s:Shared)(a:Int)(t:Tok)(c:Int)(u:Tok)(prog:Program)(w:World)(E:Value→Shared→Prop)(Q:Value→Shared→Prop)(h:Q (.bool (decide (a<c))) s):
  wpAny (model prog w) A (richCompare .Lt (.int a t) (.int c u)) Q E s:=
 (PyProof.Rows.lt_int h:wpAny (model prog w) A (compareOp .Lt (.int a t) (.int c u)) Q E s)
section
open PySem.SeqAt
open PySem.AutoSeq1 (wpAny_loadPart')
open PySem.MeetsSeq PySem.MeetsSeq2 PySem.MeetsSeq3
theorem mr (l b:Addr)(items items2:Array Value)(n n2:Nat)(dd dd2:Option Addr)(sl sl2:Array (Option Value))(ns ms:List Int)(hi:IntsAre items.toList ns)(hj:IntsAre items2.toList ms):
  Meets (Builtin.«tuple.__lt__» ⟨[.ref l,.ref b],[]⟩)
   (fun _ R s=>s.heap.get? l=some {cls:=.type "tuple",dict:=dd,data:=.seq items n,slots:=sl}∧s.heap.get? b=some {cls:=.type "tuple",dict:=dd2,data:=.seq items2 n2,slots:=sl2}∧
    R (.ok (.ret (.bool (lexLt ns ms)))) s):=
 .of_wp fun prog w A R s h=>by
  obtain⟨hp,g,d,tk,os⟩:=s;obtain⟨hl,hb,h⟩:=h
  have f2:=AutoSeq1.sub_tuple_tuple
  have z1:items.size=ns.length:=by rw[←hi.length];simp
  have z2:items2.size=ms.length:=by rw[←hj.length];simp
  wp_walk using wpAny_loadPart' hl,wpAny_loadPart' hb,Fe _ (fun bC b s'=>b.1=none∧s'=⟨hp,g,d,tk,os⟩∧∃(vs ws:List Value) (ns' ms':List Int),bC=vs.zip ws∧
   IntsAre vs ns'∧IntsAre ws ms'∧ns'.length+items2.size=ms'.length+items.size∧R (.ok (.ret (.bool (lexLt ns' ms')))) ⟨hp,g,d,tk,os⟩) _
  case turn=>
   rintro⟨y,x⟩ bC b s' ⟨hb',rfl,vs,ws,ns',ms',hz,hvi,hwi,hlen,hR⟩
   cases hvi with
   |nil=>rw[List.zip_nil_left] at hz;cases hz
   |cons a t hvi'=>
    cases hwi with
    |nil=>rw[List.zip_nil_right] at hz;cases hz
    |cons c u hwi'=>
     rw[EH] at hz
     injection hz with hyx hrest
     injection hyx with hy hx
     subst hy hx
     rw[lexLt_cons] at hR
     simp only[Dl] at hlen
     obtain⟨e,he,hiff⟩:=uP A.in1 ⟨hp,g,d,tk,os⟩ a t c u
     refine CH (he prog w _ _ ?_)
     cases e with
     |true=>
      rw[if_pos (hiff.mp rfl)] at hR
      wp_walk
      exact⟨rfl,rfl,_,_,_,_,hrest,hvi',hwi',by lia,hR⟩
     |false=>
      rw[if_neg (fun q=>absurd (hiff.mpr q) C0)] at hR
      have hri:=rcLt_int A.in1 ⟨hp,g,d,tk,os⟩ a t c u prog w
      wp_walk using hri
      exact⟨_,rfl,by simpa using hR⟩
  case fin=>
   rintro⟨b1,b2⟩ s' ⟨hb',rfl,vs,ws,ns',ms',hz,hvi,hwi,hlen,hR⟩
   simp only at hb'
   subst hb'
   have hv:lexLt ns' ms'=decide (items.size<items2.size):=by
    cases hvi with
    |nil=>
     cases hwi with
     |nil=>
      simp only[Ff] at hlen
      rw[lexLt_nil_nil]
      exact(decide_eq_false (by lia)).symm
     |cons c u hw=>
      simp only[Ff,Dl] at hlen
      rw[lexLt_nil_cons]
      exact(decide_eq_true (by lia)).symm
    |cons a t hv=>
     cases hwi with
     |nil=>
      simp only[Ff,Dl] at hlen
      rw[lexLt_cons_nil]
      exact(decide_eq_false (by lia)).symm
     |cons c u hw=>
      rw[EH] at hz
      cases hz
   rw[hv] at hR
   wp_walk
   exact⟨_,rfl,by simpa[Builtin.Tuple.tupleCompareSizes] using hR⟩
  case h=>
   exact⟨rfl,rfl,items.toList,items2.toList,ns,ms,rfl,hi,hj,by lia,h⟩
end
section
variable {prog:Program} {w:World} {A:Around} {E:Value→Shared→Prop} {s:Shared}
theorem lt_tupInts(hl:IsTup s.heap l items)(hb:IsTup s.heap b items2)(hi:IntsAre items.toList ns)(hj:IntsAre items2.toList ms)
  (hu:A.units<cLine) (h:Q (.bool (lexLt ns ms)) s):wpAny (model prog w) A (compareOp .Lt (.ref l) (.ref b)) Q E s:=by
 obtain⟨⟨k,dd,i,sl⟩,ho,hc,n,hd⟩:=id hl
 obtain⟨⟨j,f,g,e⟩,d,c,n2,a⟩:=id hb
 simp only at hc hd c a
 subst hc hd c a
 exact richCompare_meets_room (op:=.Lt) ⟨_,ho,rfl⟩ ⟨_,d,rfl⟩ PySem.F.slot_tuple_lt PySem.F.entry_tuple_lt (PySem.F.args_tuple_lt_2 _ _) (mr l b items items2 n n2 dd f sl e ns ms hi hj)
  ⟨ho,d,show Value.bool (lexLt ns ms)≠Value.notImplemented∧Q (.bool (lexLt ns ms)) s from⟨(fun x=>nomatch x),h⟩⟩ hu
noncomputable def sIx (n d:Nat):Option Int→Nat
 |none=>d
 |some v=>if v<0 then (v+(n:Int)).toNat else min v.toNat n
theorem sIx_none (n d:Nat):sIx n d none=d:=rfl
theorem sIx_nat (n d k:Nat):sIx n d (some (k:Int))=min k n:=by
 show(if (k:Int)<0 then ((k:Int)+(n:Int)).toNat else min (k:Int).toNat n)=min k n
 rw[if_neg (by lia),DQ]
end
end HT
namespace L2
open PySem PySem.Spec PyProof.Rows
abbrev TO:=St→Hp→(Option Int→Hp→Prop)→Prop
def PO (X:Cx) (e:Option Expr) (t:TO):Prop:=
 ∀(pins:List (Addr×Obj)) (s:Shared) (σ:St) (H:Hp) (Q:Option Int→Hp→Prop),aL X pins σ H s→t σ H Q→
  wpAny (model X.prog X.w) X.A (evalPart e X.env) (fun u s'=>∃o H',aL X pins σ H' s'∧IsPart u o∧Q o H') X.xe s
def xC:TO:=fun _ H Q=>Q none H
noncomputable def Bf (t:TE):TO:=fun σ H Q=>t σ H fun x H1=>∃i,x=.int i∧Q (some i) H1
theorem lR:∀{us:List Value},bh (ns.map V.int) us→IntsAre us ns:=by
 induction ns with
 |nil=>intro us r;rw[List.map_nil] at r;cases r;exact .nil
 |cons n ns ih=>
  intro us r
  rw[C5] at r
  cases r with
  |cons r1 r2=>
   obtain⟨t,e⟩:=r1
   subst e
   exact .cons n t (ih r2)
section
variable {X:Cx} {e:Expr} {te:TE} {lo hi:Option Expr} {tl th:TO} {pos p2:Pos}
theorem xt:PO X none xC:=by
 intro pins s σ H Q I h
 rw[evalPart_none]
 exact CI ⟨none,H,I,.none,h⟩
theorem xc (h:PE X e te):PO X (some e) (Bf te):=by
 intro pins s σ H Q I hw
 rw[evalPart_some]
 refine bR (h pins s σ H _ I hw) fun u s1 ⟨x,H1,I1,r1,q1⟩=>?_
 obtain⟨i,rfl,q⟩:=q1
 obtain⟨t,rfl⟩:=r1
 exact⟨some i,H1,I1,.int i t,q⟩
def Ce (X:Cx) (r:V→Option Int→Option Int→Hp→VK→Prop):Prop:=
 ∀(pins:List (Addr×Obj)) (s:Shared) (σ:St) (H:Hp) (x:V) (v vl vu:Value) (lo hi:Option Int) (sl:Addr) (Q:VK),aL X pins σ H s→aT x v→s.heap.IsSliceOf sl vl vu .none→IsPart vl lo→IsPart vu hi→r x lo hi H Q→
  ∃T id,typeLookup (.type T) "__getitem__" =pure (some (.builtin id))∧s.TypeIs v T∧wpAny (model X.prog X.w) X.A (getItem v (.ref sl)) (EP X pins σ Q) X.xe s
def Cj (r:V→Option Int→Option Int→Hp→VK→Prop) (te:TE) (tl th:TO):TE:=fun σ H Q=>te σ H fun x H1=>tl σ H1 fun l H2=>th σ H2 fun u H3=>r x l u H3 Q
theorem wJ {r:V→Option Int→Option Int→Hp→VK→Prop}(hr:Ce X r)(he:PE X e te)(hl:PO X lo tl)(hu:PO X hi th):PE X (.Subscript e (.Slice lo hi none p2) pos) (Cj r te tl th):=by
 intro pins s σ H Q I h
 refine Subscript_ (bR (he pins s σ H _ I h) fun v s1 ⟨x,H1,I1,r1,q1⟩=>?_)
 refine wpAny_Slice (bR (hl pins s1 σ H1 _ I1 q1) fun vl s2 ⟨l,H2,I2,pl,q2⟩=>bR (hu pins s2 σ H2 _ I2 q2) fun vu s3 ⟨u,H3,I3,pu,q3⟩=>?_)
 rw[evalPart_none]
 refine CI ?_
 have I4:aL X pins σ H3 {s3 with heap:=s3.heap.push {cls:=.type "slice",data:=.fields #[vl,vu,.none]}}:=I3.kept (t':=s3.toks) fun b ob q=>CO _ q
 obtain⟨T,id,hT,ht,hg⟩:=hr pins {s3 with heap:=s3.heap.push {cls:=.type "slice",data:=.fields #[vl,vu,.none]}} σ H3 x v vl vu l u s3.heap.objs.size Q I4 r1 (Heap.IsSliceOf.new ..) pl pu q3
 show wpAny (model X.prog X.w) X.A (subscriptTail e (.Slice lo hi none p2) v (.ref s3.heap.objs.size)) (EP X pins σ Q) X.xe {s3 with heap:=s3.heap.push {cls:=.type "slice",data:=.fields #[vl,vu,.none]}}
 exact tail_any (ops:=[.ref s3.heap.objs.size,v]) ht hT hg (by with_unfolding_all rfl)
noncomputable def pQ (xs:List V) (lo hi:Option Int):List V:=(xs.drop (HT.sIx xs.length 0 lo)).take (HT.sIx xs.length xs.length hi - HT.sIx xs.length 0 lo)
theorem qt (xs:List V)(lo hi:Option Int):(pQ xs lo hi).length≤xs.length:=by
 unfold pQ
 rw[Dx,EW]
 lia
end
noncomputable def sO (n:Nat) (i:Int):Option Nat:=if 0≤i then (if i<n then some i.toNat else none) else if -(n:Int)≤i then some (i+n).toNat else none
noncomputable def je {α:Type} (xs:List α) (i:Int):Option α:=(sO xs.length i).bind fun j=>xs[j]?
theorem sR(h:sO n i=some j):seqIndex? i n=some j∧j<n∧ -(n:Int)≤i∧i<n:=by
 unfold sO at h
 by_cases h0:0≤i
 ·rw[if_pos h0] at h
  by_cases h1:i<n
  ·rw[if_pos h1] at h
   have e:i.toNat=j:=Option.some.inj h
   exact⟨by rw[seqIndex_of h0 h1,e],by lia,by lia,h1⟩
  ·rw[if_neg h1] at h;cases h
 ·rw[if_neg h0] at h
  by_cases h1: -(n:Int)≤i
  ·rw[if_pos h1] at h
   have e:(i+n).toNat=j:=Option.some.inj h
   exact⟨by rw[seqIndex_neg (by lia) h1,e],by lia,h1,by lia⟩
  ·rw[if_neg h1] at h;cases h
theorem sJ {α:Type}{xs:List α}{v:α}(h:je xs i=some v):∃j,seqIndex? i xs.length=some j∧xs[j]?=some v∧j<xs.length∧ -(xs.length:Int)≤i∧i<xs.length:=by
 unfold je at h
 cases e:sO xs.length i with
 |none=>rw[e] at h;cases h
 |some j=>
  rw[e] at h
  obtain⟨h1,h2,h3,h4⟩:=sR e
  exact⟨j,h1,h,h2,h3,h4⟩
theorem cA {α:Type}{xs:List α}{j:Nat}{v:α}(h:xs[j]?=some v):je xs (j:Int)=some v:=by
 have hj:j<xs.length:=(C7.mp h).1
 have e:sO xs.length (j:Int)=some j:=by
  unfold sO
  rw[if_pos (by lia),if_pos (by lia)];simp
 unfold je;rw[e];exact h
theorem p8 {α:Type}(xs:List α)(v:α):je (xs++[v]) (-1)=some v:=by
 have hl:(xs++[v]).length=xs.length+1:=by simp
 have e:sO (xs++[v]).length (-1)=some xs.length:=by
  unfold sO
  rw[hl,if_neg (by decide),if_pos (by lia)]
  congr 1
  lia
 unfold je
 rw[e]
 show(xs++[v])[xs.length]?=some v
 simp
def yF (b:Expr):Prop:=∀o i,subscripted b false o i=operate [o,i] (getItem o i)
def Bb (X:Cx) (r:R2):Prop:=
 ∀(value slice:Expr) (pins:List (Addr×Obj)) (s:Shared) (σ:St) (H:Hp) (x y:V) (v u:Value) (Q:VK),aL X pins σ H s→aT x v→aT y u→r x y H Q→
  subscripted slice false v u=operate [v,u] (getItem v u)→wpAny (model X.prog X.w) X.A (subscriptTail value slice v u) (EP X pins σ Q) X.xe s
def Bs (X:Cx) (id:String) (r:V→List V→Hp→VK→Prop):Prop:=
 ∀(pins:List (Addr×Obj)) (s:Shared) (σ:St) (H:Hp) (x:V) (xs:List V) (v:Value) (us:List Value) (Q:VK),aL X pins σ H s→aT x v→bh xs us→r x xs H Q→
  wpAny (model X.prog X.w) X.A (call (.builtin id) (v::us)) (EP X pins σ Q) X.xe s
section
variable {X:Cx} {a b:Expr} {ta tb:TE} {pos:Pos}
theorem aC(hr:Bb X r)(ha:PE X a ta)(hb:PE X b tb)(hs:yF b):PE X (.Subscript a b pos) (fb r ta tb):=by
 intro pins s σ H Q I h
 exact Subscript_ (Ao ha hb I h fun v u s2 x y H2 I2 rx ry q=>hr a b pins s2 σ H2 x y v u Q I2 rx ry q (hs _ _))
def oO (K:CJ):R2:=fun x y H Q=>∃p xs i v,x=.ref p∧y=.int i∧bg K H p xs∧je xs i=some v∧Q v H
def jZ (K:CJ):R2:=fun x y H Q=>∃p xs i v,x=.ref p∧y=.int i∧bH K H p xs∧je xs i=some v∧Q v H
theorem aU:Bb X (oO X.K):=by
 intro value slice pins s σ H x y v u Q I rx ry h hs
 obtain⟨p,xs,i,z,rfl,rfl,hq,he,q⟩:=h
 cases rx
 obtain⟨t,rfl⟩:=ry
 obtain⟨c,r,pl,hz⟩:=I.list hq
 obtain⟨j,h1,h2,h3,h4,h5⟩:=sJ he
 obtain⟨w,ew,b⟩:=r.get h2
 have hl:=r.length
 have hn:=ow
 have a:EP X pins σ Q w s:=⟨z,H,I,b,q⟩
 by_cases h0:0≤i
 ·have hj:i.toNat=j:=by
   rw[seqIndex_of h0 h5] at h1
   exact Option.some.inj h1
  exact item_listR pl.isList h0 (by lia) (by rw[hj];simpa using ew) a hs
 ·have hj:(i+(c.toArray.size:Int)).toNat=j:=by
   rw[seqIndex_neg (by lia) h4] at h1
   rw[De,←hl]
   exact Option.some.inj h1
  exact subscriptTail_builtinR (x:=w) pl.isList.typeIs slot_list_getitem.lookup
   (wpAny_getItem_list_neg (Q:=fun r s'=>r=w∧EP X pins σ Q r s') pl.isList (by lia) (by rw[De]<;>lia) (by lia) (by rw[hj];simpa using ew) ⟨rfl,a⟩) hs
theorem aH:Bb X (jZ X.K):=by
 intro value slice pins s σ H x y v u Q I rx ry h hs
 obtain⟨p,xs,i,z,rfl,rfl,hq,he,q⟩:=h
 cases rx
 obtain⟨t,rfl⟩:=ry
 obtain⟨c,r,pl,hz⟩:=I.tuple hq
 obtain⟨j,h1,h2,h3,h4,h5⟩:=sJ he
 obtain⟨w,ew,a⟩:=r.get h2
 have hl:=r.length
 have hn:=ow
 have b:EP X pins σ Q w s:=⟨z,H,I,a,q⟩
 exact subscriptTail_builtinR (x:=w) pl.typeIs slot_tuple_getitem.lookup
  (getItem_tuple (j:=j) (Q:=fun r s'=>r=w∧EP X pins σ Q r s') pl (by lia) (by lia) (by rw[De,←hl];exact h1) (by simpa using ew) ⟨rfl,b⟩) hs
theorem rj (its:List Value)(n j:Nat)(u:Value):Obj.mapSeq (·.setIfInBounds j u) {cls:=.type "list",data:=.seq its.toArray n}={cls:=.type "list",data:=.seq (its.set j u).toArray n}:=by
 simp[Obj.mapSeq]
theorem aL.lst {pins:List (Addr×Obj)}(I:aL X pins σ H s)(h:H p=some (.lst xs)):
  ∃(its:List Value) (n:Nat),bh xs its∧s.heap.get? p=some {cls:=.type "list",data:=.seq its.toArray n}∧xs.length≤sizeLine:=by
 obtain⟨z,its,n,r,e⟩:=I.hok p _ h
 exact⟨its,n,r,e,z⟩
theorem aL.lstUpd {pins:List (Addr×Obj)}{σ:St}{H:Hp}{s:Shared}{p:Addr}{xs ys:List V}{its its':List Value}{n n':Nat}{f:Obj→Obj}(I:aL X pins σ H s)(h:H p=some (.lst xs))
  (ho:s.heap.get? p=some {cls:=.type "list",data:=.seq its.toArray n}) (hf:f {cls:=.type "list",data:=.seq its.toArray n}={cls:=.type "list",data:=.seq its'.toArray n'}) (r:bh ys its') (hz:ys.length≤sizeLine) (t:Nat):
  aL X pins σ (upd H p (.lst ys)) {s with heap:=s.heap.update p f,toks:=t}:=by
 have e:(s.heap.update p f).get? p=some {cls:=.type "list",data:=.seq its'.toArray n'}:=by
  rw[Ep f ho (by rw[hf]<;>rfl),hf]
 refine I.write (x:=p) (e:=p) (by rw[h];trivial) (.inl rfl) (fun b u hb q=>(Er _ _ (CQ hb)).trans q) ⟨_,e⟩ ?_
 exact⟨hz,its',n',r,e⟩
noncomputable def Bj:V→V→V→Hp→(Hp→Prop)→Prop:=fun o i v H Q=>∃p xs k j,o=.ref p∧i=.int k∧H p=some (.lst xs)∧sO xs.length k=some j∧Q (upd H p (.lst (xs.set j v)))
theorem fx:AW X Bj:=by
 intro pins s σ H o i v ov iv u Q I ro ri rv h
 obtain⟨p,xs,k,j,rfl,rfl,hp,hj,q⟩:=h
 cases ro
 obtain⟨t,rfl⟩:=ri
 obtain⟨a,n,r,ho,hz⟩:=I.lst hp
 obtain⟨h1,h2,h3,h4⟩:=sR hj
 have hl:=r.length
 have hn:=ow
 have I':aL X pins σ (upd H p (.lst (xs.set j v))) {s with heap:=s.heap.update p (Obj.mapSeq (·.setIfInBounds j u))}:=
  I.lstUpd hp ho (rj a n j u) (r.set rv j) (by rw[Es];exact hz) s.toks
 by_cases h0:0≤k
 ·have hk:k.toNat=j:=by
   rw[seqIndex_of h0 h4] at h1
   exact Option.some.inj h1
  exact PySem.W.ki_setAt ho h0 (by lia) (by rw[De,←hl];exact h4) (by rw[hk];exact⟨_,I',q⟩)
 ·have hk:(k+(a.toArray.size:Int)).toNat=j:=by
   rw[seqIndex_neg (by lia) h3] at h1
   rw[De,←hl]
   exact Option.some.inj h1
  exact PySem.W.ki_setBack ho (by lia) (by rw[De,←hl];exact h3) (by lia) (by rw[hk];exact⟨_,I',q⟩)
theorem nY (lo hi:Option Int)(n:Nat):(sliceBounds lo hi none n).1=((HT.sIx n 0 lo:Nat):Int)∧(sliceBounds lo hi none n).2.1=((HT.sIx n n hi:Nat):Int)∧(sliceBounds lo hi none n).2.2=1:=by
 refine⟨?_,?_,rfl⟩
 ·cases lo with
  |none=>simp[sliceBounds,HT.sIx]
  |some i=>
   simp only[sliceBounds,HT.sIx,Option.getD_none,show(1:Int)>0 by decide,if_true]
   by_cases h:i<0
   ·simp only[h,if_true]<;>lia
   ·simp only[h,if_false]<;>lia
 ·cases hi with
  |none=>simp[sliceBounds,HT.sIx]
  |some i=>
   simp only[sliceBounds,HT.sIx,Option.getD_none,show(1:Int)>0 by decide,if_true]
   by_cases h:i<0
   ·simp only[h,if_true]<;>lia
   ·simp only[h,if_false]<;>lia
theorem mB (its:List Value)(lo hi:Option Int):slicePick its.toArray lo hi none=((its.drop (HT.sIx its.length 0 lo)).take (HT.sIx its.length its.length hi - HT.sIx its.length 0 lo)).toArray:=by
 obtain⟨h1,h2,h3⟩:=nY lo hi its.toArray.size
 unfold slicePick
 rw[h1,h2,h3]
 simp only[sliceRange_one,pick_run,De]<;>rfl
noncomputable def BM (K:CJ):V→Option Int→Option Int→Hp→VK→Prop:=fun x lo hi H Q=>∃a xs,x=.ref a∧bg K H a xs∧∀p,H p=none→Q (.ref p) (upd H p (.lst (pQ xs lo hi)))
theorem xG:Ce X (BM X.K):=by
 intro pins s σ H x v vl vu lo hi sl Q I rx hs pl pu h
 obtain⟨a,xs,rfl,hx,q⟩:=h
 cases rx
 obtain⟨d,r,ht,hz⟩:=I.list hx
 have c:=r.length
 refine⟨"list",_,slot_list_getitem.lookup,ht.isList.typeIs,?_⟩
 refine wpAny_getItem_list_slice ht.isList hs pl pu .none (by simp) ?_ (by rw[De]<;>lia)
 rw[mB,←c]
 refine⟨.ref s.heap.objs.size,_,I.laid (t':=s.toks) (o:=.lst (pQ xs lo hi)) (fun b ob q=>CO _ q) (CM _) ?_,rfl,q _ (I.hok.fresh (CM _))⟩
 exact⟨Df (qt xs lo hi) hz,_,0,(r.drop (HT.sIx xs.length 0 lo)).take (HT.sIx xs.length xs.length hi - HT.sIx xs.length 0 lo),C4 _ rfl⟩
theorem cq:dO X (.type "list") (fun xs H Q=>∃p ys,xs=[.ref p]∧(bg X.K H p ys∨bH X.K H p ys)∧∀l,H l=none→Q (.ref l) (upd H l (.lst ys))):=by
 intro pins s σ H xs us Q I r h
 obtain⟨p,ys,rfl,hq,q⟩:=h
 obtain⟨u,rfl,rx⟩:=iZ r
 cases rx
 have c:∀(a:List Value),bh ys a→ys.length≤sizeLine→∀(h':Heap) (c':Nat),(∀b o',s.heap.get? b=some o'→h'.get? b=some o')→
   h'.get? s.heap.objs.size=some {cls:=.type "list",dict:=none,data:=.seq a.toArray c',slots:= #[]}→EP X pins σ Q (.ref s.heap.objs.size) {s with heap:=h'}:=fun a r' hz h' c' kp e=>
  ⟨.ref s.heap.objs.size,_,I.laid (t':=s.toks) kp (CM _) (show bL X.prog X.w _ h' _ (.lst ys) from⟨hz,a,c',r',e⟩),rfl,q _ (I.hok.fresh (CM _))⟩
 rcases hq with hq|hq
 ·obtain⟨a,r',pl,hz⟩:=I.list hq
  have d:=r'.length
  obtain⟨o,ho,hc,n,hd⟩:=pl.isList
  exact call_list_seq p (.inl rfl) ho hc hd (fun h' c' kp e=>c a r' hz h' c' kp e) (by simp only[De]<;>lia)
 ·obtain⟨a,r',pl,hz⟩:=I.tuple hq
  have d:=r'.length
  obtain⟨o,ho,hc,n,hd⟩:=pl
  exact call_list_seq p (.inr rfl) ho hc hd (fun h' c' kp e=>c a r' hz h' c' kp e) (by simp only[De]<;>lia)
def Bo (K:CJ) (T:String) (x:V) (H:Hp):Prop:=match x with
 | .str _=>T= "str"
 | .int _=>T= "int"
 | .ref p=>(T= "list" ∧∃xs,bg K H p xs)∨(T= "tuple" ∧∃o,K.lookup p=some o∧o.cls=.type "tuple" ∧o.dict=none)∨
   (T= "dict" ∧((∃kvs,H p=some (.dK kvs))∨∃kvs,H p=some (.dT kvs)))∨(T= "set" ∧∃S n,H p=some (.set S n))
 |_=>False
theorem vX {pins:List (Addr×Obj)}{T:String}(I:aL X pins σ H s)(r:aT x v)(ty:Bo X.K T x H):
  s.TypeIs v T∧∀a,v=.ref a→∃ob,s.heap.get? a=some ob∧ob.dict=none:=by
 cases x with
 |str z=>
  obtain⟨t,rfl⟩:=r
  cases(show T= "str" from ty)
  exact⟨typeIs_str s z t,fun _ e=>nomatch e⟩
 |int i=>
  obtain⟨t,rfl⟩:=r
  cases(show T= "int" from ty)
  exact⟨typeIs_int s i t,fun _ e=>nomatch e⟩
 |ref p=>
  cases r
  rcases ty with ⟨rfl,xs,hq⟩|⟨rfl,o,hk,hc,hd⟩|⟨rfl,hk⟩|⟨rfl,S,n,hk⟩
  ·obtain⟨b,_,pl,_⟩:=I.list hq
   refine⟨pl.isList.typeIs,fun a e=>?_⟩
   cases e
   obtain⟨o,n,e,c,hd,_⟩:=pl
   exact⟨o,e,hd⟩
  ·refine⟨⟨o,I.kIn p o hk,hc⟩,fun a e=>?_⟩
   cases e
   exact⟨o,I.kIn _ o hk,hd⟩
  ·have z:∃o,s.heap.get? p=some o∧o.ExactDict:=by
    rcases hk with ⟨kvs,hk⟩|⟨kvs,hk⟩
    ·obtain⟨_,_,_,_,o,_,_,e,ex,_⟩:=I.hok p _ hk
     exact⟨o,e,ex⟩
    ·obtain⟨_,_,_,_,o,_,_,e,ex,_⟩:=I.hok p _ hk
     exact⟨o,e,ex⟩
   obtain⟨o,e,ex⟩:=z
   refine⟨⟨o,e,ex.1⟩,fun a e2=>?_⟩
   cases e2
   exact⟨o,e,ex.2.1⟩
  ·obtain⟨o,_,_,_,e,ex,_⟩:=I.hok p _ hk
   refine⟨⟨o,e,ex.1⟩,fun a e2=>?_⟩
   cases e2
   exact⟨o,e,ex.2.1⟩
 |_=>exact False.elim ty
def B0 (K:CJ) (T:String) (r:V→List V→Hp→VK→Prop) (to:TE):TE:=fun σ H Q=>to σ H fun x H1=>Bo K T x H1∧r x [] H1 Q
def BN (K:CJ) (T:String) (r:V→List V→Hp→VK→Prop) (to:TE) (t:TA):TE:=fun σ H Q=>to σ H fun x H1=>Bo K T x H1∧t σ H1 fun xs H2=>r x xs H2 Q
variable {o e:Expr} {es:List Expr} {to:TE} {t:TA} {name:Str} {apos cpos:Pos} {T id:String} {r:V→List V→Hp→VK→Prop}
theorem u6 (pa:PlainAttrs T)(slot:Slot T name id)(hty:typeOf (.builtin id)=pure (.type "method_descriptor"))(hm:Bs X id r)(ho:PE X o to)
  (hbase:attributeBase o name X.env (eval o X.env)=eval o X.env:=by rfl) (hline:(apos.endLine==cpos.line)=true:=by rfl):PE X (.Call (.Attribute o name apos) [] [] cpos) (B0 X.K T r to):=by
 intro pins s σ H Q I h
 refine wpAny_Call_method0_late hbase hline (bR (ho pins s σ H _ I h) fun v s1 ⟨x,H1,I1,r1,ty,q1⟩=>?_)
 obtain⟨h1,h2⟩:=vX I1 r1 ty
 exact⟨T,id,pa,slot,hty,h1,h2,Calls.callWith_builtin rfl (PySem.evalArgs_none (hm pins s1 σ H1 x [] v [] Q I1 r1 .nil q1))⟩
theorem eY (pa:PlainAttrs T)(slot:Slot T name id)(hty:typeOf (.builtin id)=pure (.type "method_descriptor"))(hm:Bs X id r)(ho:PE X o to)(ha:PA X (e::es) t)
  (hbase:attributeBase o name X.env (eval o X.env)=eval o X.env:=by rfl)
  (hfew:((backTo cpos (starEach (e::es) X.env)).all (fun x=>!x.1)&&(backToKw cpos (keywordEach [] X.env)).all (fun x=>x.1.isSome)
   &&decide ((e::es).length+([]:List Keyword).length+(if ([]:List Keyword).isEmpty then 0 else 1)<30))=true:=by rfl)
  (hline:(apos.endLine==cpos.line)=true:=by rfl) (hs:starEach (e::es) X.env=(false,eval e X.env)::starEach es X.env:=by rfl) (hplain:(backTo cpos (starEach es X.env)).any (·.1)=false:=by rfl):
  PE X (.Call (.Attribute o name apos) (e::es) [] cpos) (BN X.K T r to t):=by
 intro pins s σ H Q I h
 refine wpAny_Call_method_late hbase hfew hline rfl (bR (ho pins s σ H _ I h) fun v s1 ⟨x,H1,I1,r1,ty,q1⟩=>?_)
 obtain⟨h1,h2⟩:=vX I1 r1 ty
 refine⟨T,id,pa,slot,hty,h1,h2,?_⟩
 have hA:=ha cpos pins s1 σ H1 _ I1 q1
 rw[hs] at hA⊢
 refine Calls.callWith_builtin (by show(false||(backTo cpos (starEach es X.env)).any (·.1))=false;rw[hplain]<;>rfl) (Calls.evalArgs_plain ?_)
 exact bR hA fun us s2 ⟨vs,H2,I2,r2,q2⟩=>hm pins s2 σ H2 x vs v us Q I2 r1 r2 q2
end
def Bz (X:Cx) (id:String) (r:V→List V→Hp→VK→Prop):Prop:=
 ∀(pins:List (Addr×Obj)) (s:Shared) (σ:St) (H:Hp) (x:V) (xs:List V) (v:Value) (us:List Value) (Q:VK),aL X pins σ H s→aT x v→bh xs us→r x xs H Q→
  wpAny (model X.prog X.w) X.A (call (.builtin id) (v::us)) (EP X pins σ Q) X.xe s
theorem bh.one:∀{x:V} {us:List Value},bh [x] us→∃u,us=[u]∧aT x u
 |_,_,.cons r .nil=>⟨_,rfl,r⟩
theorem bh.zero:∀{us:List Value},bh [] us→us=[]
 |_,.nil=>rfl
theorem bh.dropLast(h:bh xs us):bh xs.dropLast us.dropLast:=by
 induction h with
 |nil=>exact .nil
 |cons r t ih=>
  cases t with
  |nil=>exact .nil
  |cons q t'=>exact .cons r ih
theorem bh.reverse(h:bh xs us):bh xs.reverse us.reverse:=by
 induction h with
 |nil=>exact .nil
 |cons r t ih=>rw[FC,FC];exact bh.append ih (.cons r .nil)
theorem qR {α:Type}(l:List α):l.eraseIdx (l.length - 1)=l.dropLast:=by
 induction l with
 |nil=>rfl
 |cons a r ih=>
  cases r with
  |nil=>rfl
  |cons b r=>
   have e:(a::b::r).length - 1=((b::r).length - 1)+1:=by
    have h1:(a::b::r).length=r.length+2:=rfl
    have h2:(b::r).length=r.length+1:=rfl
    lia
   rw[e,List.eraseIdx_cons_succ,ih]
   all_goals rfl
section
variable {X:Cx} {pins:List (Addr×Obj)} {σ:St} {H:Hp} {s:Shared} {l b:Addr} {xs ys zs:List V}
theorem aL.lset {its its':List Value}{n:Nat}{f:Array Value→Array Value}{t':Nat}(I:aL X pins σ H s)(hH:H l=some (.lst xs))
  (e:s.heap.get? l=some {cls:=.type "list",data:=.seq its.toArray n}) (hf:f its.toArray=its'.toArray) (hv:bh ys its') (hz:ys.length≤sizeLine):
  aL X pins σ (upd H l (.lst ys)) {s with heap:=s.heap.update l (Obj.mapSeq f),toks:=t'}:=by
 have q:=PySem.IsL.update e f
 rw[hf] at q
 refine I.write (x:=l) (e:=l) (by rw[hH];exact trivial) (.inl rfl) (fun b' u hb hu=>(Er s.heap (Obj.mapSeq f) (CQ hb)).trans hu) ⟨_,q⟩ ?_
 exact⟨hz,its',_,hv,q⟩
theorem aL.lnew(I:aL X pins σ H s)(hv:bh ys its)(hz:ys.length≤sizeLine):
  aL X pins σ (upd H s.heap.objs.size (.lst ys)) {s with heap:=s.heap.push {cls:=.type "list",data:=.seq its.toArray},toks:=t'}:=
 I.laid (fun _ _ q=>CO _ q) (CM _) ⟨hz,its,0,hv,C4 _ rfl⟩
theorem aL.fresh (I:aL X pins σ H s):H s.heap.objs.size=none:=I.hok.fresh (CM _)
theorem aL.lstM (I:aL X pins σ H s)(hH:H l=some (.lst xs)):xs.length≤sizeLine∧∃(its:List Value) (n:Nat),bh xs its∧xs.length=its.length∧s.heap.get? l=some {cls:=.type "list",data:=.seq its.toArray n}:=by
 obtain⟨z,its,n,r,e⟩:=I.hok l _ hH
 exact⟨z,its,n,r,r.length,e⟩
theorem uT(h:n≤sizeLine):Builtin.List.listTooLong n=false:=by
 unfold Builtin.List.listTooLong
 exact decide_eq_false (by lia)
end
section
variable {X:Cx}
noncomputable def xF:V→List V→Hp→VK→Prop:=fun x vs H Q=>∃l xs y,x=.ref l∧vs=[y]∧H l=some (.lst xs)∧xs.length<sizeLine∧Q .non (upd H l (.lst (xs++[y])))
theorem dj:Bz X "list.append" xF:=by
 intro pins s σ H x vs v us Q I rx rv h
 obtain⟨l,xs,y,rfl,rfl,hH,hz,q⟩:=h
 cases rx
 obtain⟨u,rfl,ru⟩:=rv.one
 obtain⟨z,a,n,r,hl,e⟩:=I.lstM hH
 refine call_meets F.slot_list_append ⟨_,e,rfl⟩ F.entry_list_append (F.args_list_append_2 _ _) (PySem.list_append l a.toArray n u (by rw[De];lia)) ⟨e,?_⟩
 refine⟨.non,_,I.lset (its':=a++[u]) hH e (by simp) (r.append (.cons ru .nil)) ?_,rfl,q⟩
 rw[C_,EX]
 lia
noncomputable def xw:V→List V→Hp→VK→Prop:=fun x vs H Q=>∃l b xs zs,x=.ref l∧vs=[.ref b]∧H l=some (.lst xs)∧H b=some (.lst zs)∧xs.length+zs.length≤sizeLine∧Q .non (upd H l (.lst (xs++zs)))
theorem tF:Bz X "list.extend" xw:=by
 intro pins s σ H x vs v us Q I rx rv h
 obtain⟨l,b,xs,zs,rfl,rfl,hH,hB,hz,q⟩:=h
 cases rx
 obtain⟨u,rfl,ru⟩:=rv.one
 cases ru
 obtain⟨z,c,n,r,hl,e⟩:=I.lstM hH
 obtain⟨z2,a,n2,r2,g,e2⟩:=I.lstM hB
 have f:c.toArray.size+a.toArray.size≤sizeLine:=by rw[De,De];lia
 have d:¬(!c.toArray.isEmpty&&Builtin.List.listTooLong (c.toArray.size+a.toArray.size))=true:=by
  rw[uT f,Bool.and_false]
  exact C0
 refine call_meets F.slot_list_extend ⟨_,e,rfl⟩ F.entry_list_extend (F.args_list_extend_2 _ _)
  (AutoSeq1.list_extend_list_list_0 l c.toArray n b a.toArray n2 d (by rw[De];lia) (by lia)) ⟨e,e2,?_⟩
 refine⟨.non,_,I.lset (its':=c++a) hH e (by simp) (r.append r2) ?_,rfl,q⟩
 rw[C_]
 lia
noncomputable def BU:V→List V→Hp→VK→Prop:=fun x vs H Q=>∃l xs y,x=.ref l∧vs=[]∧H l=some (.lst xs)∧xs[xs.length - 1]?=some y∧Q y (upd H l (.lst xs.dropLast))
theorem wF:Bz X "list.pop" BU:=by
 intro pins s σ H x vs v us Q I rx rv h
 obtain⟨l,xs,y,rfl,rfl,hH,hy,q⟩:=h
 cases rx
 have b:=rv.zero
 subst b
 obtain⟨z,a,n,r,hl,e⟩:=I.lstM hH
 obtain⟨u,hu,ru⟩:=r.get hy
 have c:a.toArray[a.toArray.size - 1]?=some u:=by
  show a.toArray[a.length - 1]?=some u
  rw[←DU,←hl]
  exact hu
 refine call_meets F.slot_list_pop ⟨_,e,rfl⟩ F.entry_list_pop (F.args_list_pop_1 _) (MeetsSeq.list_pop_last l a.toArray n u c (by rw[De];lia)) ⟨e,?_⟩
 refine⟨y,_,I.lset (its':=a.dropLast) hH e ?_ r.dropLast ?_,ru,q⟩
 ·show a.toArray.eraseIdxIfInBounds (a.toArray.size - 1)=a.dropLast.toArray
  rw[De,List.eraseIdxIfInBounds_toArray,qR]
 ·rw[Ez]
  lia
end
section
variable {prog:Program} {w:World} {A:Around} {E:Value→Shared→Prop} {s:Shared}
end
section
variable {X:Cx}
end
section
variable {κ:Type} [DecidableEq κ]
noncomputable def aR (kvs:List (κ×V)) (k:κ):Option V:=(kvs.find? fun kv=>decide (kv.1=k)).map (·.2)
noncomputable def bF (kvs:List (κ×V)) (k:κ) (v:V):List (κ×V):=
 if (kvs.any fun kv=>decide (kv.1=k))=true then kvs.map (fun kv=>if kv.1=k then (kv.1,v) else kv) else kvs++[(k,v)]
theorem iW {k:κ}:aR ([]:List (κ×V)) k=none:=rfl
theorem bY {p:κ×V}{r:List (κ×V)}{k:κ}(e:p.1=k):aR (p::r) k=some p.2:=by simp[aR,EY,e]
theorem bZ {p:κ×V}{r:List (κ×V)}{k:κ}(e:¬p.1=k):aR (p::r) k=aR r k:=by simp[aR,EY,e]
theorem dc (k:κ):∀kvs:List (κ×V),(kvs.any fun kv=>decide (kv.1=k))=(aR kvs k).isSome
 |[]=>rfl
 |p::r=>by
  rw[List.any_cons]
  by_cases e:p.1=k
  ·simp only[bY e,decide_eq_true e,Bool.true_or,Option.isSome_some]
  ·rw[bZ e,decide_eq_false e,Bool.false_or];exact dc k r
theorem pL (k j:κ)(y:V):∀kvs:List (κ×V),aR (kvs.map fun kv=>if kv.1=k then (kv.1,y) else kv) j=(aR kvs j).map fun x=>if j=k then y else x
 |[]=>rfl
 |p::r=>by
  have ih:=pL k j y r
  rw[C5]
  by_cases h:p.1=k
  ·rw[if_pos h]
   by_cases e:p.1=j
   ·rw[bY (p:=(p.1,y)) e,bY e,ES,if_pos (e.symm.trans h)]
   ·rw[bZ (p:=(p.1,y)) e,bZ e,ih]
  ·rw[if_neg h]
   by_cases e:p.1=j
   ·rw[bY (p:=p) e,bY e,ES,if_neg (fun z=>h (e.trans z))]
   ·rw[bZ (p:=p) e,bZ e,ih]
theorem nN (k j:κ)(y:V):∀kvs:List (κ×V),aR kvs k=none→aR (kvs++[(k,y)]) j=if j=k then some y else aR kvs j
 |[],_=>by
  by_cases e:k=j
  ·rw[if_pos e.symm];exact bY (p:=(k,y)) e
  ·rw[if_neg (fun z=>e z.symm)];exact bZ (p:=(k,y)) e
 |p::r,hn=>by
  rw[List.cons_append]
  have hk:¬p.1=k:=fun z=>by rw[bY z] at hn;cases hn
  rw[bZ hk] at hn
  have ih:=nN k j y r hn
  by_cases e:p.1=j
  ·rw[bY e,bY e,if_neg (fun z=>hk (e.trans z))]
  ·rw[bZ e,bZ e,ih]
theorem fg (kvs:List (κ×V))(k j:κ)(y:V):aR (bF kvs k y) j=if j=k then some y else aR kvs j:=by
 unfold bF
 by_cases a:(kvs.any fun kv=>decide (kv.1=k))=true
 ·rw[if_pos a,pL]
  rw[dc] at a
  by_cases e:j=k
  ·obtain⟨x,hx⟩:=Ey.mp a
   rw[if_pos e,e,hx,ES,if_pos rfl]
  ·rw[if_neg e]
   cases aR kvs j with
   |none=>rfl
   |some x=>rw[ES,if_neg e]
 ·rw[if_neg a]
  refine nN k j y kvs ?_
  rw[dc] at a
  cases q:aR kvs k with
  |none=>rfl
  |some x=>rw[q] at a;exact(a rfl).elim
theorem gr (kvs:List (κ×V))(k:κ)(v:V):(bF kvs k v).length≤kvs.length+1:=by
 unfold bF
 split
 ·rw[CK];lia
 ·rw[C_,Dl,Ff];lia
theorem kD {kvs:List (κ×V)}{k:κ}(v:V)(h:aR kvs k=none):bF kvs k v=kvs++[(k,v)]:=by
 unfold bF
 rw[dc,h]
 exact if_neg (by decide)
theorem fU.isSome_eq{u:Option Value}(r:fU o u):o.isSome=u.isSome:=by
 cases o with
 |none=>cases u with
  |none=>rfl
  |some _=>exact(show False from r).elim
 |some _=>cases u with
  |none=>exact(show False from r).elim
  |some _=>rfl
theorem fU.getD{u:Option Value}(r:fU o u)(rd:aT d d'):aT (o.getD d) (u.getD d'):=by
 cases o with
 |none=>cases u with
  |none=>exact rd
  |some _=>exact(show False from r).elim
 |some _=>cases u with
  |none=>exact(show False from r).elim
  |some _=>exact r
theorem KV.val {kvs:List (κ×V)}{vs:List (κ×Value)}(r:KV kvs vs)(k:κ):fU (aR kvs k) (valueAt vs k):=by
 unfold KV at r
 induction r with
 |nil=>exact True.intro
 | @cons p q ps qs h t ih=>
  obtain⟨h1,h2⟩:=h
  by_cases e:p.1=k
  ·have e':q.1=k:=h1.symm.trans e
   have b:valueAt (q::qs) k=some q.2:=by simp[valueAt,EY,e']
   rw[bY e,b];exact h2
  ·have e':¬q.1=k:=fun z=>e (h1.trans z)
   have b:valueAt (q::qs) k=valueAt qs k:=by simp[valueAt,EY,e']
   rw[bZ e,b];exact ih
theorem KV.any {kvs:List (κ×V)}{vs:List (κ×Value)}(r:KV kvs vs)(k:κ):(kvs.any fun kv=>decide (kv.1=k))=vs.any fun kv=>decide (kv.1=k):=by
 unfold KV at r
 induction r with
 |nil=>rfl
 |cons h t ih=>rw[List.any_cons,List.any_cons,ih,h.1]
theorem KV.repl {kvs:List (κ×V)}{vs:List (κ×Value)}(r:KV kvs vs)(k:κ){y:V}{u:Value}(ry:aT y u):
  KV (kvs.map fun kv=>if kv.1=k then (kv.1,y) else kv) (vs.map fun kv=>if kv.1=k then (kv.1,u) else kv):=by
 unfold KV at r⊢
 induction r with
 |nil=>exact .nil
 | @cons p q ps qs h t ih=>
  rw[C5,C5]
  refine .cons ?_ ih
  obtain⟨h1,h2⟩:=h
  by_cases e:p.1=k
  ·rw[if_pos e,if_pos (h1.symm.trans e)];exact⟨h1,ry⟩
  ·rw[if_neg e,if_neg (fun z=>e (h1.trans z))];exact⟨h1,h2⟩
theorem KV.put {kvs:List (κ×V)}{vs:List (κ×Value)}(r:KV kvs vs)(k:κ){y:V}{u:Value}(ry:aT y u):KV (bF kvs k y) (stored vs k u):=by
 unfold bF stored
 rw[r.any k]
 by_cases e:(vs.any fun kv=>decide (kv.1=k))=true
 ·rw[if_pos e,if_pos e];exact r.repl k ry
 ·rw[if_neg e,if_neg e];exact Paired.snoc r ⟨rfl,ry⟩
theorem KV.length {kvs:List (κ×V)}{vs:List (κ×Value)}(r:KV kvs vs):kvs.length=vs.length:=Paired.length r
end
theorem mZ(r:aT (kV k) u):(aW P w).is k u=true:=by
 cases k with
 |inl i=>obtain⟨t,e⟩:=(show∃t,u=Value.int i t from r);subst e;exact pK P w i t
 |inr x=>obtain⟨t,e⟩:=(show∃t,u=Value.str x t from r);subst e;exact pW P w x t
theorem mN:∀{ks:List cK} {us:List Value},bh (ks.map kV) us→ItemsAre (aW P w) ks us
 |[],_,r=>by rw[List.map_nil] at r;cases r;exact .nil
 |k::ks,_,r=>by
  rw[C5] at r
  cases r with
  |cons h t=>exact .cons (mZ h) (mN t)
abbrev KT (H:Hp):List (List cK×V)→List (List cK×Addr×Value)→Prop:=Paired fun p q=>p.1=q.1∧H q.2.1=some (.tup (p.1.map kV))∧aT p.2 q.2.2
theorem KT.val{kvs:List (List cK×V)}{xs:List (List cK×Addr×Value)}(r:KT H kvs xs)(k:List cK):fU (aR kvs k) ((atKey xs k).map (·.2)):=by
 induction r with
 |nil=>exact True.intro
 | @cons p q ps qs h t ih=>
  obtain⟨h1,_,h2⟩:=h
  by_cases e:p.1=k
  ·have e':q.1=k:=h1.symm.trans e
   have b:atKey (q::qs) k=some q.2:=by simp[atKey,EY,e']
   rw[bY e,b];exact h2
  ·have e':¬q.1=k:=fun z=>e (h1.trans z)
   have b:atKey (q::qs) k=atKey qs k:=by simp[atKey,EY,e']
   rw[bZ e,b];exact ih
theorem KT.repl{kvs:List (List cK×V)}{xs:List (List cK×Addr×Value)}(r:KT H kvs xs)(k:List cK){y:V}{u:Value}(ry:aT y u):
  KT H (kvs.map fun kv=>if kv.1=k then (kv.1,y) else kv) (xs.map (putAt k u)):=by
 induction r with
 |nil=>exact .nil
 | @cons p q ps qs h t ih=>
  rw[C5,C5]
  refine .cons ?_ ih
  obtain⟨h1,h2,h3⟩:=h
  unfold putAt
  by_cases e:p.1=k
  ·rw[if_pos e,if_pos (h1.symm.trans e)];exact⟨h1,h2,ry⟩
  ·rw[if_neg e,if_neg (fun z=>e (h1.trans z))];exact⟨h1,h2,h3⟩
theorem KT.put{kvs:List (List cK×V)}{xs:List (List cK×Addr×Value)}(r:KT H kvs xs)(k:List cK){b:Addr}{y:V}{u:Value}(hb:H b=some (.tup (k.map kV)))(ry:aT y u):
  KT H (bF kvs k y) (storedH xs k b u):=by
 have e:(kvs.any fun kv=>decide (kv.1=k))=(atKey xs k).isSome:=by
  rw[dc,(r.val k).isSome_eq,Option.isSome_map]
 unfold bF storedH
 rw[e]
 by_cases q:(atKey xs k).isSome=true
 ·rw[if_pos q,if_pos q];exact r.repl k ry
 ·rw[if_neg q,if_neg q];exact Paired.snoc r ⟨rfl,hb,ry⟩
theorem KT.keeps{kvs:List (List cK×V)}{xs:List (List cK×Addr×Value)}(r:KT H kvs xs)(ht:∀b ys,H b=some (.tup ys)→H' b=some (.tup ys)):KT H' kvs xs:=
 Paired.mapP r fun _ _ z=>⟨z.1,ht _ _ z.2.1,z.2.2⟩
section
variable {P:Program} {w:World} {H:Hp} {h:Heap} {a:Addr}
theorem zg(ok:fV P w H h)(e:Rd H a u):bL P w H h a u:=e.ok ok
theorem kB {kvs:List (cK×V)}(ok:fV P w H h)(e:Rd H a (.dK kvs)):kvs.length≤sizeLine∧(a==sysModules)=false∧∃vs,KV kvs vs∧h.DictOf (aW P w) a vs:=
 show bL P w H h a (.dK kvs) from zg ok e
theorem AM {kvs:List (cK×V)}(ok:fV P w H h)(e:H a=some (.dK kvs)):kvs.length≤sizeLine∧(a==sysModules)=false∧∃vs,KV kvs vs∧h.DictOf (aW P w) a vs:=kB ok (.inl e)
theorem ic(ok:fV P w H h)(e:H a=some (.tup (ks.map kV))):(tupleKind (aW P w)).is h ks a:=by
 obtain⟨_,b,r,o,h1,h2,n,h3⟩:=(show bL P w H h a (.tup (ks.map kV)) from ok a _ e)
 exact⟨o,b.toArray,n,h1,h2,h3,by simpa using mN r⟩
theorem iH {kvs:List (List cK×V)}(ok:fV P w H h)(e:Rd H a (.dT kvs)):kvs.length≤sizeLine∧(a==sysModules)=false∧
  ∃xs,KT H kvs xs∧h.DictOfH (tupleKind (aW P w)) a xs:=by
 obtain⟨z,y,xs,r,o,es,ep,h1,h2,h3,h4,h5⟩:=(show bL P w H h a (.dT kvs) from zg ok e)
 refine⟨z,y,xs,r,o,es,ep,h1,h2,h3,h4,fun x hx=>?_,h5⟩
 have all:∀{l:List (List cK×V)} {m:List (List cK×Addr×Value)},KT H l m→∀x∈m,(tupleKind (aW P w)).is h x.1 x.2.1:=by
  intro l m q
  induction q with
  |nil=>intro x hx;exact nomatch hx
  | @cons p q ps qs hq t ih=>
   intro x hx
   rcases CV.mp hx with e|hx
   ·subst e
    exact ic ok (by rw[←hq.1];exact hq.2.1)
   ·exact ih x hx
 exact all r x hx
theorem Be {kvs:List (List cK×V)}(ok:fV P w H h)(e:H a=some (.dT kvs)):kvs.length≤sizeLine∧(a==sysModules)=false∧
  ∃xs,KT H kvs xs∧h.DictOfH (tupleKind (aW P w)) a xs:=iH ok (.inl e)
end
def hZ (H:Hp) (a:Addr) (y:V) (r:Option V):Prop:=
 (∃kvs k,Rd H a (.dK kvs)∧y=kV k∧r=aR kvs k)∨∃kvs k b,Rd H a (.dT kvs)∧y=.ref b∧H b=some (.tup (k.map kV))∧r=aR kvs k
def fh (H:Hp) (a:Addr) (y v:V) (H':Hp):Prop:=
 (∃kvs k,H a=some (.dK kvs)∧y=kV k∧kvs.length<sizeLine∧H'=upd H a (.dK (bF kvs k v)))∨
 ∃kvs k b,H a=some (.dT kvs)∧y=.ref b∧H b=some (.tup (k.map kV))∧kvs.length<sizeLine∧H'=upd H a (.dT (bF kvs k v))
theorem fh.t{kvs:List (List cK×V)}(e:H a=some (.dT kvs))(eb:H b=some (.tup (k.map kV)))(hl:kvs.length<sizeLine):
  fh H a (.ref b) v (upd H a (.dT (bF kvs k v))):=.inr ⟨kvs,k,b,e,rfl,eb,hl,rfl⟩
section
variable {X:Cx} {pins:List (Addr×Obj)} {σ:St} {H:Hp} {s:Shared} {a:Addr} {y v:V} {u r:Value} {o:Option V} {A:Around} {E:Value→Shared→Prop}
theorem aL.big (I:aL X pins σ H s):sysModules<s.heap.objs.size:=by
 have h:mainGlobals<s.heap.objs.size:=(I.mod.glob.keeps I.bk).lt
 exact Nat.lt_trans (by decide) h
theorem t_(hu:A.units+1<cLine)(I:aL X pins σ H s)(g:hZ H a y (some v))(ry:aT y u)(h:∀w' s',aL X pins σ H s'→aT v w'→Q w' s'):
  wpAny (model X.prog X.w) A (getItem (.ref a) u) Q E s:=by
 rcases g with ⟨kvs,k,e,ey,l⟩|⟨kvs,k,b,e,ey,eb,l⟩
 ·subst ey
  obtain⟨z,hd,vs,c,dd⟩:=kB I.hok e
  obtain⟨w',hw,d⟩:=fU.some_of (v:=v) (o:=valueAt vs k) (by rw[l];exact c.val k)
  exact wpAny_getItem_of (mZ ry) dd.mapOf hw (h w' _ (I.tok _) d)
 ·subst ey
  cases(show u=Value.ref b from ry)
  obtain⟨z,hd,xs,c,dd⟩:=iH I.hok e
  obtain⟨w',hw,d⟩:=fU.some_of (v:=v) (o:=(atKey xs k).map (·.2)) (by rw[l];exact c.val k)
  obtain⟨p,hp,f⟩:=Do.mp hw
  refine wpAny_getItem_heap (tupleKind_room_in1 hu) (ic I.hok eb) dd hp ?_
  rw[f]
  exact h w' _ (I.tok _) d
theorem Bu(hu:A.units+1<cLine)(I:aL X pins σ H s)(g:hZ H a y o)(ry:aT y u)(h:∀s',aL X pins σ H s'→Q (.bool o.isSome) s'):
  wpAny (model X.prog X.w) A (compareOp .In u (.ref a)) Q E s:=by
 rcases g with ⟨kvs,k,e,ey,l⟩|⟨kvs,k,b,e,ey,eb,l⟩
 ·subst ey
  obtain⟨z,hd,vs,c,dd⟩:=kB I.hok e
  refine wpAny_in_of (mZ ry) hd dd.mapOf ?_
  rw[←(c.val k).isSome_eq,←l]
  exact h _ (I.tok _)
 ·subst ey
  cases(show u=Value.ref b from ry)
  obtain⟨z,hd,xs,c,dd⟩:=iH I.hok e
  refine wpAny_in_heap (tupleKind_room_in1 hu) (ic I.hok eb) hd dd ?_
  have q:=(c.val k).isSome_eq
  rw[Option.isSome_map] at q
  rw[←q,←l]
  exact h _ (I.tok _)
theorem yS(hu:A.units+1<cLine)(I:aL X pins σ H s)(g:hZ H a y o)(ry:aT y u)(h:∀s',aL X pins σ H s'→Q (.bool (!o.isSome)) s'):
  wpAny (model X.prog X.w) A (compareOp .NotIn u (.ref a)) Q E s:=by
 rcases g with ⟨kvs,k,e,ey,l⟩|⟨kvs,k,b,e,ey,eb,l⟩
 ·subst ey
  obtain⟨z,hd,vs,c,dd⟩:=kB I.hok e
  refine wpAny_notIn_of (mZ ry) hd dd.mapOf ?_
  rw[←(c.val k).isSome_eq,←l]
  exact h _ (I.tok _)
 ·subst ey
  cases(show u=Value.ref b from ry)
  obtain⟨z,hd,xs,c,dd⟩:=iH I.hok e
  refine wpAny_notIn_heap (tupleKind_room_in1 hu) (ic I.hok eb) hd dd ?_
  have q:=(c.val k).isSome_eq
  rw[Option.isSome_map] at q
  rw[←q,←l]
  exact h _ (I.tok _)
theorem sY(I:aL X pins σ H s)(mu:w5 (H a))(hs:Heap.SameBut a s.heap h')(he:∃q,h'.get? a=some q)(new:bL X.prog X.w (upd H a ob) h' a ob):
  aL X pins σ (upd H a ob) {s with heap:=h',toks:=t'}:=
 I.write (x:=a) (e:=a) mu (.inl rfl) (fun b q hb z=>(hs.2 b hb).trans z) he new
theorem vY{kvs:List (cK×V)}{vs:List (cK×Value)}(z:kvs.length≤sizeLine)(hd:(a==sysModules)=false)(rel:KV kvs vs)(dd:h'.DictOf (aW P w) a vs):
  bL P w H' h' a (.dK kvs):=⟨z,hd,vs,rel,dd⟩
theorem uj{Q:Unit→Shared→Prop}(hu:A.units+1<cLine)(I:aL X pins σ H s)(g:fh H a y v H')(ry:aT y u)(rv:aT v r)(h:∀s',aL X pins σ H' s'→Q () s'):
  wpAny (model X.prog X.w) A (setItem (.ref a) u r) Q E s:=by
 rcases g with ⟨kvs,k,e,ey,l,eH⟩|⟨kvs,k,b,e,ey,eb,l,eH⟩
 ·subst ey eH
  obtain⟨z,hd,vs,d,dd⟩:=AM I.hok e
  have hz:vs.length≤sizeLine:=by rw[←d.length];exact z
  have hl:(bF kvs k v).length≤sizeLine:=by have:=gr kvs k v;lia
  refine wpAny_setItem_pairs (hsz:=hz) (mZ ry) dd fun h' dd' hs=>h _ ?_
  have he:∃q,h'.get? a=some q:=let ⟨q,_,_,hq,_⟩:=dd';⟨q,hq⟩
  exact sY I (by rw[e];exact True.intro) hs he (vY hl hd (d.put k rv) dd')
 ·subst ey eH
  cases(show u=Value.ref b from ry)
  obtain⟨z,hd,xs,d,dd⟩:=Be I.hok e
  have hz:xs.length≤sizeLine:=by rw[←Paired.length d];exact z
  have hl:(bF kvs k v).length≤sizeLine:=by have:=gr kvs k v;lia
  refine wpAny_setItem_heap (hsz:=hz) (tupleKind_room_in1 hu) (ic I.hok eb) dd fun h' dd' hs=>h _ ?_
  obtain⟨q,es,ep,hq,h2,h3,h4,_,h5⟩:=dd'
  refine sY I (by rw[e];exact True.intro) hs ⟨q,hq⟩ ⟨hl,hd,_,(d.put k eb rv).keeps fun c ys ec=>?_,q,es,ep,hq,h2,h3,h4,h5⟩
  rw[aj (cN ec e (fun z=>nomatch z))]
  exact ec
end
section
variable {X:Cx} {pins:List (Addr×Obj)} {σ:St} {H:Hp} {s:Shared} {a:Addr} {kvs:List (cK×V)} {k:cK} {u:Value} {A:Around} {E:Value→Shared→Prop}
end
def Bk (i:Expr):Prop:=∀ov iv,subscripted i false ov iv=operate [ov,iv] (getItem ov iv)
theorem xY{T id:String}
  (hl:typeLookup (.type T) "__getitem__" =pure (some (.builtin id))) (hs:Bk slice)
  (h:wpAny (model prog w) A (eval value env) (fun o s₁=>wpAny (model prog w) A (eval slice env) (fun i s₂=>s₂.TypeIs o T∧wpAny (model prog w) A (getItem o i) Q E s₂) E s₁) E s):
  wpAny (model prog w) A (eval (.Subscript value slice pos) env) Q E s:=by
 refine Subscript_ (Dy h (fun o s₁ h₁=>Dy h₁ (fun i s₂ h₂=>?_) fun _ _ x=>x) fun _ _ x=>x)
 obtain⟨hT,h₂⟩:=h₂
 unfold subscriptTail
 refine CH ?_
 rw[getitemInPython_of_ne hT.not_modules]
 refine CH (Fg hT hl ?_)
 have a:wpAny (model prog w) A (subscripted slice false o i) (fun r s₃=>wpAny (model prog w) A (letTemporaryGo value o r>>=fun _=>pure r) Q E s₃) E s₂:=by
  rw[hs o i]
  exact wpAny_operating (Dy h₂ (fun r s₃ h₃=>CH (wpAny_letTemporaryGo (CI h₃))) fun _ _ x=>x)
 first
  |exact CI (CH a)
  |exact CH (CI (CH a))
  |exact CH a
theorem p_{pins:List (Addr×Obj)}(I:aL X pins σ H s)(g:hZ H a y o):s.TypeIs (.ref a) "dict" :=by
 rcases g with ⟨kvs,k,e,_,_⟩|⟨kvs,k,b,e,_,_,_⟩
 ·obtain⟨_,_,vs,_,dd⟩:=kB I.hok e
  exact dd.typeIs
 ·obtain⟨_,_,xs,_,dd⟩:=iH I.hok e
  exact dd.typeIs
def wk (td ty:TE):TE:=fun σ H Q=>td σ H fun x H1=>ty σ H1 fun y H2=>∃a v,x=.ref a∧hZ H2 a y (some v)∧Q v H2
def AS (ty td:TE):TE:=fun σ H Q=>ty σ H fun y H1=>td σ H1 fun x H2=>∃a o,x=.ref a∧hZ H2 a y o∧Q (.bl o.isSome) H2
def r_ (ty td:TE):TE:=fun σ H Q=>ty σ H fun y H1=>td σ H1 fun x H2=>∃a o,x=.ref a∧hZ H2 a y o∧Q (.bl (!o.isSome)) H2
def iB (td ty tv:TE):TS:=fun D σ H=>tv σ H fun v H1=>td σ H1 fun x H2=>ty σ H2 fun y H3=>∃a H4,x=.ref a∧fh H3 a y v H4∧D.nx σ H4
section
variable {X:Cx} {o i e value:Expr} {pos pos' tpos:Pos} {td ty tv:TE}
theorem dF (hu:X.A.units+1<cLine)(ho:PE X o td)(hi:PE X i ty)(hs:Bk i):PE X (.Subscript o i pos) (wk td ty):=by
 intro pins s σ H Q I h
 refine xY PySem.F.slot_dict_getitem.lookup hs (bR (ho pins s σ H _ I h) fun u s1 ⟨x,H1,I1,rx,q1⟩=>bR (hi pins s1 σ H1 _ I1 q1) fun iv s2 ⟨y,H2,I2,ry,a,v,ex,g,q2⟩=>?_)
 subst ex
 obtain rfl:u=Value.ref a:=rx
 exact⟨p_ I2 g,t_ hu I2 g ry fun w' s3 I3 rw'=>⟨v,H2,I3,rw',q2⟩⟩
theorem lB (hu:X.A.units+1<cLine)(hi:PE X i ty)(ho:PE X o td):PC X .In i o (AS ty td):=by
 intro pins s σ H Q I h
 refine bR (hi pins s σ H _ I h) fun iv s1 ⟨y,H1,I1,ry,q1⟩=>bR (ho pins s1 σ H1 _ I1 q1) fun u s2 ⟨x,H2,I2,rx,a,ov,ex,g,q2⟩=>?_
 subst ex
 obtain rfl:u=Value.ref a:=rx
 exact Bu hu I2 g ry fun s3 I3=>⟨.bl ov.isSome,H2,I3,rfl,q2⟩
theorem eB (hu:X.A.units+1<cLine)(hi:PE X i ty)(ho:PE X o td):PC X .NotIn i o (r_ ty td):=by
 intro pins s σ H Q I h
 refine bR (hi pins s σ H _ I h) fun iv s1 ⟨y,H1,I1,ry,q1⟩=>bR (ho pins s1 σ H1 _ I1 q1) fun u s2 ⟨x,H2,I2,rx,a,ov,ex,g,q2⟩=>?_
 subst ex
 obtain rfl:u=Value.ref a:=rx
 exact yS hu I2 g ry fun s3 I3=>⟨.bl (!ov.isSome),H2,I3,rfl,q2⟩
theorem dI (hu:X.A.units+1<cLine)(ho:PE X o td)(hi:PE X i ty)(hv:PE X value tv)(hs:swapsWith value (some (.Subscript o i pos')) pos.line X.env=pure false):
  PS X (.Assign [.Subscript o i pos'] value pos) (iB td ty tv):=by
 intro pins s σ H D I h
 refine wpAny_Assign_Subscript (bR (hv pins s σ H _ I h) fun r s1 ⟨v,H1,I1,rv,q1⟩=>bR (ho pins s1 σ H1 _ I1 q1) fun u s2 ⟨x,H2,I2,rx,q2⟩=>bR (hi pins s2 σ H2 _ I2 q2) fun iv s3 ⟨y,H3,I3,ry,a,H4,ex,g,q3⟩=>?_) hs
 subst ex
 obtain rfl:u=Value.ref a:=rx
 exact uj hu I3 g ry rv fun s4 I4=>⟨σ,H4,I4,q3⟩
end
theorem vy(h:Heap)(hb:sysModules<h.objs.size):bL P w H (h.push {cls:=.type "dict",data:=.dict #[]}) h.objs.size (.dT []):=
 ⟨C8 _,beq_eq_false_iff_ne.mpr (CQ (C6 hb)),[],.nil,_,#[],0,C4 _ rfl,⟨rfl,rfl,rfl⟩,rfl,rfl,EI⟩
def Au:TE:=fun _ H Q=>∀p,H p=none→Q (.ref p) (upd H p (.dT []))
section
variable {X:Cx} {pos:Pos}
theorem dJ:PE X (.Dict [] [] pos) Au:=fun pins s σ H Q I h=>
 wpAny_Dict_empty ⟨.ref s.heap.objs.size,_,I.laid (a:=s.heap.objs.size) (o:=.dT []) (t':=s.toks) (fun _ _ q=>CO _ q) (CM _) (vy s.heap I.big),rfl,h _ (I.hok.fresh (CM _))⟩
end
structure M1 (X:Cx) (o:Expr) (m:Str) (apos:Pos) (e:Expr) (cpos:Pos):Prop where
 base:attributeBase o m X.env (eval o X.env)=eval o X.env
 few:((backTo cpos (starEach [e] X.env)).all (fun x=>!x.1)&&(backToKw cpos (keywordEach [] X.env)).all (fun x=>x.1.isSome)
  &&decide (([e]:List Expr).length+([]:List Keyword).length+(if ([]:List Keyword).isEmpty then 0 else 1)<30))=true
 line:(apos.endLine==cpos.line)=true
 trees:backTo cpos (starEach [e] X.env)=[(false,eval e X.env)]
section
variable {X:Cx} {pins:List (Addr×Obj)} {σ:St} {H:Hp} {s:Shared} {a:Addr} {y d:V} {u r:Value} {o:Option V} {A:Around} {E:Value→Shared→Prop}
theorem zw(hu:A.units+1<cLine)(I:aL X pins σ H s)(g:hZ H a y o)(ry:aT y u)(rd:aT d r)(h:∀w' s',aL X pins σ H s'→aT (o.getD d) w'→Q w' s'):
  wpAny (model X.prog X.w) A (call (.builtin "dict.get") [.ref a,u,r]) Q E s:=by
 rcases g with ⟨kvs,k,e,ey,l⟩|⟨kvs,k,b,e,ey,eb,l⟩
 ·subst ey
  obtain⟨z,hd,vs,c,dd⟩:=kB I.hok e
  refine call_meetsIn EJ dd.typeIs PySem.F.entry_dict_get (PySem.F.args_dict_get_3 _ _ _) (meets_dict_get_default (aW X.prog X.w) a (mZ ry) hd r) ⟨_,dd.mapOf,h _ _ (I.tok _) ?_⟩
  rw[l]
  exact(c.val k).getD rd
 ·subst ey
  cases(show u=Value.ref b from ry)
  obtain⟨z,hd,xs,c,dd⟩:=iH I.hok e
  refine call_meetsIn EJ dd.typeIs PySem.F.entry_dict_get (PySem.F.args_dict_get_3 _ _ _) (meetsH_dict_get_default (tupleKind (aW X.prog X.w)) a b hd r) ⟨tupleKind_room_in1 hu,k,xs,ic I.hok eb,dd,h _ _ (I.tok _) ?_⟩
  rw[l]
  exact(c.val k).getD rd
end
section
variable {X:Cx} {o e f:Expr} {apos cpos:Pos} {td ty tx:TE}
end
section
variable {X:Cx} {pins:List (Addr×Obj)} {σ:St} {H:Hp} {s:Shared} {a:Addr} {kvs:List (cK×V)} {A:Around} {E:Value→Shared→Prop}
theorem wQ(I:aL X pins σ H s)(e:Rd H a (.dK kvs))(h:∀p s',H p=none→aL X pins σ (upd H p (.dK kvs)) s'→Q (.ref p) s'):wpAny (model X.prog X.w) A (call (.type "dict") [.ref a]) Q E s:=by
 obtain⟨z,hd,vs,c,dd⟩:=kB I.hok e
 refine kt_call_dict hd dd (by rw[←c.length];exact z) fun h' dd' hs=>?_
 refine h _ _ (I.hok.fresh (CM _)) (I.laid (a:=s.heap.objs.size) (o:=.dK kvs) (t':=s.toks) (fun b q hq=>?_) (CM _) (vY z (beq_eq_false_iff_ne.mpr (CQ (C6 I.big))) c dd'))
 exact(hs.2 b (C6 (CS hq))).trans (CO _ hq)
end
section
variable {X:Cx} {pins:List (Addr×Obj)} {σ:St} {H:Hp} {s:Shared} {a:Addr} {y:V} {u:Value} {A:Around} {E:Value→Shared→Prop}
end
end L2
namespace Att
open PySem PySem.W PySem.Calls PyProof.Rows
theorem j8 {P:Params}:∀(ns:List Int) (vs:List Value),WellAll P h vs (ns.map WData.int)→IntsAre vs ns:=by
 intro ns
 induction ns with
 |nil=>
  intro vs w
  rw[List.map_nil] at w
  cases w
  exact .nil
 |cons n ns ih=>
  intro vs w
  rw[C5] at w
  cases w with
  |cons a b=>
   cases a
   exact .cons _ _ (ih _ b)
theorem um {l:OpenLaw}(hn:l.most=some n){P:Params}{h:Heap}{args:List WData}{vals:List Value}
  (hpre:l.row.toRowW.claim.pre args=true) (hwl:WellAll P h vals args):
  ∃a vs ns,vals=[Value.ref a]∧args=[WData.list (ns.map WData.int)]∧h.get? a=some {cls:=.type "list",data:=.seq vs.toArray}∧IntsAre vs ns∧ns.length≤n:=by
 have c:WShape.hasAll [] args [.list .int]=true:=(pre_splitW hpre).1
 have hc:l.pre.holds [] {args:=args}=true:=(pre_splitW hpre).2
 obtain⟨d,r,rfl,h1,h2⟩:=hasAllW_cons c
 obtain rfl:=hasAllW_nil h2
 obtain⟨xs,rfl,h3⟩:=hasW_list h1
 obtain⟨ns,rfl⟩:=items_int h3
 have b:ns.length≤n:=by
  unfold OpenLaw.pre at hc
  have h4:(WTm.not (.lt (.lit (.int (n:Int))) (.len (.arg 0)))).holds [] {args:=[.list (ns.map .int)]}=true:=by
   have h4:=(holds_andW hc).1
   rw[hn] at h4
   exact h4
  have h5:=condW_of h4 (w_not (w_lt w_lit (w_len_list (w_arg rfl))))
  rw[CK] at h5
  refine Nat.le_of_not_lt fun q=>?_
  have q':(n:Int)<((ns.length:Nat):Int):=by lia
  first
   |(rw[decide_eq_true q'] at h5;exact absurd h5 (by decide))
   |(simp at h5;lia)
 cases hwl with
 |cons w1 w2=>
  cases w2
  cases w1 with
  |list ho hall=>exact⟨_,_,ns,rfl,rfl,ho,j8 ns _ hall,b⟩
theorem uF (l:OpenLaw)(args:List WData):l.row.toRowW.claim.post args (.bool true) args=true:=
 postW_of (r:=l.row.toRowW) (X:=(true==true))
  (show WShape.has [] (.bool true) .bool=true by first|rfl|decide|simp[WShape.has,WShape.arms,WShape.armsAll])
  (show(WTm.eq .res (.lit (.bool true))).value [] {args:=args,res:=some (.bool true),after:=args}=some (.bool (true==true)) from w_eq_bool (w_res rfl) w_lit) rfl
theorem attach_call {l:OpenLaw}{XP:(Str→Option Value)→Heap→Prop}{YP:World→Heap→Prop}{d:DefRec}
  (hn:l.most=some n) (hdf:d.params.defaults=[])
  (call:∀(w:World) (s₀ s₁:Shared) (mg mb:Str→Option Value) (fa:Addr) (o:Obj) (pm cd doc:Value) (a:Addr) (vs:List Value) (ns:List Int),
   Ground q loose [] XP w s₀ mg mb s₁.heap→YP w s₁.heap→
   s₁.heap.get? fa=some o→o.data=.func (docDef d.name d.params d.body d.scope pm cd doc)→s₁.heap.CodeRec cd d.name→mg d.name=some (.ref fa)→
   s₁.heap.get? a=some {cls:=.type "list",data:=.seq vs.toArray}→IntsAre vs ns→ns.length≤n→s₁.gens= #[]→
   codeAny (model l.prog w) callerA (.call (.ref fa) ⟨[.ref a],[]⟩) (fun r s'=>r=.ok (.ret (.bool true))∧OldK s₁.heap s'.heap∧s'.os=s₁.os∧AllBare s'.gens) s₁):
  WalkO q loose XP YP l.row.toRowW d [] (fun f vs=>PySem.call f vs):=by
 intro w s₀ s₁ mg mb G Y fa o pm cd doc dV kV ho hd hcd hD hmg hg args vals as hpre hlay hrd hwl hlo
 obtain rfl:dV=.none:=Dflts.none hD hdf
 obtain rfl:kV=.none:=Dflts.noKw hD
 obtain⟨a,vs,ns,rfl,rfl,e,b,c⟩:=um hn hpre hwl
 refine enter_call (codeAny_mono (call w s₀ s₁ mg mb fa o pm cd doc a vs ns G Y ho (fd_plain hd) hcd hmg e b c hg) fun r s' hq=>?_)
 obtain⟨rfl,h2,h3,h4⟩:=hq
 exact⟨.inl ⟨.bool true,.bool true,[],rfl,fun _=>rfl,.bool true,uF l _,fun _=>⟨List.Pairwise.nil,fun _ hm=>(nomatch hm)⟩⟩,h2,h3,h4⟩
section
variable {prog:Program} {w:World} {A:Around} {E:Value→Shared→Prop} {s:Shared} {K:Frag}
def rO (h:Heap):Heap:={h with objs:= #[]}
theorem noObjs_get (h:Heap)(b:Addr):(rO h).get? b=none:=by
 cases e:(rO h).get? b with
 |none=>rfl
 |some o=>exact absurd (CS e) (EZ _)
theorem fr_all(n:h.Ns L m):Fr (rO h) L h m:=
 ⟨n,fun b o e=>(by rw[noObjs_get] at e;cases e),C8 _⟩
end
end Att
namespace L2
open PySem PySem.Spec PyProof.Rows
theorem mR:∀{vs:List Value} {ns:List Int},IntsAre vs ns→bh (ns.map V.int) vs
 |_,_,.nil=> .nil
 |_,_,.cons n t h=> .cons ⟨t,rfl⟩ (mR h)
noncomputable def dG (s:Stmt) (j:Nat):Stmt:=match s with
 | .ClassDef _ _ _ body _ _ _ _ _ _ _=>body.getD j (.Pass ⟨0,0,0,0⟩)
 |_=> .Pass ⟨0,0,0,0⟩
noncomputable def aG (s:Stmt):Arguments:=match s with
 | .FunctionDef _ a _ _ _ _ _ _ _ _=>a
 |_=>{posonlyargs:=[],args:=[],vararg:=none,kwonlyargs:=[],kw_defaults:=[],kwarg:=none,defaults:=[]}
noncomputable def aE (s:Stmt):List Stmt:=match s with
 | .FunctionDef _ _ b _ _ _ _ _ _ _=>b
 |_=>[]
noncomputable def au (s:Stmt):Scope:=match s with
 | .FunctionDef _ _ _ _ _ _ sc _ _ _=>sc
 |_=>{kind:=.function,names:=[],isGenerator:=false,isCoroutine:=false}
abbrev dw:uL:=fun _ _ _ _ _ _=>False
abbrev E0:XK:=fun _ _ _=>False
theorem pd:gm dw X E0:=fun _ _ _ _ _ _ _ h=>h.elim
structure dW (K:CJ) (x qual:Str) (st:Stmt) (f:Addr) (fd:FuncData):Prop where
 ex:∃(oc:Value) (od:Option Addr) (kV doc pm:Value) (an:Option Addr) (cdv ct:Value) (osl:Array (Option Value)),
  fd=CT x qual (aG st) (aE st) (au st) .none kV doc pm an cdv ct∧K.lookup f=some ⟨oc,od,.func fd,osl⟩∧C1 K cdv qual=true
 kp:CZ K (.ref f)=true
section
variable {P:Program} {w:World} {K:CJ} {mg:Str→Option Value} {base:Heap}
theorem dW.ok{st:Stmt}(F:dW K x qual st f fd)(S:aM N ps (au st))(len:∀vs H Q E,sp vs H Q E→vs.length=ps.length)
  (hbody:∀(cdv:Value) (A:Around) (outer:List Env) (s:Shared) (H:Hp) (vs:List V) (Q:VK) (E:XK),bj k (A.deeper (envOfC qual (au st) s.heap.objs.size f cdv))→sp vs H Q E→
   ∃t,sG (mz dw P w K mg base N qual (au st) f cdv A outer s H E).nox (aE st) t∧t {nx:=fun _ H'=>Q .non H',rt:=Q} (start N vs) H):bJ P w K mg base dw (k+1) f fd ps sp:=by
 obtain⟨oc,od,kV,b,pm,an,cdv,ct,c,rfl,lk,a⟩:=F.ex
 refine zf lk a S len fun A outer s H vs Q E hr hsp=>?_
 obtain⟨t,h,q⟩:=hbody cdv A outer s H vs Q E hr hsp
 exact⟨t,h.nox,q⟩
theorem dW.binds{st:Stmt}(F:dW K x qual st f fd)
  (h:∀(kV doc pm:Value) (an:Option Addr) (cdv ct:Value) (us:List Value),us.length=ps.length→bindArgs (CT x qual (aG st) (aE st) (au st) .none kV doc pm an cdv ct) ⟨us,[]⟩=pure (ps.zip us)):cI K fd ps []:=by
 obtain⟨oc,od,kV,doc,pm,an,cdv,ct,a,rfl,lk,b⟩:=F.ex
 exact .all (h kV doc pm an cdv ct)
theorem bq{st:Stmt}{osl:Array (Option Value)}{kV:Value}(l:K.lookup f=some ⟨oc,od,.func (CT x qual (aG st) (aE st) (au st) .none kV doc pm an cdv ct),osl⟩)
  (c:C1 K cdv qual=true) (k:CZ K (.ref f)=true):dW K x qual st f (CT x qual (aG st) (aE st) (au st) .none kV doc pm an cdv ct):=⟨⟨oc,od,kV,doc,pm,an,cdv,ct,osl,rfl,l,c⟩,k⟩
end
theorem uC(h:n≤1000):n<sizeLine:=Nat.lt_of_le_of_lt h (by decide)
section
variable {X:Cx}
theorem pv (i:Nat){x:Str}{pos:Pos}(hN:X.N[i]?=some x:=by rfl)(hv:BY X.env.scope x:=by first|exact Or.inl rfl|exact Or.inr (Or.inl rfl)|exact Or.inr (Or.inr rfl))(hd:(x==("__debug__" :Str))=false:=by decide)
  (hcd:(x==("__classdict__" :Str))=false:=by decide):PE X (.Name x pos) (bQ i):=zV hN hv hd hcd
end
theorem hU {A B:Prop}(h:B):if false=true then A else B:=by
 rw[if_neg C0]
 exact h
theorem lG {A B:Prop}(h:A):if true=true then A else B:=by
 rw[if_pos rfl]
 exact h
def ax (H H':Hp):Prop:=∀b o,H b=some o→H' b=some o
theorem ax.refl (H:Hp):ax H H:=fun _ _ h=>h
theorem ax.trans(a:ax H H1)(b:ax H1 H2):ax H H2:=fun c o h=>b c o (a c o h)
theorem ax.free(e:ax H H'){l:Addr}(h:H' l=Option.none):H l=Option.none:=by
 cases q:H l with
 |none=>rfl
 |some o=>
  rw[e l o q] at h
  cases h
theorem ax.seq {K:CJ}{H H':Hp}{a:Addr}{xs:List V}(e:ax H H')(h:bg K H a xs):bg K H' a xs:=by
 rcases h with (h|⟨o,h⟩)|h
 ·exact .inl (.inl (e _ _ h))
 ·exact .inl (.inr ⟨o,e _ _ h⟩)
 ·exact .inr h
section
variable {κ:Type} [DecidableEq κ]
end
section
variable {X:Cx}
def mX (_ j:Int):Prop:=0<j∧j<2^200
theorem BG(h:mX i j):Builtin.divisionGoesByPylong i j=false:=by
 refine PyProof.noPylong_of_log2 ?_
 obtain⟨h1,h2⟩:=h
 have h0:j.natAbs≠0:=by lia
 have h3:j.natAbs<2^200:=by lia
 have:=(Nat.log2_lt h0).mpr h3
 lia
theorem bO:g6 X (binaryOp .FloorDiv) (rI mX fun i j=> .int (i/j)):=Bn fun i j _ _ _ _ _ hc q=>by
 have h1:(0:Int)<j:=hc.1
 exact floordiv_int (by lia) (by rw[Int.fdiv_eq_ediv_of_nonneg i (by lia)];exact q) (.inl (BG hc))
inductive z0:V→Value→Prop where
 |ty (n:String):z0 (.ty n) (.type n)
 |ref (C:Addr):z0 (.ref C) (.ref C)
theorem cR:dO X (.builtin "isinstance") (fun xs H Q=>∃x y c t b,xs=[x,y]∧z0 y c∧jC X.K H x t∧DT X.K t c=some b∧Q (.bl b) H):=by
 intro pins s σ H xs us Q I r h
 obtain⟨x,y,c,t,b,rfl,hy,ty,e,q⟩:=h
 obtain⟨u,w',rfl,rx,ry⟩:=g_ r
 cases hy with
 |ty n=>
  cases(show w'=Value.type n from ry)
  exact mJ I rx ty e fun tk=>⟨.bl b,H,I.tok _,rfl,q⟩
 |ref C=>
  cases(show w'=Value.ref C from ry)
  exact mJ I rx ty e fun tk=>⟨.bl b,H,I.tok _,rfl,q⟩
end
theorem qi{it:Value}(I:Nat→Shared→Prop)(E:Value→Shared→Prop)
  (hE:∀e s',E e s'→notedBy (model prog w) A env (fun e s'=>R (.error e) s') e s')
  (turn:∀n s,I n s→wpAny (model prog w) A (pyNext it) (fun r s₁=>match r with
   |none=>R (.ok .next) s₁
   |some v=>wpAny (model prog w) A (letOwnedTupleGo target it v) (fun _ s₁'=>wpAny (model prog w) A (assign target env v) (fun _ s₂=>
     wpAny (model prog w) A (forIn ifs true fun c r=>if r=true then do let ok←isTrue c env (eval c env);pure (ForInStep.yield ok) else pure (ForInStep.yield r)) (fun ok s₃=>
      if ok=true then wpAny (model prog w) A (eval elt env) (fun x s₄=>
       wpAny (model prog w) A (call (.builtin "list.append") [acc,x]) (fun _ s₅=>∃m,m<n∧I m s₅) E s₄) E s₃
      else∃m,m<n∧I m s₃) E s₂) E s₁') E s₁) E s)
  (n:Nat) (h:I n s):codeAny (model prog w) A (.compLoop (.ListComp elt [⟨target,iter,ifs,0⟩] scope pos) 0 it acc env) R s:=by
 refine codeAny_loop rfl I (fun n s hI=>?_) n h
 show wpAny _ A ((compTurn (.ListComp elt [⟨target,iter,ifs,0⟩] scope pos) 0 it acc env).onRaise (fun x=>do noteFrame x env;theTreesLotGoes x)) _ _ s
 refine wpAny_noted ?_
 rw[compTurn_list]
 refine CH (wpAny_standAt (CH (Dy (turn n s hI) (fun r s₁ h₁=>?_) hE)))
 cases r with
 |none=>exact CI h₁
 |some v=>
  refine CH (Dy h₁ (fun _ s₁' h₁'=>?_) hE)
  refine CH (Dy h₁' (fun _ s₂ h₂=>CH (Dy h₂ (fun ok s₃ h₃=>?_) hE)) hE)
  cases ok with
  |false=>exact CI ⟨rfl,h₃⟩
  |true=>
   exact CH (CH (Dy h₃ (fun x s₄ h₄=>CH (Dy h₄ (fun _ s₅ h₅=>CI (CI ⟨rfl,h₅⟩)) hE)) hE))
theorem gc:∀(names:List (Str×NameKind)) (acc:List (Str×Addr)),(∀y∈names,y.2=.free→∃c,env.cells.lookup y.1=some c)→(∀x c,acc.lookup x=some c→env.cells.lookup x=some c)→
  ∃cl,(forIn names acc (fun(x:Str×NameKind) (r:List (Str×Addr))=>(if (x.2==NameKind.free)=true then (do let a←cellOf env x.1;pure (ForInStep.yield ((x.1,a)::r))) else pure (ForInStep.yield r):Sem (ForInStep (List (Str×Addr))))))=(pure cl:Sem (List (Str×Addr)))∧
   (∀x c,cl.lookup x=some c→env.cells.lookup x=some c)∧(∀x c,acc.lookup x=some c→∃c',cl.lookup x=some c')∧∀y∈names,y.2=.free→∃c,cl.lookup y.1=some c
 |[],acc,_,ha=>⟨acc,rfl,ha,fun x c e=>⟨c,e⟩,fun _ h=>nomatch h⟩
 |(n,k)::r,acc,hf,ha=>by
  have hf':∀y∈r,y.2=.free→∃c,env.cells.lookup y.1=some c:=fun y hy=>hf y (Dh _ hy)
  by_cases hk:k=.free
  ·subst hk
   obtain⟨c,hc⟩:=hf (n,.free) Dk rfl
   have hc':env.cells.lookup n=some c:=hc
   have ha':∀x d,((n,c)::acc).lookup x=some d→env.cells.lookup x=some d:=fun x d e=>by
    rw[DF] at e
    cases hx:x==n with
    |true=>rw[hx] at e;cases e;rw[beq_iff_eq.mp hx];exact hc'
    |false=>rw[hx] at e;exact ha x d e
   obtain⟨cl,e,h1,h2,h3⟩:=gc r ((n,c)::acc) hf' ha'
   have hself:((n,c)::acc).lookup n=some c:=by rw[DF,beq_self_eq_true]
   refine⟨cl,?_,h1,fun x d ex=>?_,fun y hy hyf=>?_⟩
   ·rw[List.forIn_cons]
    have ec:cellOf env n=pure c:=by unfold cellOf;rw[hc']
    show((if (NameKind.free==NameKind.free)=true then (do let a←cellOf env n;pure (ForInStep.yield ((n,a)::acc))) else pure (ForInStep.yield acc):Sem _)>>=_)=_
    rw[if_pos (by decide),ec]
    exact e
   ·cases hx:x==n with
    |true=>rw[beq_iff_eq.mp hx];exact h2 n c hself
    |false=>exact h2 x d (by rw[DF,hx];exact ex)
   ·rcases CV.mp hy with rfl|hy
    ·exact h2 n c hself
    ·exact h3 y hy hyf
  ·obtain⟨cl,e,h1,h2,h3⟩:=gc r acc hf' ha
   refine⟨cl,?_,h1,h2,fun y hy hyf=>?_⟩
   ·rw[List.forIn_cons]
    show((if (k==NameKind.free)=true then (do let a←cellOf env n;pure (ForInStep.yield ((n,a)::acc))) else pure (ForInStep.yield acc):Sem _)>>=_)=_
    rw[if_neg (by simpa using hk)]
    exact e
   ·rcases CV.mp hy with rfl|hy
    ·exact absurd hyf hk
    ·exact h3 y hy hyf
theorem lA(h:∀y∈scope.names,y.2=.free→∃c,env.cells.lookup y.1=some c):
  ∃cl,closureFor scope env=pure cl∧(∀x c,cl.lookup x=some c→env.cells.lookup x=some c)∧∀y∈scope.names,y.2=.free→∃c,cl.lookup y.1=some c:=by
 obtain⟨cl,e,h1,_,h3⟩:=gc (env:=env) scope.names [] h (fun x c e=>nomatch e)
 refine⟨cl,?_,h1,h3⟩
 have e0:closureFor scope env=((forIn scope.names [] (fun(x:Str×NameKind) (r:List (Str×Addr))=>(if (x.2==NameKind.free)=true then (do let a←cellOf env x.1;pure (ForInStep.yield ((x.1,a)::r))) else pure (ForInStep.yield r):Sem (ForInStep (List (Str×Addr))))))>>=fun r=>pure r):=rfl
 rw[e0,e]
 rfl
theorem iN {env:Env}(hf:env.scope.kind=.function):∀{names:List (Str×NameKind)} {x:Str},names.lookup x=some .free→env.kindOf x=some .cell→
  (names.map fun(n,k)=>if (k==NameKind.free&&env.scope.kind==.function&&env.kindOf n==some .cell) then (n,NameKind.cell) else (n,k)).lookup x=some .cell
 |[],_,h,_=>by simp at h
 |(n,k)::r,x,h,hc=>by
  have ih:= @iN env hf r x
  show Eo x ((if (k==NameKind.free&&env.scope.kind==.function&&env.kindOf n==some .cell)=true then (n,NameKind.cell) else (n,k))::_)=_
  cases hx:x==n with
  |true=>
   simp only[DF,hx] at h
   cases h
   have e:x=n:=beq_iff_eq.mp hx
   subst e
   rw[if_pos (by rw[hf,hc];decide)]
   simp only[DF,hx]
  |false=>
   simp only[DF,hx] at h
   by_cases hq:(k==NameKind.free&&env.scope.kind==.function&&env.kindOf n==some .cell)=true
   ·rw[if_pos hq];simp only[DF,hx];exact ih h hc
   ·rw[if_neg hq];simp only[DF,hx];exact ih h hc
theorem iQ {env:Env}:∀{names:List (Str×NameKind)} {x:Str} {k:NameKind},
  (names.map fun(n,k)=>if (k==NameKind.free&&env.scope.kind==.function&&env.kindOf n==some .cell) then (n,NameKind.cell) else (n,k)).lookup x=some k→∃k0,names.lookup x=some k0∧(k=k0∨k0=.free)
 |[],_,_,h=>by simp at h
 |(n,k1)::r,x,k,h=>by
  have h:Eo x ((if (k1==NameKind.free&&env.scope.kind==.function&&env.kindOf n==some .cell)=true then (n,NameKind.cell) else (n,k1))::(r.map fun(n,k)=>if (k==NameKind.free&&env.scope.kind==.function&&env.kindOf n==some .cell) then (n,NameKind.cell) else (n,k)))=some k:=h
  cases hx:x==n with
  |true=>
   by_cases hq:(k1==NameKind.free&&env.scope.kind==.function&&env.kindOf n==some .cell)=true
   ·have:k1=.free:=by
     rw[EA,EA] at hq
     simpa using hq.1.1
    exact⟨k1,by simp only[DF,hx],.inr this⟩
   ·rw[if_neg hq] at h
    simp only[DF,hx] at h
    exact⟨k1,by simp only[DF,hx],.inl (Option.some.inj h).symm⟩
  |false=>
   have h':(r.map fun(n,k)=>if (k==NameKind.free&&env.scope.kind==.function&&env.kindOf n==some .cell) then (n,NameKind.cell) else (n,k)).lookup x=some k:=by
    by_cases hq:(k1==NameKind.free&&env.scope.kind==.function&&env.kindOf n==some .cell)=true
    ·rw[if_pos hq] at h;simp only[DF,hx] at h;exact h
    ·rw[if_neg hq] at h;simp only[DF,hx] at h;exact h
   obtain⟨k0,e,z⟩:=iQ h'
   exact⟨k0,by simp only[DF,hx];exact e,z⟩
noncomputable def cS (X:Cx) (N:List Str) (scope:Scope) (cl:List (Str×Addr)) (C:Addr) (s:Shared) (H:Hp) (fp:List Addr):Cx:=
 {X with N:=N,s₀:=s,H₀:=H,env:=compEnvC scope cl C X.env,outer:=X.stack,ex:=fp,fn:=fun _=>false,pn:=[],xe:=fun _ _=>False}
structure dU (X:Cx) (scope:Scope) (ls ys:List Str) (ix:List Nat):Prop where
 kind:scope.kind=.function
 nocellB:(scope.names.all fun y=>y.2 !=.cell)=true
 locB:(scope.names.all fun y=>y.2 !=.local||scope.names.lookup y.1==some .local)=true
 freeB:(scope.names.all fun y=>y.2 !=.free||X.env.kindOf y.1==some .cell)=true
 ylkB:(ys.all fun y=>scope.names.lookup y==some .free)=true
 yix:ix.map (fun j=>X.N[j]?)=ys.map some
section
variable {X:Cx} {scope:Scope} {ls ys:List Str} {ix:List Nat}
theorem dU.nocell (ok:dU X scope ls ys ix):∀y∈scope.names,y.2≠.cell:=fun y hy=>by
 simpa using Fi.mp ok.nocellB y hy
theorem dU.loc (ok:dU X scope ls ys ix):∀y∈scope.names,y.2=.local→scope.names.lookup y.1=some .local:=fun y hy e=>by
 have h:=Fi.mp ok.locB y hy
 rw[e] at h
 simpa using h
theorem dU.free (ok:dU X scope ls ys ix):∀y∈scope.names,y.2=.free→X.env.kindOf y.1=some .cell:=fun y hy e=>by
 have h:=Fi.mp ok.freeB y hy
 rw[e] at h
 simpa using h
theorem dU.ylk (ok:dU X scope ls ys ix):∀y∈ys,scope.names.lookup y=some .free:=fun y hy=>by
 simpa using Fi.mp ok.ylkB y hy
end
noncomputable def qA (n:Nat) (ix:List Nat) (σ:St):St:=List.replicate n none++ix.map fun j=>(σ[j]?).join
section
variable {X:Cx} {pins:List (Addr×Obj)} {σ:St} {H:Hp} {s:Shared} {scope:Scope} {ls ys:List Str} {ix:List Nat} {cl:List (Str×Addr)} {fp:List Addr}
theorem za(I:aL X pins σ H s)(ok:dU X scope ls ys ix)(hcl1:∀x c,cl.lookup x=some c→X.env.cells.lookup x=some c)
  (hcl2:∀y∈scope.names,y.2=.free→∃c,cl.lookup y.1=some c) (f3:∀b∈fp,jk X pins H b) (hob:∀b∈fp,b<s.heap.objs.size)
  (hns:h₁.Ns s.heap.objs.size m) (hk:∀b o,s.heap.get? b=some o→h₁.get? b=some o):
  aL (cS X (ls++ys) scope cl s.heap.objs.size s H fp) [] (qA ls.length ix σ) H {s with heap:=h₁,toks:=tk}:=by
 have a:∀x,scope.names.lookup x=some .free→X.env.kindOf x=some .cell:=fun x e=>ok.free (x,.free) (PySem.mem_of_lookup e) rfl
 refine⟨⟨I.ok.mod,ok.kind,I.ok.glob,I.ok.blt,CM _,fun x y c h1 h2=>I.ok.inj x y c (hcl1 x c h1) (hcl1 y c h2),fun x hx=>?_,fun x c hx _=>absurd hx C0,I.ok.hd,I.ok.frames,.inl rfl,
  fun b hb=>⟨C6 (hob b hb),fun x c e=>(f3 b hb).2.2.2.2.1 x c (hcl1 x c e)⟩,I.bs,Df I.ok.bsz I.sz,fun b o e hb=>?_,fun b hb z=>?_,I.stack,I.stkFree⟩,
  rfl,I.bare,Un.kept hk,⟨m,hns,fun i x v h1 h2 h3=>?_⟩,fun x c e=>?_,I.fresh,fun x c e=>I.freeC x c (hcl1 x c e),fun p hp=>absurd (show p∈([]:List (Addr×Obj)) from hp) (by simp),I.hok.kept hk,?_⟩
 ·have e:∃k,(relabel scope X.env).names.lookup x=some k∧(k=.cell∨k=.free):=by
   rcases hx with hx|hx
   ·exact⟨_,hx,.inl rfl⟩
   ·exact⟨_,hx,.inr rfl⟩
  obtain⟨k,e,g⟩:=e
  obtain⟨k0,e0,z⟩:=iQ e
  have hm:=PySem.mem_of_lookup e0
  have n:k0=.free:=by
   rcases z with z|z
   ·rcases g with q|q
    ·exact absurd (z.symm.trans q) (ok.nocell _ hm)
    ·exact z.symm.trans q
   ·exact z
  exact hcl2 _ hm n
 ·obtain⟨q1,q2,q3,q4,_⟩:=f3 b hb
  rcases q4 with q4|q4
  ·exact I.ok.noex b o e q4
  ·exact absurd (Dv (CS e) (Df I.ok.bsz q4)) (DL _)
 ·rcases CV.mp (I.stkSub b z) with q|q
  ·exact(f3 b hb).2.1 q
  ·exact(f3 b hb).2.2.1 q
 ·have h1:(ls++ys)[i]?=some x:=h1
  have h2:(List.replicate ls.length none++ix.map fun j=>(σ[j]?).join)[i]?=some (some v):=h2
  by_cases hi:i<ls.length
  ·rw[Ef (by rw[EV];exact hi),List.getElem?_replicate,if_pos hi] at h2
   cases h2
  ·rw[Ee (by rw[EV];lia),EV,CW] at h2
   rw[Ee (by lia)] at h1
   cases e:ix[i - ls.length]? with
   |none=>rw[e] at h2;cases h2
   |some j=>
    rw[e] at h2
    have h2:(σ[j]?).join=some v:=Option.some.inj h2
    have hσ:σ[j]?=some (some v):=by
     cases q:σ[j]? with
     |none=>rw[q] at h2;cases h2
     |some z=>rw[q] at h2;exact congrArg some h2
    have hN:X.N[j]?=some x:=by
     have q:=congrArg (fun l=>l[i - ls.length]?) ok.yix
     simp only[CW,e,h1,ES] at q
     exact Option.some.inj q
    have hl:=ok.ylk x (C2 h1)
    have hc:=a x hl
    obtain⟨m',w,h⟩:=I.loc
    obtain⟨u,r,lk⟩:=h j x v hN hσ (.inr (.inl hc))
    refine⟨u,r,?_⟩
    rcases lk with ⟨lk,_⟩|⟨_,c,ec,z⟩
    ·rw[hc] at lk;cases lk
    ·obtain⟨c',f⟩:=hcl2 _ (PySem.mem_of_lookup hl) rfl
     have d:X.env.cells.lookup x=some c':=hcl1 x c' f
     rw[ec] at d
     cases d
     exact .inr ⟨.inl (iN I.ok.kind hl hc),c,f,z.keeps hk⟩
 ·obtain⟨v,z⟩:=I.cell x c (hcl1 x c e)
  exact⟨v,z.keeps hk⟩
 ·show(List.replicate ls.length none++ix.map fun j=>(σ[j]?).join).length=(ls++ys).length
  have q:=congrArg List.length ok.yix
  rw[CK,CK] at q
  rw[C_,C_,EV,CK,q]
end
def PF (X:Cx) (ifs:List Expr) (t:TT):Prop:=
 ∀(pins:List (Addr×Obj)) (s:Shared) (σ:St) (H:Hp) (Q:Bool→Hp→Prop),aL X pins σ H s→t σ H Q→
  wpAny (model X.prog X.w) X.A (forIn ifs true fun c r=>if r=true then do let ok←isTrue c X.env (eval c X.env);pure (ForInStep.yield ok) else pure (ForInStep.yield r)) (TP X pins σ Q) X.xe s
def yJ:TT:=fun _ H Q=>Q true H
theorem gx:PF X [] yJ:=fun _ _ _ H _ I h=>wpAny_tests_nil ⟨H,I,h⟩
theorem jf(h:PT X c t):PF X [c] t:=fun pins s σ H Q I hw=>wpAny_tests_one (h pins s σ H Q I hw)
def vU (σ0:St) (g:TG) (tt:TT) (te:TE) (J:It) (H1:Hp) (D:Addr) (Q:Hp→Prop):Prop:=
 ∃W:Nat→Nat→St→Hp→Prop,(∃m,W 0 m σ0 (upd H1 D (.lst [])))∧∀i m τ H,W i m τ H→
  (J.stop i H∧Q H)∨(J.go i H∧∃N:St→Hp→Prop,(∀τ' H',N τ' H'→∃m',m'<m∧W (i+1) m' τ' H')∧∀x H',J.yld i H x H'→g x τ H' fun τ2 H2=>tt τ2 H2 fun b H3=>
   if b=true then te τ2 H3 fun v H4=>∃acc,H4 D=some (.lst acc)∧acc.length<sizeLine∧N τ2 (upd H4 D (.lst (acc++[v]))) else N τ2 H3)
def Bm (wi:TI) (n:Nat) (ix:List Nat) (g:TG) (tt:TT) (te:TE):TE:=fun σ H Q=>wi σ H fun J H1=>∀D,H1 D=none→vU (qA n ix σ) g tt te J H1 D fun H'=>Q (.ref D) H'
def qZ (wi:TI) (n:Nat) (ix:List Nat) (g:TG) (tt:TT) (te:TE) (i:Nat):TS:=fun D σ H=>Bm wi n ix g tt te σ H fun x H1=>D.nx (σ.set i (some x)) H1
section
variable {X:Cx} {scope:Scope} {ls ys:List Str} {ix:List Nat} {tg iter elt:Expr} {ifs:List Expr} {pos:Pos} {wi:TI} {g:TG} {tt:TT} {te:TE}
theorem pP {pins:List (Addr×Obj)}{it:Addr}{tn:Nat→Heap→Prop}{cl:List (Str×Addr)}{Q:Addr→Hp→Prop}{R:Value→Addr→Result→Shared→Prop}(hc:X.calm=true)
  (ok:dU X scope ls ys ix) (I:aL X pins σ H1 s) (T:oZ X.prog X.w X.K tg J fp it tn) (st:tn 0 s.heap) (f2:∀b∈fp,jk X pins H1 b)
  (hcl1:∀x c,cl.lookup x=some c→X.env.cells.lookup x=some c) (hcl2:∀y∈scope.names,y.2=.free→∃c,cl.lookup y.1=some c)
  (hg:∀cl C s H fp,PG (cS X (ls++ys) scope cl C s H fp) tg g) (ht:∀cl C s H fp,PF (cS X (ls++ys) scope cl C s H fp) ifs tt) (he:∀cl C s H fp,PE (cS X (ls++ys) scope cl C s H fp) elt te)
  (hJ:∀D,H1 D=none→vU (qA ls.length ix σ) g tt te J H1 D (Q D))
  (hR:∀D C H' s',Q D H'→aL X pins σ H' s'→H' C=none→jk X pins H' C→(∃m,s'.heap.Ns C m)→R (.ref D) C (.ok .next) s'):
  wpAny (model X.prog X.w) X.A (newList []) (fun acc s₃=>wpAny (model X.prog X.w) X.A (newFunctionEnv scope X.env.globals cl [] X.env.qual none .none (some X.env)) (fun cenv s₄=>
   codeAny (model X.prog X.w) X.A (.compStart (.ListComp elt [⟨tg,iter,ifs,0⟩] scope pos) 0 (.ref it) acc {cenv with scope:=relabel scope X.env}) (R acc cenv.locals) s₄) E s₃) E s:=by
 have f:∀b∈fp,b<s.heap.objs.size:=fun b hb=>by
  obtain⟨o,e,_⟩:=T.obj _ _ st b hb
  exact CS e
 have I3:=I.lnew (ys:=[]) (its:=[]) (t':=s.toks) .nil (C8 _)
 have hD:H1 s.heap.objs.size=none:=I.fresh
 obtain⟨W,⟨m0,w0⟩,K⟩:=hJ s.heap.objs.size hD
 refine DA (wpAny_newFunctionEnv ok.nocell (by intro y hy;simp at hy) (fun h₁ j l=>?_) ok.kind)
 generalize hs3:({s with heap:=s.heap.push {cls:=.type "list",data:=.seq ([]:List Value).toArray},toks:=s.toks}:Shared)=s3 at I3
 have e3:s.heap.push {cls:=.type "list",dict:=none,data:=.seq ([]:List Value).toArray}=s3.heap:=by rw[←hs3]
 have L:({s with heap:=s.heap.push {cls:=.type "list",dict:=none,data:=.seq ([]:List Value).toArray}}:Shared)=s3:=by rw[←hs3]
 generalize hH3:upd H1 s.heap.objs.size (.lst [])=H3 at I3 w0
 have A:s3.heap.objs.size=s.heap.objs.size+1:=by rw[←e3,DM]
 have w:∀b o,s.heap.get? b=some o→s3.heap.get? b=some o:=fun b o e=>by rw[←e3];exact CO _ e
 have f3:∀b∈fp,jk X pins H3 b:=fun b hb=>by
  refine⟨?_,(f2 b hb).2⟩
  rw[←hH3,aj (C6 (f b hb))]
  exact(f2 b hb).1
 have j:h₁.Ns s3.heap.objs.size (fun x=>([]:List (Str×Value)).reverse.lookup x):=by rw[←e3];exact j
 have l:Heap.SameBut s3.heap.objs.size (s3.heap.push {cls:=.type (if (some X.env).isSome then "dict" else "frame"),data:=.dict #[]}) h₁:=by rw[←e3];exact l
 have k:∀b o,s3.heap.get? b=some o→h₁.get? b=some o:=fun b o e=>l.extBut b o (C6 (CS e)) (CO _ e)
 have Ic:=za (tk:=s3.toks) I3 ok hcl1 hcl2 f3 (fun b hb=>by rw[A];exact Fj (f b hb)) j k
 have a:∀{H':Hp} {pl:List (Addr×Obj)},(∀b∈fp,H' b=none)→pl=[]→∀b∈fp,jk (cS X (ls++ys) scope cl s3.heap.objs.size s3 H3 fp) pl H' b:=fun{H' pl} hn hpl b hb=>by
  subst hpl
  refine⟨hn b hb,C6 (by rw[show(cS X (ls++ys) scope cl s3.heap.objs.size s3 H3 fp).env.locals=s3.heap.objs.size from rfl,A];exact Fj (f b hb)),Ic.ok.exfs b hb,.inl hb,fun x c e=>(f3 b hb).2.2.2.2.1 x c (hcl1 x c e),fun p hp=>absurd (show p∈([]:List (Addr×Obj)) from hp) (by simp)⟩
 have q:codeAny (model X.prog X.w) X.A (.compLoop (.ListComp elt [⟨tg,iter,ifs,0⟩] scope pos) 0 (.ref it) (.ref s.heap.objs.size) (compEnvC scope cl s3.heap.objs.size X.env)) (R (.ref s.heap.objs.size) s3.heap.objs.size) {s3 with heap:=h₁,toks:=s3.toks}:=by
  refine qi (fun n s'=>∃i τ H',aL (cS X (ls++ys) scope cl s3.heap.objs.size s3 H3 fp) [] τ H' s'∧tn i s'.heap∧(∀b∈fp,H' b=none)∧W i n τ H') (fun _ _=>False) (fun _ _ h=>h.elim) ?_ m0
   ⟨0,qA ls.length ix σ,H3,Ic,T.keep _ _ _ st (fun b _ o e=>k b o (w b o e)),fun b hb=>(f3 b hb).1,w0⟩
  rintro n s4 ⟨i,τ,H4,I4,F,B,w4⟩
  rcases K i n τ H4 w4 with ⟨stop,qn⟩|⟨go,N,hN,step⟩
  ·refine bR (T.done (cS X (ls++ys) scope cl s3.heap.objs.size s3 H3 fp) rfl rfl rfl hc i [] s4 τ H4 (fun _ _=>False) I4 (a B rfl) F stop) fun r s5 ⟨hr,I5⟩=>?_
   subst hr
   have Io:aL X pins σ H4 s5:=I3.call' (ch:=fp) I5.os I5.base I5.hok I5.bare fun b hb=>⟨(f3 b hb).2.2.2.1,(f3 b hb).2.1,(f3 b hb).2.2.2.2.1,(f3 b hb).2.2.2.2.2⟩
   obtain⟨m5,n5,_⟩:=I5.loc
   have hC:H4 s3.heap.objs.size=none:=I5.free
   exact hR _ _ H4 s5 qn Io hC (I3.fpOk (CM _) hC) ⟨m5,n5⟩
  ·refine bR (T.item (cS X (ls++ys) scope cl s3.heap.objs.size s3 H3 fp) rfl rfl rfl hc i [] s4 τ H4 (fun _ _=>False) I4 (a B rfl) F go) fun r s5 ⟨u,hr,h5⟩=>?_
   subst hr
   refine bR h5 fun _ s6 ⟨x,H6,I6,r6,y6,st6,fr6⟩=>?_
   have I6':=I6.pinned (a fr6 rfl) (T.obj _ _ st6)
   have z:∀{τ7:St} {H7:Hp} {s7:Shared},aL (cS X (ls++ys) scope cl s3.heap.objs.size s3 H3 fp) ([]++lu fp s6.heap) τ7 H7 s7→N τ7 H7→∃m,m<n∧∃i τ H',aL (cS X (ls++ys) scope cl s3.heap.objs.size s3 H3 fp) [] τ H' s7∧tn i s7.heap∧(∀b∈fp,H' b=none)∧W i m τ H':=fun{τ7 H7 s7} I7 n7=>by
    obtain⟨m',hm,w7⟩:=hN τ7 H7 n7
    refine⟨m',hm,i+1,τ7,H7,I7.unpinned,T.keep _ _ _ st6 fun b hb o e=>(I7.pin (b,o) (DZ _ (DZ _ (fD hb e)))).1,fun b hb=>?_,w7⟩
    obtain⟨o,e,d⟩:=T.obj _ _ st6 b hb
    exact(I7.pin (b,o) (DZ _ (DZ _ (fD hb e)))).2.1
   refine bR (hg _ _ _ _ _ _ s6 τ H6 x u _ I6' r6 (step x H6 y6)) fun _ s7 ⟨τ7,H7,I7,q7⟩=>?_
   refine bR (ht _ _ _ _ _ _ s7 τ7 H7 _ I7 q7) fun b s8 ⟨H8,I8,q8⟩=>?_
   cases b with
   |false=>
    rw[if_neg C0] at q8⊢
    exact z I8 q8
   |true=>
    rw[if_pos rfl] at q8⊢
    refine bR (he _ _ _ _ _ _ s8 τ7 H8 _ I8 q8) fun y s9 ⟨v,H9,I9,r9,acc,hacc,hlen,n9⟩=>?_
    exact bR (dj _ s9 τ7 H9 (.ref s.heap.objs.size) [v] (.ref s.heap.objs.size) [y] (fun _ H'=>N τ7 H') I9 rfl (.cons r9 .nil) ⟨_,acc,v,rfl,rfl,hacc,hlen,n9⟩) fun _ s10 ⟨_,H10,I10,_,n10⟩=>z I10 n10
 exact codeAny_compStart_list q (T.self _ 0 _ _ _ (T.keep _ _ _ st (fun b _ o e=>k b o (w b o e))) q)
theorem jX (hc:X.calm=true)(ok:dU X scope ls ys ix)(hi:PI X tg iter wi)
  (hg:∀cl C s H fp,PG (cS X (ls++ys) scope cl C s H fp) tg g) (ht:∀cl C s H fp,PF (cS X (ls++ys) scope cl C s H fp) ifs tt) (he:∀cl C s H fp,PE (cS X (ls++ys) scope cl C s H fp) elt te)
  (hs:∀x,foldedSetIterable iter X.env x=pure x:=by intro _;rfl):PE X (.ListComp elt [⟨tg,iter,ifs,0⟩] scope pos) (Bm wi ls.length ix g tt te):=by
 intro pins s σ H Q I h
 obtain⟨cl,a,c,d⟩:=lA (scope:=scope) (env:=X.env) fun y hy hf=>I.ok.has y.1 (.inl (ok.free y hy hf))
 rw[eval_ListComp]
 refine wpAny_comprehension_free (use:=none) rfl hs a ok.kind ok.loc (bR (hi pins s σ H _ I h) fun v s1 h1=>bR h1 fun itv s2 h2=>?_)
 obtain⟨it,fp,tn,J,H2,rfl,I2,T,f,f2,hJ⟩:=h2
 refine pP (R:=fun acc C=>compPost (model X.prog X.w) X.A X.xe none (EP X pins σ Q) acc C) hc ok I2 T f f2 c d hg ht he hJ fun D C H' s' q I' hC fC hm=>?_
 obtain⟨m,hn⟩:=hm
 refine⟨m,hn,fun h' hsb=>⟨.ref D,H',?_,rfl,q⟩⟩
 exact I'.turned (t':=s'.toks) (fun b o hb e=>(hsb.2 b hb).trans e) hC fC.2.1 fC.2.2.2.1 fC.2.2.2.2.1 fC.2.2.2.2.2
theorem fz(hc:X.calm=true)(hN:X.N.Nodup)(hxi:X.N[i]?=some x)(hx:A7 X.env.scope x)(ok:dU X scope ls ys ix)(hi:PI X tg iter wi)
  (hg:∀cl C s H fp,PG (cS X (ls++ys) scope cl C s H fp) tg g) (ht:∀cl C s H fp,PF (cS X (ls++ys) scope cl C s H fp) ifs tt) (he:∀cl C s H fp,PE (cS X (ls++ys) scope cl C s H fp) elt te)
  (hs:∀x,foldedSetIterable iter X.env x=pure x:=by intro _;rfl) (hsw:swapsWith (.ListComp elt [⟨tg,iter,ifs,0⟩] scope pos) (some (.Name x px)) spos.line X.env=pure true:=by rfl)
  (hf:X.fn x=true∨X.env.scope.names.lookup x=some .local:=by first|exact .inl rfl|exact .inr rfl|assumption):
  PS X (.Assign [.Name x px] (.ListComp elt [⟨tg,iter,ifs,0⟩] scope pos) spos) (qZ wi ls.length ix g tt te i):=by
 intro pins s σ H D I h
 obtain⟨cl,c,d,f⟩:=lA (scope:=scope) (env:=X.env) fun y hy hf=>I.ok.has y.1 (.inl (ok.free y hy hf))
 rw[exec_Assign_Name_used _ _ _ _ hsw]
 refine CH (wpAny_standAt (CH ?_))
 show wpAny _ X.A (do let _←comprehension (.ListComp elt [⟨tg,iter,ifs,0⟩] scope pos) scope X.env _ (newList []) false (eval iter X.env) (some (assign (.Name x px) X.env))) _ _ s
 refine CH (Dy (wpAny_comprehension_free (use:=some (assign (.Name x px) X.env)) (Q:=fun _ s'=>∃σ' H',aL X pins σ' H' s'∧D.nx σ' H') rfl hs c ok.kind ok.loc
  (bR (hi pins s σ H _ I h) fun v s1 h1=>bR h1 fun itv s2 h2=>?_)) (fun _ s' hq=>CI (CI hq)) fun _ _ e=>e)
 obtain⟨it,fp,tn,J,H2,rfl,I2,T,j,f2,hJ⟩:=h2
 refine pP (R:=fun acc C=>compPost (model X.prog X.w) X.A X.xe (some (assign (.Name x px) X.env)) (fun _ s'=>∃σ' H',aL X pins σ' H' s'∧D.nx σ' H') acc C) hc ok I2 T j f2 d f hg ht he hJ fun Da C H' s' q I' hC fC hm=>?_
 obtain⟨m,hn⟩:=hm
 show wpAny _ X.A (assign (.Name x px) X.env (.ref Da)) _ _ s'
 refine wpAny_assign_Name (m_ (v:=.ref Da) I' hN hxi hx rfl (fun s2 I3 hz=>?_) hf)
 obtain⟨a,sb,ha⟩:=hz
 have k:C≠a:=by
  rcases ha with ha|ha
  ·rw[ha];exact fC.2.1
  ·exact CQ (fC.2.2.2.2.1 x a ha)
 refine⟨m,hn.sameBut sb k,fun h' hsb=>⟨_,H',?_,q⟩⟩
 exact I3.turned (t':=s2.toks) (fun b o hb e=>(hsb.2 b hb).trans e) hC fC.2.1 fC.2.2.2.1 fC.2.2.2.2.1 fC.2.2.2.2.2
end
def Ev (t:TE) (σ:St) (H:Hp) (v:V):Prop:=∀Q:VK,Q v H→t σ H Q
def ja (t:TT) (σ:St) (H:Hp) (b:Bool):Prop:=∀Q:Bool→Hp→Prop,Q b H→t σ H Q
def o6 (t:TA) (σ:St) (H:Hp) (vs:List V):Prop:=∀Q:List V→Hp→Prop,Q vs H→t σ H Q
section
variable {σ:St} {H:Hp} {ta tb tc te:TE} {t u:TT} {i j k:Int} {a b c:Bool} {v x y:V} {K:CJ}
theorem az:Ev (tC v) σ H v:=fun _ q=>q
theorem ae(h:σ[n]?=some (some v)):Ev (bQ n) σ H v:=fun _ q=>⟨v,h,q⟩
theorem aZ {g:Int→Int→V}(ha:Ev ta σ H (.int i))(hb:Ev tb σ H (.int j)):Ev (fb (rY g) ta tb) σ H (g i j):=fun _ q=>ha _ (hb _ ⟨i,j,rfl,rfl,q⟩)
theorem cP {C:Int→Int→Prop}{g:Int→Int→V}(ha:Ev ta σ H (.int i))(hb:Ev tb σ H (.int j))(hc:C i j):Ev (fb (rI C g) ta tb) σ H (g i j):=fun _ q=>ha _ (hb _ ⟨i,j,rfl,rfl,hc,q⟩)
theorem dZ (ha:Ev ta σ H (.int i))(hb:Ev tb σ H (.int j)):Ev (fb BP ta tb) σ H (.bl (decide (i=j))):=fun Q q=>ha _ (hb _ ⟨rfl,by
 have e:decide (V.int i=V.int j)=decide (i=j):=by rw[kc];rfl
 rw[e];exact q⟩)
theorem eU (ha:Ev ta σ H (.int i))(hb:Ev tb σ H (.int j)):Ev (fb BV ta tb) σ H (.bl (!decide (i=j))):=fun Q q=>ha _ (hb _ ⟨rfl,by
 have e:decide (V.int i=V.int j)=decide (i=j):=by rw[kc];rfl
 rw[e];exact q⟩)
theorem gA {p q:Int→Int→Bool}(ha:Ev ta σ H (.int i))(hb:Ev tb σ H (.int j))(hc:Ev tc σ H (.int k)):Ev (q9 (rY fun i j=> .bl (p i j)) (rY fun i j=> .bl (q i j)) ta tb tc) σ H (.bl (p i j&&q j k)):=fun Q z=>by
 refine ha _ (hb _ ⟨i,j,rfl,rfl,p i j,rfl,?_⟩)
 cases e:p i j with
 |true=>rw[if_pos rfl];rw[e,Bool.true_and] at z;exact hc _ ⟨j,k,rfl,rfl,z⟩
 |false=>rw[if_neg C0];rw[e,Bool.false_and] at z;exact z
theorem rJ (ha:Ev ta σ H (.bl a))(hb:a=true→Ev tb σ H (.bl b)):Ev (zi ta tb) σ H (.bl (a&&b)):=fun Q z=>by
 refine ha _ ⟨a,rfl,?_⟩
 cases a with
 |true=>rw[if_pos rfl];exact hb rfl _ z
 |false=>rw[if_neg C0];exact z
theorem z9 (ha:Ev ta σ H (.bl a)):Ev (vJ ta) σ H (.bl (!a)):=fun _ z=>ha _ ⟨a,rfl,z⟩
theorem aS(ha:Ev ta σ H (.ref p))(hb:Ev tb σ H (.int i))(hs:bH K H p xs)(he:je xs i=some v):Ev (fb (jZ K) ta tb) σ H v:=fun _ q=>ha _ (hb _ ⟨p,xs,i,v,rfl,rfl,hs,he,q⟩)
theorem bw(ha:Ev ta σ H (.ref p))(hb:Ev tb σ H (.int i))(hs:bg K H p xs)(he:je xs i=some v):Ev (fb (oO K) ta tb) σ H v:=fun _ q=>ha _ (hb _ ⟨p,xs,i,v,rfl,rfl,hs,he,q⟩)
theorem oj (ha:Ev ta σ H x)(hb:Ev tb σ H .non):Ev (fb (fun x y H Q=>y=.non∧Q (.bl (decide (x=.non))) H) ta tb) σ H (.bl (decide (x=.non))):=fun _ z=>ha _ (hb _ ⟨rfl,z⟩)
theorem cn {r:List V→Hp→VK→Prop}{vs:List V}{t:TA}(ha:o6 t σ H vs)(hs:∀Q:VK,Q v H→r vs H Q):Ev (zQ r t) σ H v:=fun Q q=>ha _ (hs Q q)
theorem ay:o6 fc σ H []:=fun _ q=>q
theorem ah {t:TA}{vs:List V}(ha:Ev ta σ H v)(hr:o6 t σ H vs):o6 (cL ta t) σ H (v::vs):=fun _ q=>ha _ (hr _ q)
theorem aA (h:Ev te σ H (.bl b)):ja (wD te) σ H b:=fun _ q=>h _ ⟨b,rfl,q⟩
theorem pZ (h:Ev te σ H (.bl b)):ja (tB te) σ H b:=fun _ q=>h _ ⟨b,rfl,q⟩
theorem jA (ha:ja t σ H a)(hb:a=true→ja u σ H b):ja (Bh t u) σ H (a&&b):=fun Q z=>by
 refine ha _ ?_
 cases a with
 |true=>rw[if_pos rfl];exact hb rfl _ z
 |false=>rw[if_neg C0];exact z
theorem lU (ha:ja t σ H a)(hb:a=false→ja u σ H b):ja (Bl t u) σ H (a||b):=fun Q z=>by
 refine ha _ ?_
 cases a with
 |true=>rw[if_pos rfl];exact z
 |false=>rw[if_neg C0];exact hb rfl _ z
theorem fQ {tc:TT}{t u:TS}{D:eK}(h:ja tc σ H b)(h1:b=true→t D σ H)(h2:b=false→u D σ H):my tc t u D σ H:=by
 refine h _ ?_
 cases b with
 |true=>rw[if_pos rfl];exact h1 rfl
 |false=>rw[if_neg C0];exact h2 rfl
theorem fB {tc:TT}{t u:TS}{D:eK}(h:ja tc σ H b)(hb:b=false)(h2:u D σ H):my tc t u D σ H:=fQ h (fun e=>absurd (hb.symm.trans e) C0) fun _=>h2
theorem wL {tc:TT}{t u:TS}{D:eK}(h:ja tc σ H b)(hb:b=true)(h1:t D σ H):my tc t u D σ H:=fQ h (fun _=>h1) fun e=>absurd (e.symm.trans hb) C0
theorem lS(h:Ev te σ H v)(q:D.nx (σ.set n (some v)) H):iI te (eL n) D σ H:=h _ q
theorem cw(h:Ev te σ H v)(q:D.rt v H):wU te D σ H:=h _ q
end
theorem AG(h1: -(2^64)<j)(h2:j<2^64):uV i j:=.inr ⟨h1,h2⟩
theorem Cb(h1: -(2^64)<i)(h2:i<2^64):uV i j:=.inl ⟨h1,h2⟩
theorem uJ(h1:0<j)(h2:j<2^200):mX i j:=⟨h1,h2⟩
theorem Ck(h1:0≤j)(h2:j≤1000000)(h3:i.natAbs<2^64):A1 i j:=⟨h1,h2,h3⟩
theorem bW:bootBuiltins "len" =some (.builtin "len"):=by decide+kernel
theorem cy:bootBuiltins "isinstance" =some (.builtin "isinstance"):=by decide+kernel
theorem zN:bootBuiltins "int" =some (.type "int"):=by decide+kernel
theorem xx:bootBuiltins "bool" =some (.type "bool"):=by decide+kernel
theorem p9:bootBuiltins "tuple" =some (.type "tuple"):=by decide+kernel
theorem cV:bootBuiltins "list" =some (.type "list"):=by decide+kernel
theorem fA:bootBuiltins "dict" =some (.type "dict"):=by decide+kernel
theorem qE:bootBuiltins "min" =some (.builtin "min"):=by decide+kernel
theorem AA:bootBuiltins "any" =some (.builtin "any"):=by decide+kernel
theorem ji:bootBuiltins "sorted" =some (.builtin "sorted"):=by decide+kernel
theorem Ad:bootBuiltins "zip" =some (.type "zip"):=by decide+kernel
theorem st {t:TS}{D:eK}{σ:St}{H:Hp}{r:VK}{b c:St→Hp→Prop}(h:t D σ H):({nx:=t D,rt:=r,bk:=b,ct:=c}:eK).nx σ H:=h
section
variable {σ:St} {H:Hp} {te:TE} {tc:TT} {t u:TS} {ta:TA} {D:eK} {b:Bool} {v:V} {vs:List V} {n:Nat} {K:CJ}
theorem gy (h:Ev te σ H v)(q:u D (σ.set n (some v)) H):dk (iI te (eL n)) u D σ H:=h _ q
theorem gz (h:ja tc σ H b)(hb:b=false)(q:u D σ H):dk (my tc t rX) u D σ H:=fB (D:={D with nx:=u D}) h hb q
theorem gp (h:ja tc σ H b)(h1:b=true→t {D with nx:=u D} σ H)(h2:b=false→u D σ H):dk (my tc t rX) u D σ H:=fQ (D:={D with nx:=u D}) h h1 h2
theorem zL (h:o6 ta σ H vs)(hz:vs.length≤sizeLine)(q:∀p,H p=none→u D (σ.set n (some (.ref p))) (upd H p (.lst vs))):dk (iI (qJ ta) (eL n)) u D σ H:=h _ ⟨hz,q⟩
theorem rn(h:Ev te σ H (.ref p))(hs:bH K H p [x,y,z])(q:u D (((σ.set i (some x)).set j (some y)).set k (some z)) H):
  dk (iI te (zW K 3 (sQ (eL i) (sQ (eL j) (sQ (eL k) A2))))) u D σ H:=h _ ⟨p,_,rfl,hs,rfl,_,_,rfl,_,_,rfl,_,_,rfl,rfl,q⟩
theorem p7(q:tc σ H fun b H1=>if b=true then t D σ H1 else u D σ H1):my tc t u D σ H:=q
theorem xV (q:tc σ H fun b H1=>if b=true then t {D with nx:=u D} σ H1 else u D σ H1):dk (my tc t rX) u D σ H:=q
theorem gn(q:Q (σ.set n (some v)) H):eL n v σ H Q:=q
end
structure aJ (P:Program) (w:World) (K:CJ) (mg:Str→Option Value) (base:Heap) (x:Str) (k:Nat) (ps:List Str) (sp:Sp):Prop where
 ex:∃f fd,bJ P w K mg base dw k f fd ps sp∧mg x=some (.ref f)∧CZ K (.ref f)=true∧cI K fd ps []
theorem aN(C:aJ X.prog X.w X.K X.mg X.base x k ps sp)(hr:bj k X.A)(hg:Gl X x)(ha:PA X (e::es) t)
  (hdb:(x==("__debug__" :Str))=false:=by decide) (he:starEach (e::es) X.env=(false,eval e X.env)::starEach es X.env:=by rfl) (hpl:(backTo pos (starEach es X.env)).any (·.1)=false:=by rfl):
  PE X (.Call (.Name x p) (e::es) [] pos) (fT sp [] E0 t):=by
 obtain⟨f,fd,G,hm,hk,hb⟩:=C.ex
 exact ym G hr hg hm hk hb .nil pd ha hdb he hpl
theorem bH.same {K:CJ}{H H':Hp}{a:Addr}{xs:List V}(e:ax H H')(h:bH K H a xs):bH K H' a xs:=by
 rcases h with (h|⟨o,h⟩)|h
 ·exact .inl (.inl (e _ _ h))
 ·exact .inl (.inr ⟨o,e _ _ h⟩)
 ·exact .inr h
theorem ax.upd(e:ax H H'){p:Addr}{o:HO}(hp:H' p=none):ax H (upd H' p o):=fun b u h=>by
 rw[aj (ak (e b u h) hp)]
 exact e b u h
section
variable {X:Cx} {tg:Expr}
end
theorem kZ {lo:Int}{n:Nat}{σ0:St}{g:TG}{tt:TT}{te:TE}{H1:Hp}{D:Addr}{Q:Hp→Prop}(Pv:Nat→St→Hp→Prop)(h0:Pv 0 σ0 (upd H1 D (.lst [])))
  (hs:∀i τ H,i<n→Pv i τ H→g (.int (lo+i)) τ H fun τ2 H2=>tt τ2 H2 fun b H3=>
   if b=true then te τ2 H3 fun v H4=>∃acc,H4 D=some (.lst acc)∧acc.length<sizeLine∧Pv (i+1) τ2 (upd H4 D (.lst (acc++[v]))) else Pv (i+1) τ2 H3)
  (hd:∀τ H,Pv n τ H→Q H):vU σ0 g tt te (tK lo n) H1 D Q:=by
 refine⟨fun i m τ H=>m=n - i∧i≤n∧Pv i τ H,⟨n,by simp,C8 _,h0⟩,?_⟩
 rintro i m τ H ⟨rfl,hi,p⟩
 by_cases hlt:i<n
 ·refine .inr ⟨hlt,Pv (i+1),fun τ' H' p'=>⟨n - (i+1),by lia,rfl,hlt,p'⟩,fun x H' y=>?_⟩
  obtain⟨e,y⟩:=y
  subst e y
  exact hs i τ _ hlt p
 ·have e:i=n:=by lia
  subst e
  exact .inl ⟨CM _,hd τ H p⟩
theorem dN {K:CJ}{a:Addr}{xs:List V}{σ0:St}{g:TG}{tt:TT}{te:TE}{H1:Hp}{D:Addr}{Q:Hp→Prop}(Pv:Nat→St→Hp→Prop)(h0:Pv 0 σ0 (upd H1 D (.lst [])))
  (hl:∀i τ H,i≤xs.length→Pv i τ H→bg K H a xs)
  (hs:∀i x τ H,xs[i]?=some x→Pv i τ H→g x τ H fun τ2 H2=>tt τ2 H2 fun b H3=>
   if b=true then te τ2 H3 fun v H4=>∃acc,H4 D=some (.lst acc)∧acc.length<sizeLine∧Pv (i+1) τ2 (upd H4 D (.lst (acc++[v]))) else Pv (i+1) τ2 H3)
  (hd:∀τ H,Pv xs.length τ H→Q H):vU σ0 g tt te (uM K a) H1 D Q:=by
 refine⟨fun i m τ H=>m=xs.length - i∧i≤xs.length∧Pv i τ H,⟨xs.length,by simp,C8 _,h0⟩,?_⟩
 rintro i m τ H ⟨rfl,hi,p⟩
 have q:=hl i τ H hi p
 by_cases hlt:i<xs.length
 ·refine .inr ⟨⟨xs,xs[i],q,by simp[hlt]⟩,Pv (i+1),fun τ' H' p'=>⟨xs.length - (i+1),by lia,rfl,hlt,p'⟩,fun x H' y=>?_⟩
  obtain⟨e,y⟩:=y
  subst e
  exact hs i x τ _ (y xs q) p
 ·have e:i=xs.length:=by lia
  subst e
  exact .inl ⟨⟨xs,q,CM _⟩,hd τ H p⟩
theorem bL.there(x:bL P w H h a o):∃ob,h.get? a=some ob:=by
 cases o with
 |lst xs=>obtain⟨_,_,_,_,e⟩:=x;exact⟨_,e⟩
 |tup xs=>obtain⟨_,_,_,ob,e,_⟩:=x;exact⟨_,e⟩
 |dK kvs=>obtain⟨_,_,_,_,o,_,_,e,_⟩:=x;exact⟨_,e⟩
 |dT kvs=>obtain⟨_,_,_,_,o,_,_,e,_⟩:=x;exact⟨_,e⟩
 |set S n=>obtain⟨o,_,_,_,e,_⟩:=x;exact⟨_,e⟩
 |ins C dx fs=>obtain⟨_,_,_,e,_⟩:=x;exact⟨_,e⟩
 |own y=>exact x
 |xd fs=>obtain⟨_,⟨_,_,_,e,_⟩,_⟩:=x;exact⟨_,e⟩
 |rng lo hi=>obtain⟨_,_,_,e⟩:=x;exact⟨_,e⟩
 |frz ob u=>obtain⟨e,_⟩:=x;exact⟨_,e⟩
 |tbl ps=>exact⟨_,(show h.get? a=some _ from x)⟩
 |met f y=>exact⟨_,(show h.get? a=some _ from x)⟩
 |ext φ=>exact x.2.1
theorem fV.none_of(x:fV P w H h)(e:h.get? a=none):H a=none:=by
 cases q:H a with
 |none=>rfl
 |some u=>
  obtain⟨o,z⟩:=(x a u q).there
  rw[e] at z;cases z
section
variable {P:Program} {w:World} {K:CJ} {mg:Str→Option Value} {base:Heap} {N:List Str} {qual:Str} {scope:Scope} {f:Addr} {cd:Value} {A:Around} {outer:List Env} {s₀:Shared} {H₀:Hp} {E:XK}
end
section
variable {X:Cx}
end
section
variable {P:Program} {w:World} {K:CJ} {mg:Str→Option Value} {base:Heap} {N:List Str} {qual:Str} {scope:Scope} {f:Addr} {cd:Value} {A:Around} {outer:List Env} {s₀:Shared} {H₀:Hp} {E:XK}
end
section
variable {P:Program} {w:World} {K:CJ} {mg:Str→Option Value} {base:Heap}
end
section
variable {X:Cx} {pins:List (Addr×Obj)} {σ:St} {H:Hp} {s:Shared}
end
section
variable {X:Cx}
end
end L2
namespace L2
open PySem PySem.Spec PyProof.Rows
open PySem.W (Looks)
open Builtin Builtin.ObjectAttr Builtin.Getset_descriptor
section
variable {prog:Program} {w:World} {A:Around} {E:Value→Shared→Prop} {K:CJ} {C a:Addr} {h:Heap} {g:Array GenState} {d:Drawn} {t:Nat} {os:OsState} {o:Obj}
end
section
variable {X:Cx}
end
section
variable {X:Cx}
theorem fk:∀{cs:List Addr} {us:List Value},bh (cs.map V.ref) us→us=cs.map Value.ref
 |[],_,.nil=>rfl
 |_::_,_,.cons r t=>by rw[fk t];cases(show _=Value.ref _ from r);rfl
theorem AR{g:Int→V}(ha:Ev ta σ H (.int i)):Ev (BB (rU g) ta) σ H (g i):=fun _ q=>ha _ ⟨i,rfl,q⟩
theorem zP(q:te σ H fun v H1=>u D (σ.set n (some v)) H1):dk (iI te (eL n)) u D σ H:=q
theorem sv(q:te σ H fun v H1=>g v σ H1 fun σ2 H2=>u D σ2 H2):dk (iI te g) u D σ H:=q
end
structure cj (P:Program) (w:World) (K:CJ) (mg:Str→Option Value) (base:Heap) (C:Addr) (m:Str) (k:Nat) (ps:List Str) (sp:Sp):Prop where
 ex:∃f fd,bJ P w K mg base dw k f fd ps sp∧yj K C m f∧cI K fd ps []
structure ot (P:Program) (w:World) (K:CJ) (mg:Str→Option Value) (base:Heap) (C:Addr) (x:Str) (k:Nat) (ps:List Str) (sp:Sp):Prop where
 ex:∃f fd,bJ P w K mg base dw k f fd ps sp∧Mk K C f∧mg x=some (.ref C)∧cI K fd ps []
section
variable {X:Cx} {C:Addr} {k:Nat} {ps:List Str} {sp:Sp} {x m:Str} {p pos apos:Pos} {e o:Expr} {es:List Expr} {ta:TE} {t:TA}
theorem h_ {pl:Sem Bool}(he:PE X o ta)(c:rG X.K C)(G:cj X.prog X.w X.K X.mg X.base C m k ps sp)(hr:bj k X.A)(ha:PA X (e::es) t)
  (hst:starEach (e::es) X.env=(false,eval e X.env)::starEach es X.env:=by rfl) (hpl:(backTo pos (starEach es X.env)).any (·.1)=false:=by rfl)
  (ht:eval (.Call (.Attribute o m apos) (e::es) [] pos) X.env=(do
   let ov←eval o X.env
   standAt apos.atName
   let (f,first)←holding [ov] (getMethod ov m pl)
   callWith pos f first (backTo pos (starEach (e::es) X.env)) (backToKw pos (keywordEach [] X.env))):=by rfl):
  PE X (.Call (.Attribute o m apos) (e::es) [] pos) (lY C m sp [] E0 ta t):=by
 obtain⟨f,fd,F,hm,hb⟩:=G.ex
 exact xD (pl:=pl) he c hm F hr hb .nil pd ha hst hpl ht
theorem sd {pl:Sem Bool}(he:PE X o ta)(c:rG X.K C)(G:cj X.prog X.w X.K X.mg X.base C m k ps sp)(hr:bj k X.A)
  (ht:eval (.Call (.Attribute o m apos) [] [] pos) X.env=(do
   let ov←eval o X.env
   standAt apos.atName
   let (f,first)←holding [ov] (getMethod ov m pl)
   callWith pos f first (backTo pos (starEach [] X.env)) (backToKw pos (keywordEach [] X.env))):=by rfl):
  PE X (.Call (.Attribute o m apos) [] [] pos) (lY C m sp [] E0 ta fc):=by
 obtain⟨f,fd,F,hm,hb⟩:=G.ex
 exact vc (pl:=pl) he c hm F hr hb .nil pd ht
theorem zU (G:ot X.prog X.w X.K X.mg X.base C x k ps sp)(hr:bj (k+1) X.A)(hg:Gl X x)(hdb:(x==("__debug__" :Str))=false:=by decide):PE X (.Call (.Name x p) [] [] pos) (sI C sp [] E0 fc):=by
 obtain⟨f,fd,F,M,hm,hb⟩:=G.ex
 exact vA M F hr hg hm hb .nil pd hdb
end
theorem qm {te:TE}{τ:St}{H:Hp}{R:VK}{N:Hp→Prop}(h:te τ H R):yJ τ H fun b H3=>if b=true then te τ H3 R else N H3:=by
 show if true=true then te τ H R else N H
 rw[if_pos rfl]
 exact h
theorem iz(h:j<n):sO n (j:Int)=some j:=by
 unfold sO
 rw[if_pos (by lia),if_pos (by lia)]
 simp
section
variable {σ:St} {H:Hp} {tc:TT} {te:TE} {t u v:TS} {D:eK} {a b:Bool}
theorem zM (h:ja tc σ H b)(h1:b=true→t {D with nx:=v D} σ H)(h2:b=false→u {D with nx:=v D} σ H):dk (my tc t u) v D σ H:=by
 refine h _ ?_
 cases b with
 |true=>rw[if_pos rfl];exact h1 rfl
 |false=>rw[if_neg C0];exact h2 rfl
theorem Ah (J:St→Hp→Prop)(h:ja tc σ H b)(h1:b=true→∀R:St→Hp→Prop,(∀σ H,J σ H→R σ H)→t {D with nx:=R} σ H)(h2:b=false→∀R:St→Hp→Prop,(∀σ H,J σ H→R σ H)→u {D with nx:=R} σ H)
  (hv:∀σ H,J σ H→v D σ H):dk (my tc t u) v D σ H:=zM h (fun e=>h1 e _ hv) fun e=>h2 e _ hv
theorem wO (W:Nat→St→Hp→Prop)(h0:∃m,W m σ H)(hs:∀m σ H,W m σ H→∃b,ja tc σ H b∧(b=true→∀N:St→Hp→Prop,(∀m' σ' H',m'<m→W m' σ' H'→N σ' H')→t {D with nx:=N,ct:=N,bk:=D.nx} σ H)∧(b=false→D.nx σ H)):
  rC tc t D σ H:=by
 refine⟨W,h0,fun m σ H w=>?_⟩
 obtain⟨b,hb,h1,h2⟩:=hs m σ H w
 refine hb _ ?_
 cases b with
 |true=>rw[if_pos rfl];exact⟨fun σ' H'=>∃m',m'<m∧W m' σ' H',fun _ _ z=>z,h1 rfl _ fun m' σ' H' l w'=>⟨m',l,w'⟩⟩
 |false=>rw[if_neg C0];exact h2 rfl
theorem vd (J:St→Hp→Prop)(h1:∀R:St→Hp→Prop,(∀σ H,J σ H→R σ H)→t {D with nx:=R} σ H)(hv:∀σ H,J σ H→v D σ H):dk t v D σ H:=h1 _ hv
end
theorem jW:bootBuiltins "reversed" =some (.type "reversed"):=by decide+kernel
section
variable {X:Cx} {Ex:St→Value→Hp→Prop} {C:Addr} {k:Nat} {f:Addr} {fd:FuncData} {ps:List Str} {sp:Sp} {x m:Str} {p pos apos:Pos} {e o:Expr} {es:List Expr} {ta:TE} {t:TA}
end
end L2
namespace L2
open PySem PySem.W PyProof.Rows
section
variable {O:KeyOrd} (key:Nat→O.α)
def kA (p:Array Nat) (k:Nat):O.α:=key (p.getD k 0)
def Up (p:Array Nat) (n:Nat):Prop:=∀i j,i≤j→j<n→O.kle (kA key p i) (kA key p j)
def Dn (p:Array Nat) (n:Nat):Prop:=∀i j,i≤j→j<n→O.kle (kA key p j) (kA key p i)
variable {key}
end
end L2
namespace L2
open PySem PySem.Spec PyProof.Rows
mutual
inductive Dp (K:CJ) (H:Hp):V→PyData→Prop
 |non:Dp K H .non .none
 |bl (b:Bool):Dp K H (.bl b) (.bool b)
 |int (i:Int):Dp K H (.int i) (.int i)
 |str (x:Str) (h:PyData.strOk x=true):Dp K H (.str x) (.str x)
 |tup {a:Addr} {xs:List V} {ds:List PyData} (h:bH K H a xs) (r:nh K H xs ds):Dp K H (.ref a) (.tuple ds)
 |lst {a:Addr} {xs:List V} {ds:List PyData} (h:bg K H a xs) (r:nh K H xs ds):Dp K H (.ref a) (.list ds)
inductive nh (K:CJ) (H:Hp):List V→List PyData→Prop
 |nil:nh K H [] []
 |cons {x:V} {xs:List V} {d:PyData} {ds:List PyData} (h:Dp K H x d) (r:nh K H xs ds):nh K H (x::xs) (d::ds)
end
mutual
theorem Dp.lay {K:CJ}{H:Hp}:∀{v:V} {d:PyData},Dp K H v d→d.canLay0=true
 |_,_,.non=>rfl
 |_,_,.bl _=>rfl
 |_,_,.int _=>rfl
 |_,_,.str _ h=>by simpa[PyData.canLay0] using h
 |_,_,.tup _ r=>by simpa[PyData.canLay0] using r.lay
 |_,_,.lst _ r=>by simpa[PyData.canLay0] using r.lay
theorem nh.lay {K:CJ}{H:Hp}:∀{xs:List V} {ds:List PyData},nh K H xs ds→PyData.canLayAll0 ds=true
 |_,_,.nil=>by simp[PyData.canLayAll0]
 |_,_,.cons h r=>by simp[PyData.canLayAll0,h.lay,r.lay]
end
mutual
theorem Dp.reads{pins:List (Addr×Obj)}(I:aL X pins σ H s):∀{v:V} {d:PyData} {u:Value},Dp X.K H v d→aT v u→∃as,Reads s.heap u d as
 |_,_,_,.non,r=>by cases(show _=Value.none from r);exact⟨_,.none⟩
 |_,_,_,.bl b,r=>by cases(show _=Value.bool b from r);exact⟨_,.bool b⟩
 |_,_,_,.int i,r=>by obtain⟨t,rfl⟩:=r;exact⟨_,.int i t⟩
 |_,_,_,.str x _,r=>by obtain⟨t,rfl⟩:=r;exact⟨_,.str x t⟩
 |_,_,_,.tup (a:=a) h rs,r=>by
  cases(show _=Value.ref a from r)
  obtain⟨its,rv,⟨o,ho,hc,n,hd⟩,_⟩:=I.tuple h
  obtain⟨as,ra⟩:=nh.reads I rs rv
  exact⟨_,.tuple ho hc hd (by simpa using ra)⟩
 |_,_,_,.lst (a:=a) h rs,r=>by
  cases(show _=Value.ref a from r)
  obtain⟨its,rv,pl,_⟩:=I.list h
  obtain⟨o,ho,hc,n,hd⟩:=pl.isList
  obtain⟨as,ra⟩:=nh.reads I rs rv
  exact⟨_,.list ho hc hd (by simpa using ra)⟩
theorem nh.reads{pins:List (Addr×Obj)}(I:aL X pins σ H s):∀{xs:List V} {ds:List PyData} {us:List Value},nh X.K H xs ds→bh xs us→∃as,ReadsAll s.heap us ds as
 |_,_,_,.nil,.nil=>⟨_,.nil⟩
 |_,_,_,.cons h rs,.cons r rr=>by
  obtain⟨as,ra⟩:=Dp.reads I h r
  obtain⟨bs,rb⟩:=nh.reads I rs rr
  exact⟨_,.cons ra rb⟩
end
section
variable {X:Cx}
def zZ (K:CJ):R2:=fun x y H Q=>∃d e,Dp K H x d∧Dp K H y e∧d.depth≤60∧Q (.bl (PyData.eqv d e)) H
theorem wC(hr:bj k X.A):g6 X (compareOp .Eq) (zZ X.K):=by
 intro pins s σ H x y v u Q I rx ry h
 obtain⟨d,e,h1,h2,hd,q⟩:=h
 obtain⟨as,r1⟩:=h1.reads I rx
 obtain⟨bs,r2⟩:=h2.reads I ry
 have:=hr.units
 exact SeqAt.compareEq_reads r1 r2 h1.lay h2.lay (by lia) ⟨.bl _,H,I,rfl,q⟩
end
mutual
theorem kS:∀{d:PyData},d.canLay0=true→PyData.eqv d d=true
 | .none,_=>by simp[PyData.eqv]
 | .bool _,_=>by simp[PyData.eqv]
 | .int _,_=>by simp[PyData.eqv]
 | .str _,_=>by simp[PyData.eqv]
 | .list xs,h=>by simp only[PyData.eqv];exact gb (by simpa[PyData.canLay0] using h)
 | .tuple xs,h=>by simp only[PyData.eqv];exact gb (by simpa[PyData.canLay0] using h)
 | .dict _,h=>by simp[PyData.canLay0] at h
theorem gb:∀{ds:List PyData},PyData.canLayAll0 ds=true→PyData.eqvAll ds ds=true
 |[],_=>by simp[PyData.eqvAll]
 |d::r,h=>by
  have h':d.canLay0=true∧PyData.canLayAll0 r=true:=by simpa[PyData.canLayAll0] using h
  simp only[PyData.eqvAll,kS h'.1,gb h'.2,Bool.and_self]
end
theorem qk {K:CJ}{H:Hp}:∀(ns:List Int),nh K H (ns.map V.int) (ns.map PyData.int)
 |[]=> .nil
 |n::r=> .cons (.int n) (qk r)
theorem Dp.ints {K:CJ}{H:Hp}{a:Addr}{ns:List Int}(h:bH K H a (ns.map V.int)):Dp K H (.ref a) (.tuple (ns.map PyData.int)):=.tup h (qk ns)
theorem jP:∀(ns ms:List Int),PyData.eqvAll (ns.map PyData.int) (ms.map PyData.int)=decide (ns=ms)
 |[],[]=>by simp[PyData.eqvAll]
 |[],_::_=>by simp[PyData.eqvAll]
 |_::_,[]=>by simp[PyData.eqvAll]
 |n::r,m::t=>by
  simp only[C5,PyData.eqvAll,PyData.eqv,jP r t,List.cons.injEq]
  by_cases h1:n=m<;>by_cases h2:r=t<;>simp[h1,h2]
theorem jy (ns ms:List Int):PyData.eqv (.tuple (ns.map PyData.int)) (.tuple (ms.map PyData.int))=decide (ns=ms):=by simp only[PyData.eqv];exact jP ns ms
theorem gi:∀{ds:List PyData},(∀d∈ds,d.depth≤n)→PyData.depthAll ds≤n
 |[],_=>by simp[PyData.depthAll]
 |d::r,h=>by
  simp only[PyData.depthAll]
  exact Nat.max_le.mpr ⟨h d Dk,gi fun e he=>h e (Dh _ he)⟩
theorem eP (ns:List Int):(PyData.tuple (ns.map PyData.int)).depth≤1:=by
 have:PyData.depthAll (ns.map PyData.int)≤0:=gi fun d hd=>by
  obtain⟨i,_,rfl⟩:=CU.mp hd
  simp[PyData.depth]
 simp only[PyData.depth];lia
theorem bH.kept {K:CJ}{H H':Hp}{a:Addr}{xs:List V}(e:∀b o,H b=some o→H' b=some o)(h:bH K H a xs):bH K H' a xs:=bH.same e h
mutual
theorem Dp.same {K:CJ}{H H':Hp}(e:ax H H'):∀{v:V} {d:PyData},Dp K H v d→Dp K H' v d
 |_,_,.non=> .non
 |_,_,.bl b=> .bl b
 |_,_,.int i=> .int i
 |_,_,.str x h=> .str x h
 |_,_,.tup h r=> .tup (h.same e) (nh.same e r)
 |_,_,.lst h r=> .lst (e.seq h) (nh.same e r)
theorem nh.same {K:CJ}{H H':Hp}(e:ax H H'):∀{xs:List V} {ds:List PyData},nh K H xs ds→nh K H' xs ds
 |_,_,.nil=> .nil
 |_,_,.cons h r=> .cons (Dp.same e h) (nh.same e r)
end
section
variable {σ:St} {H:Hp} {ta tb:TE} {x y:V} {d e:PyData} {K:CJ}
end
theorem aL.laidN{pins:List (Addr×Obj)}(I:aL X pins σ H s)(k:∀b u,b≠X.env.locals→s.heap.get? b=some u→h'.get? b=some u)
  (ns:∀m,s.heap.Ns X.env.locals m→h'.Ns X.env.locals m) (hn:s.heap.get? a=none) (new:bL X.prog X.w (upd H a o) h' a o):aL X pins σ (upd H a o) {s with heap:=h',toks:=t'}:=by
 have d:H a=none:=I.hok.none_of hn
 have qL:∀b u,H b=some u→b≠X.env.locals:=fun b u e z=>by rw[z,I.free] at e;cases e
 have f:∀b u,s.heap.get? b=some u→b≠a:=fun b u e z=>by rw[z,hn] at e;cases e
 refine I.step (g':=s.gens) (d':=s.drawn) (ch:=[]) (fun _ z=>nomatch z) (fun b u hL _ _ e _=>k b u hL e) (fun b u hL _ _ e _=>⟨u.slots,k b u hL e⟩) (fun b u _ e n=>by rw[aj (f b u e)];exact n)
  (fun b u _ e=>?_) (fun b xs e=>by rw[aj (ak e d)];exact e) (fun b u xs e=>by rw[aj (ak e d)];exact e) (fun b ps e=>⟨#[],by rw[aj (ak e d),e];simp⟩) ns (fun b u e=>?_) I.bare
 ·by_cases hb:b=X.env.locals
  ·obtain⟨m,hm,_⟩:=I.loc
   obtain⟨o',_,_,e',_⟩:=ns m hm
   exact⟨o',by rw[hb];exact e'⟩
  ·exact⟨u,k b u hb e⟩
 ·by_cases hb:b=a
  ·subst hb;rw[ag] at e;cases e;exact new
  ·rw[aj hb] at e
   refine(I.hok b u e).stay (fun c v hc q=>k c v ?_ q) (fun c q=>by rw[aj (ak q d)];exact q) fun c xs q=>by rw[aj (ak q d)];exact q
   rcases hc with rfl|hc
   ·exact qL _ _ e
   ·exact qL _ _ hc
theorem zO {h:Heap}{a:Addr}{m m':Str→Option Value}(x:h.Ns a m)(y:h.Ns a m'):m=m':=by
 obtain⟨o,es,ep,ho,hd,_,f⟩:=x
 obtain⟨o',d,e,c,b,_,f'⟩:=y
 rw[ho] at c;cases c
 rw[hd] at b;cases b
 funext n
 rw[←f,←f']
theorem fE:∀cs:List Addr,bh (cs.map V.ref) (cs.map Value.ref)
 |[]=> .nil
 |_::r=> .cons rfl (fE r)
theorem bV:∀a:List Int,HT.lexLt a a=false
 |[]=>rfl
 |x::r=>by rw[HT.lexLt_cons,if_pos rfl];exact bV r
theorem fw:∀a b:List Int,HT.lexLt a b=false→HT.lexLt b a=false→a=b
 |[],[],_,_=>rfl
 |[],_::_,h,_=>by rw[HT.lexLt_nil_cons] at h;cases h
 |_::_,[],_,h=>by rw[HT.lexLt_nil_cons] at h;cases h
 |x::r,y::t,h1,h2=>by
  rw[HT.lexLt_cons] at h1 h2
  by_cases e:x=y
  ·subst e
   rw[if_pos rfl] at h1 h2
   rw[fw r t h1 h2]
  ·rw[if_neg e] at h1
   rw[if_neg (CQ e)] at h2
   have:=of_decide_eq_false h1
   have:=of_decide_eq_false h2
   lia
theorem fu:∀a b c:List Int,HT.lexLt a b=true→HT.lexLt b c=true→HT.lexLt a c=true
 |[],_,[],_,h=>by
  rename_i b _
  cases b with
  |nil=>rw[HT.lexLt_nil_nil] at h;cases h
  |cons y t=>rw[HT.lexLt_cons_nil] at h;cases h
 |[],_,_::_,_,_=>rfl
 |_::_,[],_,h,_=>by rw[HT.lexLt_cons_nil] at h;cases h
 |_::_,_::_,[],_,h=>by rw[HT.lexLt_cons_nil] at h;cases h
 |x::r,y::t,z::u,h1,h2=>by
  rw[HT.lexLt_cons] at h1 h2⊢
  by_cases e1:x=y<;>by_cases e2:y=z
  ·subst e1;subst e2
   rw[if_pos rfl] at h1 h2⊢
   exact fu r t u h1 h2
  ·subst e1
   rw[if_neg e2] at h2⊢
   exact h2
  ·subst e2
   rw[if_neg e1] at h1⊢
   exact h1
  ·rw[if_neg e1] at h1
   rw[if_neg e2] at h2
   have:=of_decide_eq_true h1
   have:=of_decide_eq_true h2
   rw[if_neg (by lia)]
   exact decide_eq_true (by lia)
theorem yT (a b c:List Int)(h:HT.lexLt a c=true):HT.lexLt a b=true∨HT.lexLt b c=true:=by
 cases h1:HT.lexLt a b with
 |true=>exact .inl rfl
 |false=>
  refine .inr ?_
  cases h2:HT.lexLt b a with
  |true=>exact fu b a c h2 h
  |false=>rw[←fw a b h1 h2];exact h
abbrev bN (H:Hp) (as:List Addr) (cs:List (List Int)):Prop:=Paired (fun a (c:List Int)=>H a=some (.tup (c.map V.int))) as cs
theorem bN.at:∀{as:List Addr} {cs:List (List Int)} {i:Nat} {a:Addr},bN H as cs→as[i]?=some a→∃c,cs[i]?=some c∧H a=some (.tup (c.map V.int))
 |_,_,0,_,.cons h _,e=>by cases e;exact⟨_,rfl,h⟩
 |_,_,i+1,_,.cons _ t,e=>bN.at (i:=i) t e
 |_,_,_,_,.nil,e=>by simp at e
theorem bN.dps {K:CJ}{H:Hp}:∀{as:List Addr} {cs:List (List Int)},bN H as cs→nh K H (as.map V.ref) (cs.map fun c=>PyData.tuple (c.map PyData.int))
 |_,_,.nil=> .nil
 |_,_,.cons h t=> .cons (.ints (bH.of h)) (bN.dps t)
open PySem.W in
theorem jM{Q:Bool→Shared→Prop}:∀(us ws:List Value) (ns ms:List Int) (i:Nat),bh (ns.map V.int) us→bh (ms.map V.int) ws→fin=decide (ns.length<ms.length)→
  Q (HT.lexLt ns ms) s→KatLex prog w A b fin Q (us.zip ws) i s
 |[],ws,ns,ms,i,r1,r2,hf,h=>by
  cases ns with
  |cons n r=>cases r1
  |nil=>
   refine kat_nil ?_
   rw[hf]
   cases ms with
   |nil=>exact h
   |cons m t=>exact h
 |u::us,[],ns,ms,i,r1,r2,hf,h=>by
  cases ms with
  |cons m t=>cases r2
  |nil=>
   refine kat_nil ?_
   rw[hf]
   cases ns with
   |nil=>exact h
   |cons m t=>exact h
 |u::us,v::ws,ns,ms,i,r1,r2,hf,h=>by
  cases ns with
  |nil=>cases r1
  |cons n r=>
   cases ms with
   |nil=>cases r2
   |cons m t=>
    cases r1 with
    |cons q1 r1=>
     cases r2 with
     |cons q2 r2=>
      obtain⟨t1,rfl⟩:=q1
      obtain⟨t2,rfl⟩:=q2
      refine kat_cons (wpAny_eqBool_int ?_)
      rw[HT.lexLt_cons] at h
      refine kat_go (fun e=>?_) (fun e=>?_)
      ·have e':n=m:=by simpa using e
       rw[if_pos e'] at h
       exact kat_yes (jM us ws r t (i+1) r1 r2 (by rw[hf];simp) h)
      ·have e':¬n=m:=by simpa using e
       rw[if_neg e'] at h
       refine kat_no ?_
       cases(b&&i==0) with
       |true=>exact oneLt_int h
       |false=>exact kat_one _ _ (lt_int h)
section
variable {X:Cx}
end
section
variable {prog:Program} {w:World} {A:Around} {E:Value→Shared→Prop} {s:Shared}
end
section
variable {X:Cx}
end
section
variable {X:Cx}
end
abbrev cp (z:Str):List Nat:=z.cps.toList
section
variable {X:Cx} {tg:Expr}
theorem mY:∀{bs:List Bool} {us:List Value},bh (bs.map V.bl) us→us=bs.map Value.bool
 |[],_,.nil=>rfl
 |_::_,_,.cons r t=>by rw[mY t];cases(show _=Value.bool _ from r);rfl
theorem ue (bs:List Bool):(List.range bs.length).any (fun i=>bs.getD i false)=bs.any id:=by
 have e:(List.range bs.length).map (fun i=>bs.getD i false)=bs:=by
  apply List.ext_getElem?
  intro i
  by_cases hi:i<bs.length
  ·simp[hi]
  ·simp[hi]
 conv=>rhs;rw[←e]
 rw[List.any_map]
 rfl
theorem vO (hc:X.calm=true):dO X (.builtin "any") (fun xs H Q=>∃(p:Addr) (bs:List Bool),xs=[.ref p]∧bg X.K H p (bs.map V.bl)∧Q (.bl (bs.any id)) H):=by
 intro pins s σ H xs us Q I r h
 obtain⟨p,bs,rfl,hp,q⟩:=h
 obtain⟨u,rfl,rx⟩:=iZ r
 cases rx
 obtain⟨c,rv,pl,hz⟩:=I.list hp
 cases mY rv
 have hl:(bs.map Value.bool).toArray.size=bs.length:=by simp
 refine call_any_walk (wpAny_pyIter_list pl.isList ?_)
 have a:p≠s.heap.objs.size:=by
  obtain⟨o,ho,_⟩:=pl.isList
  exact C6 (CS ho)
 refine⟨s.heap.objs.size,_,_,_,_,_,fun i=>bs.getD i false,rfl,Walks.list (A:=X.A.in1) (prog:=X.prog) (w:=X.w) (show X.A.in1.handled=none from I.ok.hd hc) s.heap.objs.size p a (bs.map Value.bool).toArray,⟨⟨_,C4 _ rfl,rfl,rfl⟩,?_⟩,fun i v s' Q' E' hv hq=>?_,fun h' tk hk=>?_⟩
 ·exact pl.isList.at fun o e=>CO _ e
 ·have hi:(bs.map Value.bool).toArray[i]?=some v:=hv
  rw[List.getElem?_toArray,CW] at hi
  cases e:bs[i]? with
  |none=>rw[e] at hi;cases hi
  |some b=>
   rw[e] at hi
   cases hi
   refine Ec ?_
   have:bs.getD i false=b:=by simp[Dc,e]
   rw[←this];exact hq
 ·rw[hl,ue]
  refine⟨.bl _,H,I.kept (t':=tk) fun b o e=>hk b o ?_ (CO _ e),rfl,q⟩
  intro hb
  have:b=s.heap.objs.size:=by simpa using hb
  exact absurd (CS e) (by rw[this];exact DL _)
theorem qo(hg:Gl X x)(h:∃u,X.mg x=some u∧aT v u)(hd:(x==("__debug__" :Str))=false:=by decide):PE X (.Name x pos) (tC v):=by
 obtain⟨u,hm,r⟩:=h
 exact xy hg hm r hd
end
section
variable {σ:St} {H:Hp} {ta tb:TE} {x y:Str} {a b:Bool}
end
section
variable {X:Cx}
end
end L2
namespace L2
open PySem PySem.Spec PyProof.Rows
open AutoSeq1 (wpAny_loadPart')
section
variable {prog:Program} {w:World} {A:Around} {E:Value→Shared→Prop} {s:Shared}
end
theorem aL.turnedLaid {X:Cx}{pins:List (Addr×Obj)}{σ:St}{H:Hp}{s:Shared}{h':Heap}{t':Nat}{a:Addr}{o:HO}{fp:List Addr}(I:aL X pins σ H s)(hf:∀b∈fp,jk X pins H b)
  (k:∀b u,b∉fp→s.heap.get? b=some u→h'.get? b=some u) (hn:s.heap.get? a=none) (new:bL X.prog X.w (upd H a o) h' a o):aL X pins σ (upd H a o) {s with heap:=h',toks:=t'}:=by
 have d:H a=none:=I.hok.none_of hn
 have qL:∀b u,H b=some u→b∉fp:=fun b u e z=>by rw[(hf b z).1] at e;cases e
 have f:∀b u,s.heap.get? b=some u→b≠a:=fun b u e z=>by rw[z,hn] at e;cases e
 refine I.step (g':=s.gens) (d':=s.drawn) (ch:=fp) (fun b hb=>⟨(hf b hb).2.2.2.1,(hf b hb).2.1,(hf b hb).2.2.2.2.1,(hf b hb).2.2.2.2.2⟩) (fun b u _ _ hc e _=>k b u hc e) (fun b u _ _ hc e _=>⟨u.slots,k b u hc e⟩) (fun b u _ e n=>by rw[aj (f b u e)];exact n)
  (fun b u hc e=>⟨u,k b u hc e⟩) (fun b xs e=>by rw[aj (ak e d)];exact e) (fun b u xs e=>by rw[aj (ak e d)];exact e) (fun b ps e=>⟨#[],by rw[aj (ak e d),e];simp⟩) (fun m hm=>?_) (fun b u e=>?_) I.bare
 ·obtain⟨o',es,ep,ho,r⟩:=hm
  exact⟨o',es,ep,k _ o' (fun z=>(hf _ z).2.1 rfl) ho,r⟩
 ·by_cases hb:b=a
  ·subst hb;rw[ag] at e;cases e;exact new
  ·rw[aj hb] at e
   refine(I.hok b u e).stay (fun c v hc q=>k c v ?_ q) (fun c q=>by rw[aj (ak q d)];exact q) fun c xs q=>by rw[aj (ak q d)];exact q
   rcases hc with rfl|hc
   ·exact qL _ _ e
   ·exact qL _ _ hc
section
variable {X:Cx}
theorem uz {K:CJ}(e:X.K=K):dO X (.builtin "len") (fun xs H Q=>∃x n,xs=[x]∧yU K x H n∧Q (.int n) H):=by subst e;exact bp
theorem o3 {pos:Pos}{K:CJ}{es:List Expr}{k:Nat}{t:zl}{n:Nat}(hc:X.calm=true)(e:X.K=K)(h:A0 X es t)
  (hn:(assignEach es X.env).length=n) (hst:(assignEach es X.env).findIdx? (·.1)=none):PG X (.Tuple es k pos) (zW K n t):=by subst e;exact dY hc h hn hst
end
inductive Cs (A:Around) (s:Shared) (op:CmpOp):List Value→List Value→List (Bool×Bool)→Prop
 |nil:Cs A s op [] [] []
 |cons {v w:Value} {e b:Bool} {vs ws:List Value} {cs:List (Bool×Bool)} (he:SeqAt.EqAt A s v w e)
   (hb:e=false→∀(prog:Program) (w':World) (E:Value→Shared→Prop) (Q:Value→Shared→Prop),Q (.bool b) s→wpAny (model prog w') A (richCompare op v w) Q E s) (t:Cs A s op vs ws cs):Cs A s op (v::vs) (w::ws) ((e,b)::cs)
noncomputable def res:List (Bool×Bool)→Bool→Bool
 |[],z=>z
 |(true,_)::r,z=>res r z
 |(false,b)::_,_=>b
theorem Cs.len{op:CmpOp}:∀{vs ws:List Value} {cs:List (Bool×Bool)},Cs A s op vs ws cs→vs.length=ws.length
 |_,_,_,.nil=>rfl
 |_,_,_,.cons _ _ t=>by rw[Dl,Dl,t.len]
section
open PySem.SeqAt
open PySem.AutoSeq1 (wpAny_loadPart')
open PySem.MeetsSeq PySem.MeetsSeq2 PySem.MeetsSeq3
theorem qa (l b:Addr)(items items2:Array Value)(n n2:Nat)(dd dd2:Option Addr)(sl sl2:Array (Option Value)):
  Meets (Builtin.«tuple.__lt__» ⟨[.ref l,.ref b],[]⟩)
   (fun A R s=>s.heap.get? l=some {cls:=.type "tuple",dict:=dd,data:=.seq items n,slots:=sl}∧s.heap.get? b=some {cls:=.type "tuple",dict:=dd2,data:=.seq items2 n2,slots:=sl2}∧
    ∃cs,Cs A.in1 s .Lt items.toList items2.toList cs∧R (.ok (.ret (.bool (res cs false)))) s):=
 .of_wp fun prog w A R s h=>by
  obtain⟨hp,g,d,tk,os⟩:=s;obtain⟨hl,hb,cs,hcs,h⟩:=h
  have f2:=AutoSeq1.sub_tuple_tuple
  have z1:items.size=items2.size:=by have:=hcs.len;simpa using this
  wp_walk using wpAny_loadPart' hl,wpAny_loadPart' hb,Fe _ (fun bC b s'=>b.1=none∧s'=⟨hp,g,d,tk,os⟩∧∃(vs ws:List Value) (cs:List (Bool×Bool)),bC=vs.zip ws∧
   Cs A.in1 ⟨hp,g,d,tk,os⟩ .Lt vs ws cs∧R (.ok (.ret (.bool (res cs false)))) ⟨hp,g,d,tk,os⟩) _
  case turn=>
   rintro⟨y,x⟩ bC b s' ⟨hb',rfl,vs,ws,cs,hz,hc,hR⟩
   cases hc with
   |nil=>rw[List.zip_nil_left] at hz;cases hz
   | @cons v w' e b' vs ws cs he hri t=>
     rw[EH] at hz
     injection hz with hyx hrest
     injection hyx with hy hx
     subst hy hx
     refine CH (he prog w _ _ ?_)
     cases e with
     |true=>
      wp_walk
      exact⟨rfl,rfl,_,_,_,hrest,t,hR⟩
     |false=>
      have hri:=hri rfl prog w
      wp_walk using hri
      exact⟨_,rfl,by simpa[res] using hR⟩
  case fin=>
   rintro⟨b1,b2⟩ s' ⟨hb',rfl,vs,ws,cs,hz,hc,hR⟩
   simp only at hb'
   subst hb'
   cases hc with
   |cons he hri t=>rw[EH] at hz;cases hz
   |nil=>
    wp_walk
    exact⟨_,rfl,by simpa[Builtin.Tuple.tupleCompareSizes,z1,res] using hR⟩
  case h=>
   exact⟨rfl,rfl,items.toList,items2.toList,cs,rfl,hcs,h⟩
theorem jS (l b:Addr)(items items2:Array Value)(n n2:Nat)(dd dd2:Option Addr)(sl sl2:Array (Option Value)):
  Meets (Builtin.«tuple.__le__» ⟨[.ref l,.ref b],[]⟩)
   (fun A R s=>s.heap.get? l=some {cls:=.type "tuple",dict:=dd,data:=.seq items n,slots:=sl}∧s.heap.get? b=some {cls:=.type "tuple",dict:=dd2,data:=.seq items2 n2,slots:=sl2}∧
    ∃cs,Cs A.in1 s .LtE items.toList items2.toList cs∧R (.ok (.ret (.bool (res cs true)))) s):=
 .of_wp fun prog w A R s h=>by
  obtain⟨hp,g,d,tk,os⟩:=s;obtain⟨hl,hb,cs,hcs,h⟩:=h
  have f2:=AutoSeq1.sub_tuple_tuple
  have z1:items.size=items2.size:=by have:=hcs.len;simpa using this
  wp_walk using wpAny_loadPart' hl,wpAny_loadPart' hb,Fe _ (fun bC b s'=>b.1=none∧s'=⟨hp,g,d,tk,os⟩∧∃(vs ws:List Value) (cs:List (Bool×Bool)),bC=vs.zip ws∧
   Cs A.in1 ⟨hp,g,d,tk,os⟩ .LtE vs ws cs∧R (.ok (.ret (.bool (res cs true)))) ⟨hp,g,d,tk,os⟩) _
  case turn=>
   rintro⟨y,x⟩ bC b s' ⟨hb',rfl,vs,ws,cs,hz,hc,hR⟩
   cases hc with
   |nil=>rw[List.zip_nil_left] at hz;cases hz
   | @cons v w' e b' vs ws cs he hri t=>
     rw[EH] at hz
     injection hz with hyx hrest
     injection hyx with hy hx
     subst hy hx
     refine CH (he prog w _ _ ?_)
     cases e with
     |true=>
      wp_walk
      exact⟨rfl,rfl,_,_,_,hrest,t,hR⟩
     |false=>
      have hri:=hri rfl prog w
      wp_walk using hri
      exact⟨_,rfl,by simpa[res] using hR⟩
  case fin=>
   rintro⟨b1,b2⟩ s' ⟨hb',rfl,vs,ws,cs,hz,hc,hR⟩
   simp only at hb'
   subst hb'
   cases hc with
   |cons he hri t=>rw[EH] at hz;cases hz
   |nil=>
    wp_walk
    exact⟨_,rfl,by simpa[Builtin.Tuple.tupleCompareSizes,z1,res] using hR⟩
  case h=>
   exact⟨rfl,rfl,items.toList,items2.toList,cs,rfl,hcs,h⟩
end
section
variable {X:Cx}
theorem wc (p q:Int)(l m:List Int):HT.lexLt (p::l) (q::m)=res [(decide (p=q),decide (p<q)),(decide (l=m),HT.lexLt l m)] false:=by
 rw[HT.lexLt_cons]
 by_cases h:p=q
 ·rw[if_pos h,decide_eq_true h]
  by_cases h2:l=m
  ·subst h2;rw[decide_eq_true rfl,bV];rfl
  ·rw[decide_eq_false h2];rfl
 ·rw[if_neg h,decide_eq_false h];rfl
theorem j9 (i j:Int):(!decide (j<i))=decide (i≤j):=by
 by_cases h2:j<i
 ·rw[decide_eq_true h2,decide_eq_false (by lia)];rfl
 ·rw[decide_eq_false h2,decide_eq_true (by lia)];rfl
theorem zS (p q:Int)(l m:List Int):(!HT.lexLt (q::m) (p::l))=res [(decide (p=q),decide (p≤q)),(decide (l=m),!HT.lexLt m l)] true:=by
 rw[HT.lexLt_cons]
 by_cases h:q=p
 ·rw[if_pos h,decide_eq_true h.symm]
  by_cases h2:l=m
  ·subst h2;rw[decide_eq_true rfl,bV];rfl
  ·rw[decide_eq_false h2];rfl
 ·rw[if_neg h,decide_eq_false (CQ h),j9];rfl
theorem qB (A:Around)(s:Shared)(p:Int)(t1:Tok)(p':Int)(t2:Tok):SeqAt.EqAt A s (.int p t1) (.int p' t2) (decide (p=p')):=by
 have:=SeqAt.EqAt.int_int (A:=A) (s:=s) p t1 p' t2
 rw[show(p==p')=decide (p=p') from by simp[Bool.beq_eq_decide_eq]] at this
 exact this
theorem iX (A:Around)(s:Shared)(a:Int)(t:Tok)(c:Int)(u:Tok)(prog:Program)(w:World)(E:Value→Shared→Prop)(Q:Value→Shared→Prop)(h:Q (.bool (decide (a≤c))) s):
  wpAny (model prog w) A (richCompare .LtE (.int a t) (.int c u)) Q E s:=
 (PyProof.Rows.le_int h:wpAny (model prog w) A (compareOp .LtE (.int a t) (.int c u)) Q E s)
end
theorem iF {α:Type}(f:α→Int)(c:Int):∀(l:List α),(l.map f).Nodup→(l.filter fun x=>f x==c).length≤1
 |[],_=>by simp
 |a::r,h=>by
  rw[C5,Ds] at h
  have ih:=iF f c r h.2
  by_cases e:f a=c
  ·have z:(r.filter fun x=>f x==c)=[]:=by
    refine List.filter_eq_nil_iff.mpr fun x hx q=>h.1 ?_
    rw[e]
    exact CU.mpr ⟨x,hx,by simpa using q⟩
   rw[DJ (p:=fun x=>f x==c) (by simpa using e),z]
   exact CM _
  ·rw[DK (p:=fun x=>f x==c) (by simpa using e)]
   exact ih
section
variable {prog:Program} {w:World} {A:Around} {E:Value→Shared→Prop} {s:Shared}
theorem tT{Q:Bool→Shared→Prop}(hT:s.TypeIs (.ref b) "tuple")(h:Q false s):wpAny (model prog w) A (Builtin.Dict.quietEq (.ref b)) Q E s:=by
 unfold Builtin.Dict.quietEq
 refine CH (Fg hT F.slot_tuple_eq.lookup (CI ?_))
 exact h
theorem qz {id:String}{Q:Array DictEntry→Shared→Prop}(ho:s.heap.get? d=some o)(hd:o.data=.dict es ep)
  (hk:∀e∈es,∃b,e.key=.ref b∧s.TypeIs (.ref b) "tuple") (hn:(es.toList.map (·.hash)).Nodup) (h:Q es s):wpAny (model prog w) A (Builtin.Dict.entriesForEmpty id d) Q E s:=by
 unfold Builtin.Dict.entriesForEmpty
 refine CH (DB ho hd (CH ?_))
 rw[←Array.forIn_toList]
 refine Fe _ (fun bC _ s'=>s'=s∧∀e∈bC,e∈es) _ ?_ ?_ _ _ ⟨rfl,fun e he=>Fz.mp he⟩
 ·rintro e bC u s' ⟨rfl,a⟩
  obtain⟨b,eb,hT⟩:=hk e (a e Dk)
  rw[eb]
  refine CH (tT hT ?_)
  rw[if_pos (by decide)]
  have one:¬(es.filter (·.hash==e.hash)).size>1:=by
   have:=iF (fun x:DictEntry=>x.hash) e.hash es.toList hn
   rw[←Di,Array.toList_filter]
   lia
  rw[if_neg one]
  exact CI ⟨rfl,fun x hx=>a x (Dh _ hx)⟩
 ·rintro u s' ⟨rfl,_⟩
  exact CI h
theorem t7 {nm:String}{Q:Unit→Shared→Prop}(hdo:d≠o)(hoS:(o==sysModules)=false)
  (hd:s.heap.get? d=some od) (hde:od.ExactDict) (hdd:od.data=.dict #[] ep') (ho:s.heap.get? o=some oo) (hod:oo.data=.dict es ep)
  (hk:∀e∈es,∃b,e.key=.ref b∧s.TypeIs (.ref b) "tuple") (hn:(es.toList.map (·.hash)).Nodup) (hz:es.size≤sizeLine)
  (hQ:∀h',(∃o' ep'',h'.get? d=some o'∧o'.ExactDict∧o'.data=.dict es ep'')→Heap.SameBut d s.heap h'→Q () {s with heap:=h'}):
  wpAny (model prog w) A (Builtin.Dict.mergeDict nm d o) Q E s:=by
 unfold Builtin.Dict.mergeDict
 rw[if_neg (by simpa using hdo)]
 unfold Builtin.Dict.showsAll
 rw[if_neg (by rw[hoS];exact C0)]
 refine CH (CI (CH (DB ho hod ?_)))
 dsimp only
 by_cases he:es= #[]
 ·subst he
  rw[if_neg (by simp)]
  refine CH (DV ho hod (CH (DB ho hod (CH ?_))))
  rw[Std.Legacy.Range.forIn_eq_forIn_range']
  exact CI (CI (hQ s.heap ⟨od,ep',hd,hde,hdd⟩ (Heap.SameBut.refl _ _)))
 ·have few:(decide (es.size≤8)&&es.all fun e=>(keyPart e.key).isSome)=false:=by
   rw[Bool.and_eq_false_iff]
   refine .inr (Bool.eq_false_iff.mpr fun z=>he ?_)
   rw[←Array.all_toList,Fi] at z
   refine Array.eq_empty_of_size_eq_zero (Nat.eq_zero_of_not_pos fun pz=>?_)
   have hm:es[0]∈es:=Array.getElem_mem pz
   obtain⟨b,eb,_⟩:=hk _ hm
   have y:=z _ (Fz.mpr hm)
   rw[eb] at y
   exact absurd y C0
  rw[few]
  rw[if_pos (by rfl)]
  refine CH (DB hd hdd ?_)
  rw[if_pos (by rfl)]
  refine CH (qz ho hod hk hn ?_)
  rw[if_pos (by simpa using he)]
  exact CH (wpAny_updateDictKeysTo hd hdd (CI (hQ _ ⟨_,ep'+1,Ep _ hd (Obj.isFreed_of_dict (Obj.data_mapDictKeys hdd _)),hde.mapDictKeys _,Obj.data_mapDictKeys hdd _⟩ (Heap.SameBut.update ..))) (by lia))
theorem mx(hoS:(o==sysModules)=false)(ho:s.heap.get? o=some oo)(hoe:oo.ExactDict)(hod:oo.data=.dict es ep)
  (hk:∀e∈es,∃b,e.key=.ref b∧s.TypeIs (.ref b) "tuple") (hn:(es.toList.map (·.hash)).Nodup) (hz:es.size≤sizeLine)
  (h:∀h',(∃o' ep'',h'.get? s.heap.objs.size=some o'∧o'.ExactDict∧o'.data=.dict es ep'')→(∀b u,s.heap.get? b=some u→h'.get? b=some u)→Q (.ref s.heap.objs.size) {s with heap:=h'}):
  wpAny (model prog w) A (call (.type "dict") [.ref o]) Q E s:=by
 refine callType_codes (Q₁:=fun v s₁=>v=.ref s.heap.objs.size∧s₁={s with heap:=s.heap.push {cls:=.type "dict",data:=.dict #[]}}) F.kt_called_dict (F.kt_typeCall_dict_1 _) F.entry_dict_init (kt_code_dict_new _ ⟨rfl,rfl⟩) ?_
 rintro v s₁ ⟨rfl,rfl⟩
 have keep:∀b u,s.heap.get? b=some u→(s.heap.push {cls:=.type "dict",data:=.dict #[]}).get? b=some u:=fun b u x=>CO _ x
 have nT:Shared.TypeIs {s with heap:=s.heap.push {cls:=.type "dict",data:=.dict #[]}} (.ref s.heap.objs.size) "dict" :=⟨_,C4 _ rfl,rfl⟩
 have oT:Shared.TypeIs {s with heap:=s.heap.push {cls:=.type "dict",data:=.dict #[]}} (.ref o) "dict" :=⟨oo,keep _ _ ho,hoe.1⟩
 have a:o<s.heap.objs.size:=CS ho
 refine⟨nT,F.args_dict_init_2 _ _,?_⟩
 unfold Builtin.«dict.__init__»
 refine CH ?_
 unfold Builtin.Dict.selfAndRest
 refine CH (E1 nT ?_)
 show wpAny _ _ (pure (s.heap.objs.size,[Value.ref o])) _ _ _
 refine CI ?_
 show wpAny _ _ (Builtin.Dict.updateFrom "dict.__init__" s.heap.objs.size (.ref o) [] .none) _ _ _
 unfold Builtin.Dict.updateFrom
 refine CH (E2 oT ?_)
 rw[if_neg (by decide)]
 refine CH ?_
 unfold Builtin.Dict.merge
 refine CH ?_
 unfold Builtin.Dict.readDirectly
 refine CH (Eg oT isSubtype_dict_dict ?_)
 simp only[Bool.not_true,Eh,if_false]
 refine CH (Fg oT F.slot_dict_iter.lookup (CI ?_))
 simp only[beq_self_eq_true,if_true]
 refine CH (CI ?_)
 refine t7 (DY a) hoS (C4 _ rfl) ⟨rfl,rfl,rfl⟩ rfl (keep _ _ ho) hod (fun e he=>?_) hn hz fun h' new sb=>?_
 ·obtain⟨b,e1,o1,e2,e3⟩:=hk e he
  exact⟨b,e1,o1,keep _ _ e2,e3⟩
 ·exact CH (CI (CI ⟨rfl,h h' new fun b u x=>sb.extBut b u (C6 (CS x)) (keep _ _ x)⟩))
end
def oz (P:Program) (w:World) (kvs:List (List cK×V)):Prop:=(kvs.map fun p=>tupleKeyHash (aW P w) p.1).Nodup
theorem KT.keys{kvs:List (List cK×V)}{xs:List (List cK×Addr×Value)}(r:KT H kvs xs):kvs.map (·.1)=xs.map (·.1):=by
 induction r with
 |nil=>rfl
 |cons h _ ih=>rw[C5,C5,ih,h.1]
section
variable {X:Cx} {pins:List (Addr×Obj)} {σ:St} {H:Hp} {s:Shared} {a:Addr} {A:Around} {E:Value→Shared→Prop}
theorem ye {kvs:List (List cK×V)}(I:aL X pins σ H s)(e:Rd H a (.dT kvs))(hh:oz X.prog X.w kvs)(h:∀p s',H p=none→aL X pins σ (upd H p (.dT kvs)) s'→Q (.ref p) s'):wpAny (model X.prog X.w) A (call (.type "dict") [.ref a]) Q E s:=by
 obtain⟨z,hd,xs,c,o,es,ep,ho,hc,d,he,f,hn⟩:=iH I.hok e
 have hl:es.size=xs.length:=size_of_entries he
 have i:kvs.length=xs.length:=Paired.length c
 refine mx hd ho hc d (fun x hx=>?_) ?_ (by lia) fun h' new keep=>?_
 ·have hm:x∈xs.map (entryOfKey (tupleKind (aW X.prog X.w))):=he▸Fz.mpr hx
  obtain⟨y,hy,rfl⟩:=CU.mp hm
  obtain⟨ob,_,_,h1,h2,_⟩:=f y hy
  exact⟨y.2.1,rfl,ob,h1,h2⟩
 ·rw[he,Dq]
  have:xs.map ((fun x:DictEntry=>x.hash)∘entryOfKey (tupleKind (aW X.prog X.w)))=kvs.map fun p=>tupleKeyHash (aW X.prog X.w) p.1:=by
   have e1:xs.map ((fun x:DictEntry=>x.hash)∘entryOfKey (tupleKind (aW X.prog X.w)))=(xs.map (·.1)).map (tupleKeyHash (aW X.prog X.w)):=by rw[Dq];rfl
   rw[e1,←c.keys,Dq];rfl
  rw[this];exact hh
 ·obtain⟨o',g,h1,h2,h3⟩:=new
  have fr:H s.heap.objs.size=none:=I.hok.fresh (CM _)
  refine h _ _ fr (I.laid (a:=s.heap.objs.size) (o:=.dT kvs) (t':=s.toks) keep (CM _) ⟨z,beq_eq_false_iff_ne.mpr (CQ (C6 I.big)),xs,c.keeps fun b ys q=>?_,o',es,g,h1,h2,h3,he,hn⟩)
  rw[aj (ak q fr)];exact q
end
noncomputable def AJ (P:Program) (w:World):List V→Hp→VK→Prop:=fun xs H Q=>∃a,xs=[.ref a]∧
 ((∃kvs,Rd H a (.dK kvs)∧∀p,H p=none→Q (.ref p) (upd H p (.dK kvs)))∨∃kvs,Rd H a (.dT kvs)∧oz P w kvs∧∀p,H p=none→Q (.ref p) (upd H p (.dT kvs)))
theorem gL:dO X (.type "dict") (AJ X.prog X.w):=by
 intro pins s σ H xs us Q I r h
 obtain⟨a,rfl,h⟩:=h
 obtain⟨u,rfl,ru⟩:=iZ r
 cases ru
 rcases h with ⟨kvs,e,q⟩|⟨kvs,e,hh,q⟩
 ·exact wQ I e fun p s' hp I'=>⟨.ref p,_,I',rfl,q p hp⟩
 ·exact ye I e hh fun p s' hp I'=>⟨.ref p,_,I',rfl,q p hp⟩
def xq:V→Bool
 | .flt _=>false
 | .byt _=>false
 |_=>true
theorem y9(hf:xq v=true)(r:aT v u)(r':aT v u'):SeqAt.EqAt A s u u' true:=by
 cases v with
 |non=>cases(show u=Value.none from r);cases(show u'=Value.none from r');exact SeqAt.EqAt.same _
 |bl b=>cases(show u=Value.bool b from r);cases(show u'=Value.bool b from r');exact SeqAt.EqAt.same _
 |int i=>obtain⟨t,rfl⟩:=r;obtain⟨t',rfl⟩:=r';have h:=SeqAt.EqAt.int_int (A:=A) (s:=s) i t i t';rwa [beq_self_eq_true] at h
 |str x=>obtain⟨t,rfl⟩:=r;obtain⟨t',rfl⟩:=r';have h:=SeqAt.EqAt.str_str (A:=A) (s:=s) x t x t';simpa using h
 |byt b=>exact absurd hf (by simp[xq])
 |flt b=>exact absurd hf (by simp[xq])
 |ref a=>cases(show u=Value.ref a from r);cases(show u'=Value.ref a from r');exact SeqAt.EqAt.same _
 |ty n=>cases(show u=Value.type n from r);cases(show u'=Value.type n from r');exact SeqAt.EqAt.same _
def AQ (K:CJ) (H:Hp) (v v':V):Prop:=(v=v'∧xq v=true)∨∃d e,Dp K H v d∧Dp K H v' e∧d.depth≤60∧PyData.eqv d e=true
theorem AQ.at{pins:List (Addr×Obj)}(I:aL X pins σ H s)(h:AQ X.K H v v')(r:aT v u)(r':aT v' u')(hu:A.units+60<cLine):SeqAt.EqAt A s u u' true:=by
 rcases h with ⟨rfl,h⟩|⟨d,e,h1,h2,hd,he⟩
 ·exact y9 h r r'
 ·obtain⟨as,r1⟩:=h1.reads I r
  obtain⟨bs,r2⟩:=h2.reads I r'
  have:=SeqAt.eqAt_reads d e A s u u' as bs r1 r2 h1.lay h2.lay (by lia)
  rwa [he] at this
section
variable {prog:Program} {w:World} {K:Type} [DecidableEq K] {knd:HeapKind prog w K} {A:Around} {E:Value→Shared→Prop} {s:Shared}
theorem wz {nm:String}{xa xb:List (K×Addr×Value)}{Q:Bool→Shared→Prop}(hu:knd.room A)(ha:(a==sysModules)=false)(hb:(b==sysModules)=false)
  (da:s.heap.DictOfH knd a xa) (db:s.heap.DictOfH knd b xb) (hl:xa.length=xb.length) (hits:∀x∈xa,∃p,(x.1,p)∈xb∧SeqAt.EqAt A s x.2.2 p.2 true) (h:Q true s):
  wpAny (model prog w) A (Builtin.Dict.samePairs nm a b) Q E s:=by
 obtain⟨oa,es,ep,d,_,c,m,y,B⟩:=da
 obtain⟨ob,o,z,e,_,f,k,r,n⟩:=db
 have u:es.size=xa.length:=size_of_entries m
 have v:o.size=xb.length:=size_of_entries k
 unfold Builtin.Dict.samePairs Builtin.Dict.showsAll
 rw[if_neg (show¬(a==sysModules)=true by rw[ha];exact C0),if_neg (show¬(b==sysModules)=true by rw[hb];exact C0)]
 refine CH (CI (CH (CI (CH (DB d c ?_)))))
 dsimp only
 refine CH (DB e f ?_)
 rw[if_neg (by rw[u,v,hl];simp)]
 refine CH (DV d c (CH ?_))
 rw[Std.Legacy.Range.forIn_eq_forIn_range']
 simp only[Std.Legacy.Range.size,Nat.sub_zero,Nat.add_sub_cancel,Nat.div_one]
 refine Fe _ (fun bC q s'=>s'=s∧q=(none,())∧∀i∈bC,i<es.size) _ ?_ ?_ _ _ ⟨rfl,rfl,fun i hi=>by simpa using hi⟩
 ·rintro x bC q s' ⟨rfl,rfl,hr⟩
  have hx:x<es.size:=hr x Dk
  have l:x<xa.length:=by lia
  refine CH (DB d c ?_)
  rw[entry_at m x,Dd l]
  obtain⟨p,hp,he⟩:=hits _ (List.getElem_mem l)
  have hk:knd.is s'.heap xa[x].1 xa[x].2.1:=y _ (List.getElem_mem l)
  show wpAny _ _ (holding _ _>>=_) _ _ _
  refine CH (Dz (CH ?_))
  refine wpAny_dictFind_heap (a:=xa[x].2.1) hu hk e f k r n (fun no=>?_) fun j p' hj=>?_
  ·obtain⟨j,hj⟩:=List.getElem?_of_mem hp
   exact absurd hj (no j p)
  ·obtain⟨j',g⟩:=List.getElem?_of_mem hp
   have ej:j=j':=idxH_unique n hj g
   rw[ej,g] at hj
   obtain rfl:p=p':=by cases hj;rfl
   rw[ej]
   refine CH (DB e f ?_)
   rw[entry_at k j',g]
   refine Dz (he prog w _ _ ?_)
   show wpAny _ _ (if (!true)=true then _ else _) _ _ _
   rw[if_neg (by decide)]
   refine CH (DV d c ?_)
   rw[if_neg (by simp)]
   exact CI ⟨rfl,rfl,fun i hi=>hr i (Dh _ hi)⟩
 ·rintro q s' ⟨rfl,rfl,_⟩
  exact CI h
theorem zp{xa xb:List (K×Addr×Value)}(hu:knd.room A.in1)(hu':A.units<cLine)(ha:(a==sysModules)=false)(hb:(b==sysModules)=false)
  (da:s.heap.DictOfH knd a xa) (db:s.heap.DictOfH knd b xb) (hl:xa.length=xb.length) (hits:∀x∈xa,∃p,(x.1,p)∈xb∧SeqAt.EqAt A.in1 s x.2.2 p.2 true) (h:Q (.bool true) s):
  wpAny (model prog w) A (compareOp .Eq (.ref a) (.ref b)) Q E s:=by
 refine wpAny_richCompare_same_room (op:=.Eq) da.typeIs db.typeIs PySem.F.slot_dict_eq (Dr PySem.F.slot_dict_eq da.typeIs PySem.F.entry_dict_eq ?_ (PySem.F.args_dict_eq_2 _ _)) hu'
 show wpAny _ _ (Builtin.Dict.dictSlotArgs "__eq__" ⟨[.ref a,.ref b],[]⟩>>=_) _ _ s
 refine CH ?_
 unfold Builtin.Dict.dictSlotArgs
 refine CH (E1 da.typeIs ?_)
 show wpAny _ _ (pure (Value.ref a,Value.ref b)) _ _ s
 refine CI (CH (Eg (T:= "dict") db.typeIs PySem.F.sub_dict_dict ?_))
 simp only[Bool.not_true,Eh,if_false]
 refine CH (CI (CH (CI (CH (wz hu ha hb da db hl hits ?_)))))
 exact CI ⟨_,rfl,(fun x=>nomatch x),h⟩
end
theorem vL {κ:Type} [DecidableEq κ]{kvs:List (κ×V)}{k:κ}{v:V}(h:aR kvs k=some v):(k,v)∈kvs:=by
 unfold aR at h
 obtain⟨p,hp,rfl⟩:=Do.mp h
 have:=List.find?_some hp
 have e:p.1=k:=of_decide_eq_true this
 rw[←e]
 exact List.mem_of_find?_eq_some hp
theorem lH {α β:Type}{R:α→β→Prop}:∀{xs:List α} {ys:List β},Paired R xs ys→∀y∈ys,∃x∈xs,R x y
 |_,_,.nil,_,h=>by simp at h
 |_,_,.cons r t,y,h=>by
  rcases CV.mp h with rfl|h
  ·exact⟨_,Dk,r⟩
  ·obtain⟨x,hx,q⟩:=lH t y h
   exact⟨x,Dh _ hx,q⟩
theorem nU {α β:Type}{R:α→β→Prop}:∀{xs:List α} {ys:List β},Paired R xs ys→∀x∈xs,∃y∈ys,R x y
 |_,_,.nil,_,h=>by simp at h
 |_,_,.cons r t,y,h=>by
  rcases CV.mp h with rfl|h
  ·exact⟨_,Dk,r⟩
  ·obtain⟨x,hx,q⟩:=nU t y h
   exact⟨x,Dh _ hx,q⟩
section
variable {X:Cx}
theorem Av {pins:List (Addr×Obj)}{ka kb:List (List cK×V)}{va vb:List (List cK×Addr×Value)}(I:aL X pins σ H s)(ra:KT H ka va)(rb:KT H kb vb)(hu:A.units+60<cLine)
  (h:∀p∈ka,∃v,aR kb p.1=some v∧AQ X.K H p.2 v):∀x∈va,∃p,(x.1,p)∈vb∧SeqAt.EqAt A s x.2.2 p.2 true:=by
 intro x hx
 obtain⟨p,hp,e1,_,r1⟩:=lH ra x hx
 obtain⟨v,hv,sm⟩:=h p hp
 obtain⟨y,hy,e2,_,r2⟩:=nU rb _ (vL hv)
 refine⟨y.2,?_,sm.at I r1 r2 hu⟩
 rw[←e1,show p.1=y.1 from e2]
 exact hy
end
theorem t8:typeLookup (.type "list_reverseiterator") "__len__" =pure none:=by rw[typeLookup_type,builtinLookup_eq_fast];kernel_rfl
theorem vw:typeLookup (.type "list_reverseiterator") "__length_hint__" =pure (some (.builtin "list_reverseiterator.__length_hint__")):=by rw[typeLookup_type,builtinLookup_eq_fast];kernel_rfl
section
variable {prog:Program} {w:World} {A:Around} {E:Value→Shared→Prop} {s:Shared} {I:Addr} {fp wr:List Addr} {G:Array GenState→Array GenState→Prop} {n:Nat} {P:Nat→Value→Prop} {St:Nat→Shared→Prop}
theorem qS(W:WalksS prog w A.in1 I fp wr G n P St)(hT:∀i s,St i s→s.TypeIs (.ref I) "list_reverseiterator")(S:Addr)(res:Value)(c₀:Nat)(hst:St 0 s)(hSf:S∉fp)(hI:I∈fp)
  (hS:s.heap.get? S=some {cls:=.type "list",data:=.seq #[] c₀}) (hn:n≤sizeLine)
  (hR:∀s' acc' c',Moved (S::wr) G s s'→s'.heap.get? S=some {cls:=.type "list",dict:=none,data:=.seq acc' c',slots:= #[]}→ItemsOf P acc' n→R (.ok (.ret res)) s'):
  wpAny (model prog w) A.in1 (Builtin.List.listExtendWith (.ref S) (.ref I) res)
   (fun fin s'=>match fin with| .done f=>R (.ok f) s'| .again c'=>c'.quiet=true∧codeAny (model prog w) A c' R s') (fun e s'=>R (.error e) s') s:=by
 have a:S≠I:=fun e=>hSf (e▸hI)
 unfold Builtin.List.listExtendWith
 refine CH (E2 (hT 0 _ hst) ?_)
 have h1:Builtin.List.listSameRef (.ref S) (.ref I)=false:=by simp[Builtin.List.listSameRef,a]
 rw[if_neg (by rw[h1];decide)]
 refine CH (W.self 0 _ _ _ hst (CH (Dz ?_)))
 unfold Builtin.List.listLengthHint
 refine CH (Fg (hT 0 _ hst) t8 ?_)
 show wpAny _ A.in1 (specialOf (Value.ref I) (Str.ofString "__length_hint__")>>=_) _ _ _
 refine CH (Fg (hT 0 _ hst) vw ?_)
 generalize hid:("list_reverseiterator.__length_hint__" :String)=id0
 wp_delta
 rw[show splitId id0=some ("list_reverseiterator", "__length_hint__") from by subst hid;decide+kernel]
 subst hid
 refine CH (Eg (b:=true) (hT 0 _ hst) (by rw[isSubtype_type];kernel_rfl) (CI ?_))
 rw[if_neg (by decide)]
 exact CI ⟨plainId_quiet F.plain_extend_loop _,codeAny_extend_loopS W hn _ hSf _ n 0 _ _ _ rfl (C8 _) hst hS (ItemsOf.nil P) fun s' acc' c' hm hS' hacc=>hR s' acc' c' hm hS' hacc⟩
theorem mi(W:WalksS prog w A.in1.in1 I fp wr G n P St)(hT:∀i s,St i s→s.TypeIs (.ref I) "list_reverseiterator")(hst:St 0 s)(hfp:∀b∈fp,b<s.heap.objs.size)(hI:I∈fp)(hn:n≤sizeLine)
  (hQ:∀s' acc' c',Moved (s.heap.objs.size::wr) G {s with heap:=s.heap.push {cls:=.type "list",data:=.seq #[]}} s'→
   s'.heap.get? s.heap.objs.size=some {cls:=.type "list",dict:=none,data:=.seq acc' c',slots:= #[]}→ItemsOf P acc' n→Q (.ref s.heap.objs.size) s'):
  wpAny (model prog w) A (call (.type "list") [.ref I]) Q E s:=by
 have a:s.heap.objs.size∉fp:=fun hm=>DL _ (hfp _ hm)
 refine callType_codes (Q₁:=fun v s₁=>v=.ref s.heap.objs.size∧s₁={s with heap:=s.heap.push {cls:=.type "list",data:=.seq #[]}}) F.called_list (F.typeCall_list_1 _) F.entry_list_init
  (code_list_new _ ⟨rfl,rfl⟩) fun v s₁ h₁=>?_
 obtain⟨rfl,rfl⟩:=h₁
 have hS:(s.heap.push {cls:=.type "list",data:=.seq #[]}).get? s.heap.objs.size=some {cls:=.type "list",data:=.seq #[]}:=C4 _ rfl
 refine⟨⟨_,hS,rfl⟩,F.args_list_init_2 _ _,?_⟩
 have d:=W.frame 0 s _ s.toks hst (CM _) fun b _ o e=>CO {cls:=.type "list",data:=.seq #[]} e
 show wpAny _ A.in1.in1 (do let old←Builtin.List.listItems (.ref s.heap.objs.size);Builtin.List.listUpdate (.ref s.heap.objs.size) (fun _=> #[]);letGo old.toList.reverse;Builtin.List.listExtendWith (.ref s.heap.objs.size) (.ref I) .none) _ _ _
 refine CH ?_
 unfold Builtin.List.listItems
 refine CH (DW hS rfl (CI ?_))
 show wpAny _ A.in1.in1 (updateSeq s.heap.objs.size (fun _=> #[])>>=fun _=>letGo (#[]:Array Value).toList.reverse>>=fun _=>Builtin.List.listExtendWith (.ref s.heap.objs.size) (.ref I) .none) _ _ _
 refine CH (wpAny_updateSeq hS rfl ?_)
 have f:=Ep (Obj.mapSeq (fun _=>(#[]:Array Value))) hS rfl
 have c:∀b o,b≠s.heap.objs.size→(s.heap.push {cls:=.type "list",data:=.seq #[]}).get? b=some o→((s.heap.push {cls:=.type "list",data:=.seq #[]}).update s.heap.objs.size (Obj.mapSeq (fun _=>(#[]:Array Value)))).get? b=some o:=
  fun b o hb e=>(Er _ _ (CQ hb)).trans e
 refine CH (Et ?_)
 refine qS W hT _ .none _ (W.frame 0 _ _ s.toks d (CM _) fun b hb o e=>c b o (fun h=>a (h▸hb)) e) a hI f hn fun s' acc' c' hm hS' hacc=>?_
 exact⟨rfl,hQ s' acc' c' (Moved.trans W.gtrans ((Moved.refl W.grefl).then_heap (CM _) fun b o hb e=>c b o (fun h=>hb (h▸Dk)) e) hm) hS' hacc⟩
end
def uQ (K:CJ) (te:TE):TE:=fun σ H Q=>te σ H fun x H1=>∃l ys,x=.ref l∧bg K H1 l ys∧∀p,H1 p=none→Q (.ref p) (upd H1 p (.lst ys.reverse))
theorem qO(hc:X.calm=true)(hg:Gl X "list")(hm:X.mg "list" =none)(hg':Gl X "reversed")(hm':X.mg "reversed" =none)(he:PE X e te)
  (hs:starEach [Expr.Call (.Name "reversed" p2) [e] [] pos2] X.env=[(false,eval (.Call (.Name "reversed" p2) [e] [] pos2) X.env)]:=by rfl) (hs':starEach [e] X.env=[(false,eval e X.env)]:=by rfl):
  PE X (.Call (.Name "list" p1) [.Call (.Name "reversed" p2) [e] [] pos2] [] pos1) (uQ X.K te):=by
 intro pins s σ H Q I h
 refine Ed (fH I hg hm cV ?_ (by decide) (by decide))
 refine PyProof.Rows.callWith_type1 ?_ hs rfl
 rw[hs]
 show wpAny _ _ (spliced [(false,eval (.Call (.Name "reversed" p2) [e] [] pos2) X.env)]) _ _ s
 refine Calls.spliced_cons ?_
 refine Ed (fH I hg' hm' jW ?_ (by decide) (by decide))
 refine PyProof.Rows.callWith_type1 ?_ hs' rfl
 rw[hs']
 show wpAny _ _ (spliced [(false,eval e X.env)]) _ _ s
 refine Calls.spliced_cons (bR (he pins s σ H _ I h) fun u s1 ⟨x,H1,I1,ru,l,ys,ex,hq,q⟩=>Calls.spliced_nil ?_)
 subst ex
 cases(show u=Value.ref l from ru)
 obtain⟨d,rv,pl,hz⟩:=I1.list hq
 have k:l<s1.heap.objs.size:=by obtain⟨o,ho,_⟩:=pl.isList;exact CS ho
 refine call_reversed_list pl.isList (Calls.spliced_nil ?_)
 have kp:∀b o,s1.heap.get? b=some o→(s1.heap.push (revObj l ((d.toArray.size:Int) - 1))).get? b=some o:=fun b o z=>CO _ z
 have I2:=I1.kept (t':=s1.toks) kp
 have hI:(s1.heap.push (revObj l ((d.toArray.size:Int) - 1))).IsRevIter s1.heap.objs.size l ((d.toArray.size:Int) - 1):=⟨_,C4 _ rfl,rfl,rfl⟩
 have m:(s1.heap.push (revObj l ((d.toArray.size:Int) - 1))).IsList l d.toArray:=pl.isList.at fun o z=>kp _ _ z
 have W:=(Walks.listRev (prog:=X.prog) (w:=X.w) (A:=X.A.in1.in1) (I1.ok.hd hc) s1.heap.objs.size l (C6 k) d.toArray).toS
 have f:(s1.heap.push (revObj l ((d.toArray.size:Int) - 1))).objs.size=s1.heap.objs.size+1:=DM ..
 have p:d.toArray.size≤sizeLine:=by rw[De,←rv.length];exact hz
 refine mi W (fun i s' st=>st.2.1.typeIs) ⟨C8 _,by simpa using hI,m⟩ (fun b hb=>?_) (by simp) p fun s' acc c hmv hS ⟨ha1,ha2⟩=>?_
 ·show b<(s1.heap.push _).objs.size
  rw[f]
  rcases CV.mp hb with rfl|hb
  ·exact Fc _
  ·rw[CP.mp hb];exact Fj k
 ·have es:=Moved.eq_with hmv
  have n:H1 (s1.heap.objs.size+1)=none:=I1.hok.fresh (Nat.le_succ _)
  have hv:bh ys.reverse acc.toList:=by
   have e:acc.toList=d.reverse:=by
    refine List.ext_getElem? fun j=>?_
    rcases Nat.lt_or_ge j d.length with hj|hj
    ·have g:j<acc.size:=by rw[ha1];simpa using hj
     have:=ha2 j acc[j] (E3 g)
     rw[List.getElem?_reverse hj,DU,E3 g,←this]
     simp
    ·rw[List.getElem?_eq_none (by rw[Di,ha1];simpa using hj),List.getElem?_eq_none (by simpa using hj)]
   rw[e];exact rv.reverse
  have r:s'.heap.get? (s1.heap.objs.size+1)=some {cls:=.type "list",dict:=none,data:=.seq acc c,slots:= #[]}:=by rw[←f];exact hS
  have J:=aL.turnedLaid (a:=s1.heap.objs.size+1) (o:=.lst ys.reverse) (h':=s'.heap) (t':=s'.toks) (fp:=[s1.heap.objs.size]) I2 (fun b hb=>?_) (fun b o hb z=>?_) (El (by show(s1.heap.push _).objs.size≤_;rw[f];exact CM _))
   (show bL X.prog X.w _ s'.heap _ (.lst ys.reverse) from⟨by rw[Fk];exact hz,acc.toList,c,hv,by simpa using r⟩)
  ·rw[es]
   refine⟨.ref (s1.heap.objs.size+1),_,J,?_,q _ n⟩
   show Value.ref (s1.heap.push _).objs.size=_
   rw[f]
  ·rw[CP.mp hb];exact I1.fpOk (CM _) (I1.hok.fresh (CM _))
  ·refine hmv.heap b o (fun hx=>?_) (CO _ z)
   rcases CV.mp hx with e|hx
   ·have:=CS z;rw[e] at this;exact DL _ this
   ·exact hb hx
theorem bj.one(r:bj k A):A.units+1<cLine:=by have:=r.un;lia
theorem dH(ha:Ev td σ H (.ref a))(hb:Ev ty σ H y)(g:hZ H a y (some v)):Ev (wk td ty) σ H v:=fun _ q=>ha _ (hb _ ⟨a,v,rfl,g,q⟩)
section
variable {X:Cx} {pins:List (Addr×Obj)} {σ:St} {H:Hp} {s:Shared} {d:Addr} {u:HO} {o:Obj}
theorem bL.upd(ok:bL P w H h b x)(nt:∀xs,H d≠some (.tup xs))(no:∀y,H d≠some (.own y)):bL P w (L2.upd H d v) h b x:=
 ok.stay (fun _ _ _ q=>q) (fun c q=>by rw[aj (fun z=>by rw[z] at q;exact no _ q)];exact q) fun c xs q=>by rw[aj (fun z=>by rw[z] at q;exact nt _ q)];exact q
theorem aL.freeze (I:aL X pins σ H s)(e:H d=some u)(mu:w5 (some u)):∃o,aL X pins σ (upd H d (.frz o u)) s∧s.heap.get? d=some o:=by
 have ok:=I.hok d u e
 obtain⟨o,ho⟩:∃o,s.heap.get? d=some o:=by
  cases u with
  |lst xs=>obtain⟨_,_,_,_,z⟩:=ok;exact⟨_,z⟩
  |dK kvs=>obtain⟨_,_,_,_,o,_,_,z,_⟩:=ok;exact⟨o,z⟩
  |dT kvs=>obtain⟨_,_,_,_,o,_,_,z,_⟩:=ok;exact⟨o,z⟩
  |set S n=>obtain⟨o,_,_,_,z,_⟩:=ok;exact⟨o,z⟩
  |ins C dx fs=>obtain⟨_,_,_,z,_⟩:=ok;exact⟨_,z⟩
  |ext φ=>obtain⟨_,z,_⟩:=ok;exact z
  |_=>exact mu.elim
 have a:w5 (H d):=by rw[e];exact mu
 refine⟨o,I.write (t':=s.toks) (h':=s.heap) (x:=d) (e:=d) (o:=.frz o u) a (.inl rfl) (fun b v _ q=>q) ⟨o,ho⟩ ⟨ho,?_⟩,ho⟩
 exact ok.upd (fun xs z=>by rw[z] at a;exact a) (fun y z=>by rw[z] at a;exact a)
theorem aL.thaw (I:aL X pins σ H s)(e:H d=some (.frz o u))(nb:∀o' u',X.H₀ d≠some (.frz o' u')):aL X pins σ (upd H d u) s:=by
 have ne:∀b,H b=none→b≠d:=fun b n z=>by rw[z,e] at n;cases n
 have nt:∀xs,H d≠some (.tup xs):=fun xs z=>by rw[e] at z;cases z
 have no:∀y,H d≠some (.own y):=fun y z=>by rw[e] at z;cases z
 have B:=I.base
 refine⟨I.ok,I.os,I.bare,⟨B.keep,B.slot,fun b v q n hx=>?_,B.there,fun b xs q=>?_,fun b v w q=>?_,fun b ps q=>?_⟩,I.loc,I.cell,?_,fun x c q=>?_,fun p hp=>?_,fun b v q=>?_,I.len⟩
 ·have:=B.free b v q n hx
  rw[aj (ne b this)];exact this
 ·have:=B.tups b xs q
  rw[aj (fun z=>by rw[z] at this;exact nt _ this)];exact this
 ·have:=B.frzs b v w q
  rw[aj (fun z=>by rw[z] at q;exact nb _ _ q)];exact this
 ·obtain⟨more,this⟩:=B.tbls b ps q
  exact⟨more,by rw[aj (fun z=>by rw[z,e] at this;cases this)];exact this⟩
 ·rw[aj (ne _ I.free)];exact I.free
 ·rw[aj (ne _ (I.freeC x c q))];exact I.freeC x c q
 ·obtain⟨h1,h2,h3⟩:=I.pin p hp
  exact⟨h1,by rw[aj (ne _ h2)];exact h2,h3⟩
 ·by_cases hb:b=d
  ·subst hb
   rw[ag] at q;cases q
   obtain⟨_,z⟩:=I.hok b _ e
   exact z.upd nt no
  ·rw[aj hb] at q
   exact(I.hok b v q).upd nt no
end
noncomputable def B2 (D:eK) (d:Addr) (o:Obj) (u:HO):eK:=
 ⟨fun σ1 H1=>H1 d=some (.frz o u)∧D.nx σ1 (upd H1 d u),fun v H1=>H1 d=some (.frz o u)∧D.rt v (upd H1 d u),fun σ1 H1=>H1 d=some (.frz o u)∧D.bk σ1 (upd H1 d u),fun σ1 H1=>H1 d=some (.frz o u)∧D.ct σ1 (upd H1 d u)⟩
def BD (t:TS):TS:=fun D σ H=>∃d u,H d=some u∧w5 (some u)∧∀o,t (B2 D d o u) σ (upd H d (.frz o u))
theorem jx(h:PS X a t):PS X a (BD t):=by
 intro pins s σ H D I ht
 obtain⟨d,u,e,mu,q⟩:=ht
 have nb:∀o' u',X.H₀ d≠some (.frz o' u'):=fun o' u' z=>by
  have:=I.base.frzs d o' u' z
  rw[e] at this;cases this;exact mu
 obtain⟨o,I1,_⟩:=I.freeze e mu
 refine bR (h pins s σ _ _ I1 (q o)) fun f s' hf=>?_
 cases f with
 |next=>obtain⟨σ',H',I',e',k⟩:=hf;exact⟨σ',_,I'.thaw e' nb,k⟩
 |brk=>obtain⟨σ',H',I',e',k⟩:=hf;exact⟨σ',_,I'.thaw e' nb,k⟩
 |cont=>obtain⟨σ',H',I',e',k⟩:=hf;exact⟨σ',_,I'.thaw e' nb,k⟩
 |ret v=>obtain⟨x,σ',H',I',r,e',k⟩:=hf;exact⟨x,σ',_,I'.thaw e' nb,r,k⟩
def A8 (te:TE):TE:=fun σ H Q=>∃d u,H d=some u∧w5 (some u)∧∀o,te σ (upd H d (.frz o u)) fun v H'=>H' d=some (.frz o u)∧Q v (upd H' d u)
theorem zu(h:PE X a te):PE X a (A8 te):=by
 intro pins s σ H Q I ht
 obtain⟨d,u,e,mu,q⟩:=ht
 have nb:∀o' u',X.H₀ d≠some (.frz o' u'):=fun o' u' z=>by
  have:=I.base.frzs d o' u' z
  rw[e] at this;cases this;exact mu
 obtain⟨o,I1,_⟩:=I.freeze e mu
 exact bR (h pins s σ _ _ I1 (q o)) fun v s' ⟨x,H',I',r,e',k⟩=>⟨x,_,I'.thaw e' nb,r,k⟩
noncomputable def er:HO→Nat
 | .dK kvs=>kvs.length
 | .dT kvs=>kvs.length
 |_=>0
def jT:HO→Prop
 | .dK _=>True
 | .dT _=>True
 |_=>False
noncomputable def eJ (H:Hp):HO→Nat→V→V→Prop
 | .dK kvs,i,x,v=>∃k,kvs[i]?=some (k,v)∧x=kV k
 | .dT kvs,i,x,v=>∃k b,kvs[i]?=some (k,v)∧x=.ref b∧H b=some (.tup (k.map kV))
 |_,_,_,_=>False
theorem fP {α β:Type}{R:α→β→Prop}:∀{xs:List α} {ys:List β} (_:Paired R xs ys) (i:Nat) (hi:i<ys.length),∃x,xs[i]?=some x∧R x ys[i]
 |_,_,.nil,i,hi=>absurd hi (EZ _)
 |_,_,.cons r _,0,_=>⟨_,rfl,r⟩
 |_,_,.cons _ t,i+1,hi=>by
  obtain⟨x,h1,h2⟩:=fP t i (by simpa using hi)
  exact⟨x,by simpa using h1,by simpa using h2⟩
theorem eF(ok:fV P w H h)(e:H d=some (.frz o u))(hu:jT u):(d==sysModules)=false∧h.get? d=some o∧o.ExactDict∧
  ∃es ep,o.data=.dict es ep∧es.size=er u∧∀i (hi:i<es.size),∃x v,eJ H u i x v∧aT x es[i].key∧aT v es[i].val:=by
 obtain⟨ho,k⟩:=ok d _ e
 cases u with
 |dK kvs=>
  obtain⟨z,hs,vs,a,o',es,ep,h1,h2,h3,h4,h5,h6⟩:=k
  rw[ho] at h1;cases h1
  have hl:es.size=vs.length:=by rw[←h5.length];simp
  refine⟨hs,ho,h2,es,ep,h3,by rw[hl,←a.length];rfl,fun i hi=>?_⟩
  obtain⟨p,hp,e1,r1⟩:=fP a i (by lia)
  obtain⟨q1,q2⟩:=h5.get? (i:=i) (e:=es[i]) (k:=vs[i].1) (v:=vs[i].2) (by simp[hi]) (by rw[Dd])
  refine⟨kV p.1,p.2,⟨p.1,hp,rfl⟩,?_,by rw[q2];exact r1⟩
  rw[←e1] at q1
  rcases cf q1 with ⟨j,t,ek,ev⟩|⟨j,t,ek,ev⟩<;>rw[ek,ev]<;>exact⟨t,rfl⟩
 |dT kvs=>
  obtain⟨z,hs,xs,a,o',es,ep,h1,h2,h3,h4,h5⟩:=k
  rw[ho] at h1;cases h1
  have hl:es.size=xs.length:=size_of_entries h4
  refine⟨hs,ho,h2,es,ep,h3,by rw[hl,←Paired.length a];rfl,fun i hi=>?_⟩
  obtain⟨p,hp,e1,e2,r1⟩:=fP a i (by lia)
  have ee:es[i]=entryOfKey (tupleKind (aW P w)) xs[i]:=by
   have:=entry_at h4 i
   rw[Dd (by lia),E3 hi] at this
   exact Option.some.inj this
  refine⟨.ref xs[i].2.1,p.2,⟨p.1,_,hp,rfl,e2⟩,?_,?_⟩
  ·rw[ee];rfl
  ·rw[ee];exact r1
 |_=>exact hu.elim
section
variable {prog:Program} {w:World} {A:Around} {E:Value→Shared→Prop} {s:Shared} {d it:Addr} {o:Obj} {es:Array DictEntry} {i ep:Nat}
theorem r8(hd:(d==sysModules)=false)(ho:s.heap.get? d=some o)(hc:o.ExactDict)(hdat:o.data=.dict es ep)
  (hQ:Q (.ref s.heap.objs.size) {s with heap:=s.heap.push {cls:=.type "dict_keyiterator",data:=.fields #[.ref d,.int 0 0,.int es.size 0,.int ep 0]}}):wpAny (model prog w) A (pyIter (.ref d)) Q E s:=by
 have hT:s.TypeIs (.ref d) "dict" :=⟨o,ho,hc.1⟩
 refine E4 hT F.slot_dict_iter (Dr F.slot_dict_iter hT F.entry_dict_iter ?_ (F.args_dict_iter_1 _))
 unfold Builtin.«dict.__iter__» Builtin.Dict.dictSlotNone
 refine CH (CH (E1 hT ?_))
 show wpAny _ _ (pure (Value.ref d)) _ _ s
 refine CI ?_
 show wpAny _ _ (Builtin.Dict.showsAll d>>=_) _ _ s
 unfold Builtin.Dict.showsAll
 rw[if_neg (by rw[hd];exact C0)]
 refine CH (CI (CH (DB ho hdat (CH (DV ho hdat ?_)))))
 refine CH (DA (CI ⟨_,rfl, "dict_keyiterator",_,⟨_,C4 _ rfl,rfl⟩,F.slot_dict_keyiterator_next.lookup,?_⟩))
 simpa[rawInt] using hQ
theorem tf(hit:s.heap.IsKeyIter it d i es.size ep)(hod:s.heap.get? d=some o)(hdd:o.data=.dict es ep)(hi:i<es.size)
  (hQ:∀h',h'.IsKeyIter it d (i+1) es.size ep→Heap.SameBut it s.heap h'→Q (some es[i].key) {s with heap:=h'}):wpAny (model prog w) A (pyNext (.ref it)) Q E s:=by
 obtain⟨oi,ho,hc,hd⟩:=id hit
 unfold pyNext
 refine CH (D6 (Ei (name:=Str.ofString "__next__") hit.typeIs F.slot_dict_keyiterator_next
  (Dr F.slot_dict_keyiterator_next hit.typeIs F.entry_dict_keyiterator_next ?_ (F.args_dict_keyiterator_next_1 _))))
 refine CH (CI (CH (CH ?_)))
 first|refine CH (FD hit.typeIs (CI ?_))|refine CH (FE hit.typeIs (CI ?_))
 refine CH (E5 ho hd ?_)
 simp only[show Builtin.Dict_items.ownsTuple "dict_keyiterator" =false by decide,Eh,if_false]
 show wpAny _ _ (if (Value.ref d==Value.none)=true then _ else _) _ _ s
 rw[if_neg (show¬((Value.ref d==Value.none)=true) from C0)]
 refine CH (CI (CH (DB hod hdd ?_)))
 rw[if_neg (by simp)]
 refine CH (CI (CH (DV hod hdd ?_)))
 rw[if_neg (by simp)]
 refine CI ?_
 simp only[show¬((i:Int)<0) from by lia,if_false,DQ,E3 hi]
 refine CH ?_
 first|refine CH (FD hit.typeIs (CI ?_))|refine CH (FE hit.typeIs (CI ?_))
 refine CH (wpAny_isOneOf_keyiter hit.typeIs ?_)
 show wpAny _ _ (setField (.ref it) 1 (rawInt ((i:Int)+1))>>=_) _ _ s
 refine CH (EK ho hd (by simp) ?_)
 have new:(s.heap.update it (Obj.mapFields (·.setIfInBounds 1 (rawInt ((i:Int)+1))))).IsKeyIter it d (i+1) es.size ep:=
  ⟨_,Ep _ ho (Obj.isFreed_of_fields (Obj.data_mapFields hd _)),(Obj.cls_mapFields ..).trans hc,by rw[Obj.data_mapFields hd];simp[rawInt]⟩
 refine CH (Dz (CH (wpAny_isOneOf_keyiter (s:={s with heap:=s.heap.update it (Obj.mapFields (·.setIfInBounds 1 (rawInt ((i:Int)+1))))}) new.typeIs ?_)))
 show wpAny _ _ (pure es[i].key) _ _ _
 exact CI (CI ⟨_,rfl,CI (hQ _ new (Heap.SameBut.update ..))⟩)
theorem uS(hh:A.handled=none)(hit:s.heap.IsKeyIter it d i es.size ep)(hod:s.heap.get? d=some o)(hdd:o.data=.dict es ep)(hi:es.size≤i)
  (hQ:∀h',Heap.ExtBut it s.heap h'→Q none {s with heap:=h'}):wpAny (model prog w) A (pyNext (.ref it)) Q E s:=by
 obtain⟨oi,ho,hc,hd⟩:=id hit
 unfold pyNext
 refine CH (D6 (Ei (name:=Str.ofString "__next__") hit.typeIs F.slot_dict_keyiterator_next
  (Dr F.slot_dict_keyiterator_next hit.typeIs F.entry_dict_keyiterator_next ?_ (F.args_dict_keyiterator_next_1 _))))
 refine CH (CI (CH (CH ?_)))
 first|refine CH (FD hit.typeIs (CI ?_))|refine CH (FE hit.typeIs (CI ?_))
 refine CH (E5 ho hd ?_)
 simp only[show Builtin.Dict_items.ownsTuple "dict_keyiterator" =false by decide,Eh,if_false]
 show wpAny _ _ (if (Value.ref d==Value.none)=true then _ else _) _ _ s
 rw[if_neg (show¬((Value.ref d==Value.none)=true) from C0)]
 refine CH (CI (CH (DB hod hdd ?_)))
 rw[if_neg (by simp)]
 refine CH (CI (CH (DV hod hdd ?_)))
 rw[if_neg (by simp)]
 refine CI ?_
 simp only[show¬((i:Int)<0) from by lia,if_false,DQ,Fl hi]
 refine CH ?_
 first|refine CH (FD hit.typeIs (CI ?_))|refine CH (FE hit.typeIs (CI ?_))
 show wpAny _ _ (setField (.ref it) 0 .none>>=_) _ _ s
 refine CH (EK ho hd (by simp) ?_)
 show wpAny _ _ (newExc (.type "StopIteration") []>>=_) _ _ _
 refine CH ?_
 simp only[newExc,newTuple]
 refine CH (DA ?_ (by size_fits))
 refine CH (m:=firstArgMember _ _) (wpAny_of_eq (a:=Value.none) (by first|rfl|(simp only[firstArgMember];rfl)) (DA ?_ (by size_fits)))
 simp only[raiseNew]
 refine CH (wpAny_handled ?_)
 rw[show A.in1.handled=none from hh]
 refine CH (CI (wpAny_throw ?_))
 refine CH (Eg (T:= "StopIteration") (b:=true) ⟨_,C4 _ rfl,rfl⟩ isSubtype_stop ?_)
 exact CI (hQ _ (((Heap.SameBut.update ..).extBut.push _).push _))
end
noncomputable def AF (d:Addr) (o:Obj) (u:HO):It:=
 ⟨fun i H=>H d=some (.frz o u)∧i<er u,fun i H x H'=>H'=H∧∃v,eJ H u i x v,fun i H=>H d=some (.frz o u)∧er u≤i⟩
theorem kY {h h':Heap}{it d:Addr}{i n ep:Nat}(x:h.IsKeyIter it d i n ep)(k:∀o,h.get? it=some o→h'.get? it=some o):h'.IsKeyIter it d i n ep:=let ⟨o,ho,r⟩:=x;⟨o,k _ ho,r⟩
theorem uH {P:Program}{w:World}{K:CJ}{tg:Expr}(d it:Addr)(o:Obj)(u:HO)(hu:jT u)(es:Array DictEntry)(ep:Nat)(hd:o.data=.dict es ep):
  oZ P w K tg (AF d o u) [it] it (fun i h=>h.IsKeyIter it d i es.size ep) where
 mem:=by simp
 obj:=fun i h st b hb=>by
  rw[CP.mp hb]
  obtain⟨oi,e,c,q⟩:=st
  exact⟨oi,e,fun v z=>by rw[q] at z;cases z⟩
 keep:=fun i h h' st k=>kY st fun oi e=>k it (by simp) oi e
 item:=by
  intro X hP hw hK hc i pins s σ H E I hf st hg
  subst hP hw hK
  obtain⟨hH,hi⟩:=hg
  obtain⟨_,f,_,l,m,a,hz,g⟩:=eF I.hok hH hu
  rw[hd] at a;cases a
  obtain⟨f0,f1,f2,f3,f4,f5⟩:=hf it (by simp)
  have j:i<es.size:=by lia
  obtain⟨x,v,hk,r1,r2⟩:=g i j
  refine tf st f hd j fun h' st' sb=>?_
  have I1:aL X pins σ H {s with heap:=h'}:=I.turned (t':=s.toks) (fun b ob hb e=>(sb.2 b hb).trans e) f0 f1 f3 f4 f5
  obtain⟨oi,e,c,q⟩:=id st'
  exact⟨_,rfl,pT (s:={s with heap:=h'}) e c q (by decide) ⟨x,H,I1,r1,⟨rfl,v,hk⟩,st',fun b hb=>(hf b hb).1⟩⟩
 done:=by
  intro X hP hw hK hc i pins s σ H E I hf st hg
  subst hP hw hK
  obtain⟨hH,hi⟩:=hg
  obtain⟨_,f,_,l,m,a,hz,g⟩:=eF I.hok hH hu
  rw[hd] at a;cases a
  obtain⟨f0,f1,f2,f3,f4,f5⟩:=hf it (by simp)
  exact uS (I.ok.hd hc) st f hd (by lia) fun h' eb=>⟨rfl,I.turned (t':=s.toks) (fun b ob hb e=>eb b ob hb e) f0 f1 f3 f4 f5⟩
 self:=fun A i s Q E st h=>by
  refine E4 st.typeIs F.slot_dict_keyiterator_iter (Dr F.slot_dict_keyiterator_iter st.typeIs F.entry_dict_keyiterator_iter ?_ (F.args_dict_keyiterator_iter_1 _))
  show wpAny _ _ (ret (.ref it)) _ _ s
  exact CI ⟨_,rfl, "dict_keyiterator",_,st.typeIs,F.slot_dict_keyiterator_next.lookup,h⟩
def A9 (te:TE):TI:=fun σ H R=>te σ H fun x H1=>∃d o u,x=.ref d∧H1 d=some (.frz o u)∧jT u∧R (AF d o u) H1
theorem iM(he:PE X e te):PI X tg e (A9 te):=by
 intro pins s σ H R I h
 refine bR (he pins s σ H _ I h) fun v s1 ⟨x,H1,I1,r,d,o,u,ex,hd,hu,q⟩=>?_
 subst ex
 cases(show v=Value.ref d from r)
 obtain⟨hS,c,hc,es,ep,a,hz,_⟩:=eF I1.hok hd hu
 refine r8 hS c hc a ?_
 have kk:∀b ob,s1.heap.get? b=some ob→(s1.heap.push {cls:=.type "dict_keyiterator",data:=.fields #[.ref d,.int 0 0,.int es.size 0,.int ep 0]}).get? b=some ob:=fun b ob z=>CO _ z
 refine⟨s1.heap.objs.size,[s1.heap.objs.size],_,_,H1,rfl,I1.kept (t':=s1.toks) kk,uH d _ o u hu es ep a,⟨_,C4 _ rfl,rfl,rfl⟩,fun b hb=>?_,q⟩
 rw[CP.mp hb]
 exact I1.fpOk (CM _) (I1.hok.fresh (CM _))
section
variable {prog:Program} {w:World} {A:Around} {E:Value→Shared→Prop} {s:Shared} {d it v:Addr} {o:Obj} {es:Array DictEntry} {i ep:Nat} {ok ov:Value}
theorem yh(hd:(d==sysModules)=false)(ho:s.heap.get? d=some o)(hc:o.ExactDict)
  (h:Q (.ref s.heap.objs.size) {s with heap:=s.heap.push {cls:=.type "dict_items",data:=.fields #[.ref d]}}):wpAny (model prog w) A (call (.builtin "dict.items") [.ref d]) Q E s:=by
 have hT:s.TypeIs (.ref d) "dict" :=⟨o,ho,hc.1⟩
 refine Dr F.slot_dict_items hT F.entry_dict_items ?_ (F.args_dict_items_1 _)
 unfold Builtin.«dict.items» Builtin.Dict.noArgs
 refine CH (CH (E1 hT ?_))
 show wpAny _ _ (pure d) _ _ s
 refine CI ?_
 show wpAny _ _ (Builtin.Dict.showsAll d>>=_) _ _ s
 unfold Builtin.Dict.showsAll
 rw[if_neg (by rw[hd];exact C0)]
 exact CH (CI (CH (DA (CI ⟨_,rfl,h⟩))))
theorem xQ(hv:s.heap.IsItemsView v d)(ho:s.heap.get? d=some o)(hdat:o.data=.dict es ep)
  (hQ:Q (.ref s.heap.objs.size) {s with heap:=s.heap.push {cls:=.type "dict_itemiterator",data:=.fields #[.none,.bool false,.ref d,.int 0 0,.int es.size 0,.int ep 0,.none,.none]}}):wpAny (model prog w) A (pyIter (.ref v)) Q E s:=by
 obtain⟨ob,a,c,b⟩:=id hv
 refine E4 hv.typeIs F.slot_dict_items_iter (Dr F.slot_dict_items_iter hv.typeIs F.entry_dict_items_iter ?_ (F.args_dict_items_iter_1 _))
 unfold Builtin.«dict_items.__iter__»
 refine CH (CI (CH ?_))
 unfold Builtin.Dict_items.dictOf
 refine CH (DC a b (x:=.ref d) rfl (CI (CH ?_)))
 unfold Builtin.Dict_items.newIterator
 refine CH (DB ho hdat (CH (DV ho hdat ?_)))
 simp only[show Builtin.Dict_items.ownsTuple "dict_itemiterator" =true by decide,if_true]
 refine DA (CI ⟨_,rfl, "dict_itemiterator",_,⟨_,C4 _ rfl,rfl⟩,F.slot_dict_itemiterator_next.lookup,?_⟩)
  (by simp only[sizeOk,Builtin.Dict_items.ownedTupleFields,De,C_,Dl,Ff,sizeLine_eq];lia)
 simpa[rawInt,Builtin.Dict_items.ownedTupleFields] using hQ
theorem xT(hit:IsItemIter s.heap it d i es.size ep ok ov)(hod:s.heap.get? d=some o)(hdd:o.data=.dict es ep)(hi:i<es.size)
  (hQ:∀h',IsItemIterOut h' it d (i+1) es.size ep es[i].key es[i].val s.heap.objs.size→h'.get? s.heap.objs.size=some {cls:=.type "tuple",data:=.seq #[es[i].key,es[i].val]}→h'.objs.size=s.heap.objs.size+1→
   (∀b u,b≠it→s.heap.get? b=some u→h'.get? b=some u)→Q (some (.ref s.heap.objs.size)) {s with heap:=h'}):wpAny (model prog w) A (pyNext (.ref it)) Q E s:=by
 obtain⟨hp,g,dr,tk,os⟩:=s
 have hT:Shared.TypeIs ⟨hp,g,dr,tk,os⟩ (.ref it) "dict_itemiterator" :=⟨_,hit,rfl⟩
 unfold pyNext
 refine CH (D6 (Ei (name:=Str.ofString "__next__") hT F.slot_dict_itemiterator_next
  (Dr F.slot_dict_itemiterator_next hT F.entry_dict_itemiterator_next ?_ (F.args_dict_itemiterator_next_1 _))))
 refine CH (CI (CH (CH ?_)))
 first|refine CH (FF hT (CI ?_))|refine CH (FG hT (CI ?_))
 refine CH (E5 hit rfl ?_)
 simp only[show Builtin.Dict_items.ownsTuple "dict_itemiterator" =true by decide,if_true]
 show wpAny _ _ (if (Value.ref d==Value.none)=true then _ else _) _ _ _
 rw[if_neg (show¬((Value.ref d==Value.none)=true) from C0)]
 refine CH (CI (CH (DB hod hdd ?_)))
 rw[if_neg (by simp)]
 refine CH (CI (CH (DV hod hdd ?_)))
 rw[if_neg (by simp)]
 refine CI ?_
 simp only[show¬((i:Int)<0) from by lia,if_false,DQ,E3 hi]
 refine CH ?_
 first|refine CH (FF hT (CI ?_))|refine CH (FG hT (CI ?_))
 refine CH (wpAny_isOneOf_itemiter hT ?_)
 show wpAny _ _ (setField (.ref it) 3 (rawInt ((i:Int)+1))>>=_) _ _ ⟨hp,g,dr,tk,os⟩
 refine CH (D7 hit (by simp) fun h1 e1 s1=>?_)
 replace s1:Heap.SameBut it hp h1:=s1
 replace e1:IsItemIter h1 it d (i+1) es.size ep ok ov:=by
  have e:((i+1:Nat):Int)=(i:Int)+1:=by lia
  unfold IsItemIter;rw[e];simpa[rawInt] using e1
 have c:Shared.TypeIs ⟨h1,g,dr,tk,os⟩ (.ref it) "dict_itemiterator" :=⟨_,e1,rfl⟩
 refine CH (Dz (CH (wpAny_isOneOf_itemiter c (CH (wpAny_isOneOf_itemiter c ?_)))))
 show wpAny _ _ (Builtin.Dict_items.pairFromOwner (.ref it) 6 es[i].key es[i].val) _ _ ⟨h1,g,dr,tk,os⟩
 unfold Builtin.Dict_items.pairFromOwner
 refine CH (wpAny_newTuple ?_)
 have z1:h1.objs.size=hp.objs.size:=s1.1
 have f:it<hp.objs.size:=CS hit
 obtain⟨h2,a⟩:∃h2,h1.push {cls:=.type "tuple",data:=.seq #[es[i].key,es[i].val]}=h2:=⟨_,rfl⟩
 have e2:IsItemIter h2 it d (i+1) es.size ep ok ov:=by rw[←a];exact CO _ e1
 have t2:h2.get? hp.objs.size=some {cls:=.type "tuple",data:=.seq #[es[i].key,es[i].val]}:=by rw[←a,←z1];exact C4 _ rfl
 have z2:h2.objs.size=hp.objs.size+1:=by rw[←a,DM,z1]
 have k2:∀b u,b≠it→hp.get? b=some u→h2.get? b=some u:=fun b u hb e=>by rw[←a];exact CO _ (s1.extBut b u hb e)
 rw[a,z1]
 show wpAny _ _ (Builtin.Dict_items.ownedTupleIsFree (.ref it)>>=_) _ _ ⟨h2,g,dr,tk,os⟩
 clear a e1 s1 c z1 h1
 refine CH ?_
 unfold Builtin.Dict_items.ownedTupleIsFree
 refine CH (DC e2 rfl (x:=.none) rfl (CI ?_))
 simp only[if_true]
 refine CH (DC e2 rfl (x:=ok) rfl (CH (DC e2 rfl (x:=ov) rfl ?_)))
 refine CH (D7 e2 (by simp) fun h3 e3 s3=>?_)
 replace s3:Heap.SameBut it h2 h3:=s3
 replace e3:IsItemIter h3 it d (i+1) es.size ep es[i].key ov:=e3
 refine CH (D7 e3 (by simp) fun h4 e4 s4=>?_)
 replace s4:Heap.SameBut it h3 h4:=s4
 replace e4:IsItemIter h4 it d (i+1) es.size ep es[i].key es[i].val:=e4
 refine CH (D7 e4 (by simp) fun h5 e5 s5=>?_)
 replace s5:Heap.SameBut it h4 h5:=s5
 replace e5:IsItemIterOut h5 it d (i+1) es.size ep es[i].key es[i].val hp.objs.size:=e5
 refine CH (D7 e5 (by simp) fun h6 e6 s6=>?_)
 replace s6:Heap.SameBut it h5 h6:=s6
 replace e6:IsItemIterOut h6 it d (i+1) es.size ep es[i].key es[i].val hp.objs.size:=e6
 have k6:∀b u,b≠it→h2.get? b=some u→h6.get? b=some u:=fun b u hb e=>s6.extBut b u hb (s5.extBut b u hb (s4.extBut b u hb (s3.extBut b u hb e)))
 refine CH (Et (CI (CI ⟨_,rfl,CI (hQ h6 e6 (k6 _ _ (DY f) t2) ?_ fun b u hb e=>k6 b u hb (k2 b u hb e))⟩)))
 show h6.objs.size=hp.objs.size+1
 rw[s6.1,s5.1,s4.1,s3.1,z2]
theorem Aw(hh:A.handled=none)(hit:IsItemIter s.heap it d i es.size ep ok ov)(hod:s.heap.get? d=some o)(hdd:o.data=.dict es ep)(hi:es.size≤i)
  (hQ:∀h',Heap.ExtBut it s.heap h'→Q none {s with heap:=h'}):wpAny (model prog w) A (pyNext (.ref it)) Q E s:=by
 have hT:s.TypeIs (.ref it) "dict_itemiterator" :=⟨_,hit,rfl⟩
 unfold pyNext
 refine CH (D6 (Ei (name:=Str.ofString "__next__") hT F.slot_dict_itemiterator_next
  (Dr F.slot_dict_itemiterator_next hT F.entry_dict_itemiterator_next ?_ (F.args_dict_itemiterator_next_1 _))))
 refine CH (CI (CH (CH ?_)))
 first|refine CH (FF hT (CI ?_))|refine CH (FG hT (CI ?_))
 refine CH (E5 hit rfl ?_)
 simp only[show Builtin.Dict_items.ownsTuple "dict_itemiterator" =true by decide,if_true]
 show wpAny _ _ (if (Value.ref d==Value.none)=true then _ else _) _ _ s
 rw[if_neg (show¬((Value.ref d==Value.none)=true) from C0)]
 refine CH (CI (CH (DB hod hdd ?_)))
 rw[if_neg (by simp)]
 refine CH (CI (CH (DV hod hdd ?_)))
 rw[if_neg (by simp)]
 refine CI ?_
 simp only[show¬((i:Int)<0) from by lia,if_false,DQ,Fl hi]
 refine CH ?_
 first|refine CH (FF hT (CI ?_))|refine CH (FG hT (CI ?_))
 show wpAny _ _ (setField (.ref it) 2 .none>>=_) _ _ s
 refine CH (EK hit rfl (by simp) ?_)
 show wpAny _ _ (newExc (.type "StopIteration") []>>=_) _ _ _
 refine CH ?_
 simp only[newExc,newTuple]
 refine CH (DA ?_ (by size_fits))
 refine CH (m:=firstArgMember _ _) (wpAny_of_eq (a:=Value.none) (by first|rfl|(simp only[firstArgMember];rfl)) (DA ?_ (by size_fits)))
 simp only[raiseNew]
 refine CH (wpAny_handled ?_)
 rw[show A.in1.handled=none from hh]
 refine CH (CI (wpAny_throw ?_))
 refine CH (Eg (T:= "StopIteration") (b:=true) ⟨_,C4 _ rfl,rfl⟩ isSubtype_stop ?_)
 exact CI (hQ _ (((Heap.SameBut.update ..).extBut.push _).push _))
end
theorem lJ:entryFor table "dict_itemiterator.__iter__" =some Builtin.«dict_keyiterator.__iter__»:=
 entryFor_alias (id':= "dict_keyiterator.__iter__") (by kernel_rfl) (by first|rfl|decide+kernel|(unfold String.splitOn;simp+decide [String.splitOnAux])) (by decide+kernel) (by kernel_rfl)
noncomputable def Bq (d:Addr) (o:Obj) (u:HO):It:=
 ⟨fun i H=>H d=some (.frz o u)∧i<er u,fun i H x H'=>∃p y v,H p=none∧x=.ref p∧H'=upd H p (.tup [y,v])∧eJ H u i y v,fun i H=>H d=some (.frz o u)∧er u≤i⟩
theorem rm {P:Program}{w:World}{K:CJ}{elts:List Expr}{x1:Nat}{pos:Pos}(d it:Addr)(o:Obj)(u:HO)(hu:jT u)(es:Array DictEntry)(ep:Nat)(hd:o.data=.dict es ep):
  oZ P w K (.Tuple elts x1 pos) (Bq d o u) [it] it (fun i h=>∃ok ov,IsItemIter h it d i es.size ep ok ov) where
 mem:=by simp
 obj:=fun i h st b hb=>by
  rw[CP.mp hb]
  obtain⟨ok,ov,e⟩:=st
  exact⟨_,e,fun v z=>by
   have z':Data.fields _=Data.cell v:=z
   cases z'⟩
 keep:=fun i h h' ⟨ok,ov,e⟩ k=>⟨ok,ov,k it (by simp) _ e⟩
 item:=by
  intro X hP hw hK hc i pins s σ H E I hf st hg
  subst hP hw hK
  obtain⟨hH,hi⟩:=hg
  obtain⟨ok,ov,he⟩:=st
  obtain⟨_,c,_,m,p,a,hz,f⟩:=eF I.hok hH hu
  rw[hd] at a;cases a
  have l:i<es.size:=by lia
  obtain⟨x,v,hk,r1,r2⟩:=f i l
  have j:it<s.heap.objs.size:=CS he
  have nT:s.heap.get? s.heap.objs.size=none:=El (CM _)
  refine xT he c hd l fun h' ho ht hsz hk'=>⟨_,rfl,?_⟩
  refine wpAny_letOwnedTupleGo_items (s:={s with heap:=h'}) ho fun h2 he2 sb=>?_
  replace sb:Heap.SameBut it h' h2:=sb
  have n:h2.get? s.heap.objs.size=some {cls:=.type "tuple",data:=.seq #[es[i].key,es[i].val]}:=(sb.2 _ (DY j)).trans ht
  refine⟨.ref s.heap.objs.size,upd H s.heap.objs.size (.tup [x,v]),aL.turnedLaid (s:=s) (h':=h2) (fp:=[it]) (t':=s.toks) I hf (fun b q hb e=>?_) nT ?_,rfl,⟨_,x,v,I.hok.none_of nT,rfl,rfl,hk⟩,⟨_,_,he2⟩,fun b hb=>?_⟩
  ·have g:b≠it:=fun z=>hb (by simp[z])
   exact(sb.2 b g).trans (hk' b q g e)
  ·exact⟨by show 2≤sizeLine;decide,_,.cons r1 (.cons r2 .nil),_,n,rfl,_,rfl⟩
  ·rw[CP.mp hb,aj (C6 j)];exact(hf it (by simp)).1
 done:=by
  intro X hP hw hK hc i pins s σ H E I hf st hg
  subst hP hw hK
  obtain⟨hH,hi⟩:=hg
  obtain⟨ok,ov,he⟩:=st
  obtain⟨_,c,_,m,p,a,hz,f⟩:=eF I.hok hH hu
  rw[hd] at a;cases a
  obtain⟨f0,f1,f2,f3,f4,f5⟩:=hf it (by simp)
  exact Aw (I.ok.hd hc) he c hd (by lia) fun h' eb=>⟨rfl,I.turned (t':=s.toks) (fun b ob hb e=>eb b ob hb e) f0 f1 f3 f4 f5⟩
 self:=fun A i s Q E ⟨ok,ov,he⟩ h=>by
  have hT:s.TypeIs (.ref it) "dict_itemiterator" :=⟨_,he,rfl⟩
  refine E4 hT F.slot_dict_itemiterator_iter (Dr F.slot_dict_itemiterator_iter hT lJ ?_ (F.args_dict_itemiterator_iter_1 _))
  show wpAny _ _ (ret (.ref it)) _ _ s
  exact CI ⟨_,rfl, "dict_itemiterator",_,hT,F.slot_dict_itemiterator_next.lookup,h⟩
def zq (te:TE):TI:=fun σ H R=>te σ H fun x H1=>∃d o u,x=.ref d∧H1 d=some (.frz o u)∧jT u∧R (Bq d o u) H1
theorem wW(he:PE X e te)
  (hbase:attributeBase e "items" X.env (eval e X.env)=eval e X.env:=by rfl) (hline:(apos.endLine==cpos.line)=true:=by rfl):
  PI X (.Tuple elts x1 pt) (.Call (.Attribute e "items" apos) [] [] cpos) (zq te):=by
 intro pins s σ H R I h
 refine wpAny_Call_method0_late hbase hline (bR (he pins s σ H _ I h) fun v s1 ⟨x,H1,I1,r,d,o,u,ex,hd,hu,q⟩=>?_)
 subst ex
 cases(show v=Value.ref d from r)
 obtain⟨hS,c,hc,es,ep,f,hz,_⟩:=eF I1.hok hd hu
 refine⟨"dict", "dict.items",F.plainAttrs_dict,F.slot_dict_items,F.type_dict_items,⟨o,c,hc.1⟩,fun a e2=>by cases e2;exact⟨o,c,hc.2.1⟩,Calls.callWith_builtin rfl (PySem.evalArgs_none ?_)⟩
 refine yh hS c hc ?_
 have k1:∀b ob,s1.heap.get? b=some ob→(s1.heap.push {cls:=.type "dict_items",data:=.fields #[.ref d]}).get? b=some ob:=fun b ob z=>CO _ z
 refine xQ (s:={s1 with heap:=s1.heap.push {cls:=.type "dict_items",data:=.fields #[.ref d]}}) ⟨_,C4 _ rfl,rfl,rfl⟩ (k1 _ _ c) f ?_
 have I2:=I1.kept (t':=s1.toks) k1
 refine⟨_,[(s1.heap.push {cls:=.type "dict_items",data:=.fields #[.ref d]}).objs.size],_,_,H1,rfl,I2.kept (t':=s1.toks) (fun b ob z=>CO _ z),rm d _ o u hu es ep f,⟨_,_,C4 _ rfl⟩,fun b hb=>?_,q⟩
 rw[CP.mp hb]
 exact I2.fpOk (CM _) (I2.hok.fresh (CM _))
theorem iU {d:Addr}{o:Obj}{u:HO}{g:TG}{tb:TS}{D:eK}{σ:St}{H:Hp}(Pv:Nat→St→Hp→Prop)(h0:Pv 0 σ H)(hl:∀i σ H,i≤er u→Pv i σ H→H d=some (.frz o u))
  (hs:∀i x v σ H,eJ H u i x v→i<er u→Pv i σ H→g x σ H fun σ2 H2=>tb {D with nx:=Pv (i+1),ct:=Pv (i+1),bk:=D.nx} σ2 H2) (hd:∀σ H,Pv (er u) σ H→D.nx σ H):
  ∃W:Nat→Nat→St→Hp→Prop,(∃m,W 0 m σ H)∧∀i m σ H,W i m σ H→
   ((AF d o u).stop i H∧D.nx σ H)∨((AF d o u).go i H∧∃N:St→Hp→Prop,(∀σ' H',N σ' H'→∃m',m'<m∧W (i+1) m' σ' H')∧∀x H',(AF d o u).yld i H x H'→g x σ H' fun σ2 H2=>tb {D with nx:=N,ct:=N,bk:=D.nx} σ2 H2):=by
 refine⟨fun i m σ H=>m=er u - i∧i≤er u∧Pv i σ H,⟨er u,by simp,C8 _,h0⟩,?_⟩
 rintro i m σ H ⟨rfl,hi,p⟩
 have q:=hl i σ H hi p
 by_cases hlt:i<er u
 ·refine .inr ⟨⟨q,hlt⟩,Pv (i+1),fun σ' H' p'=>⟨er u - (i+1),by lia,rfl,hlt,p'⟩,fun x H' y=>?_⟩
  obtain⟨e,v,k⟩:=y
  subst e
  exact hs i x v σ _ k hlt p
 ·have e:i=er u:=by lia
  subst e
  exact .inl ⟨⟨q,CM _⟩,hd σ H p⟩
section
variable {X:Cx}
end
section
variable {prog:Program} {w:World} {A:Around} {E:Value→Shared→Prop} {s:Shared} {d:Addr} {o:Obj} {es:Array DictEntry} {ep:Nat}
end
section
variable {X:Cx}
end
def xo (kvs:List (List cK×V)):Prop:=∀p∈kvs,∃ns:List Int,p.1=ns.map Sum.inl
theorem uE(h:ItemsAre (aW P w) ks us):ItemsAre (aW P' w') ks us:=by
 induction h with
 |nil=>exact .nil
 |cons a _ ih=>exact .cons a ih
theorem u0 {P P':Program}{w w':World}{ns:List Int}:tupleKeyHash (aW P w) (ns.map Sum.inl)=tupleKeyHash (aW P' w') (ns.map Sum.inl):=by
 unfold tupleKeyHash
 have e:∀(P:Program) (w:World),(ns.map (Sum.inl:Int→cK)).map (aW P w).hash=ns.map hashInt:=fun P w=>by rw[Dq];rfl
 rw[e,e]
theorem nk {P P':Program}{w w':World}{h:Heap}{a:Addr}{xs:List (List cK×Addr×Value)}(d:h.DictOfH (tupleKind (aW P w)) a xs)(ik:∀x∈xs,∃ns:List Int,x.1=ns.map Sum.inl):h.DictOfH (tupleKind (aW P' w')) a xs:=by
 obtain⟨o,es,ep,h1,h2,h3,h4,h5,h6⟩:=d
 refine⟨o,es,ep,h1,h2,h3,?_,fun x hx=>?_,h6⟩
 ·rw[h4]
  refine Fo fun x hx=>?_
  obtain⟨ns,e⟩:=ik x hx
  show(⟨tupleKeyHash (aW P w) x.1,_,_⟩:DictEntry)=⟨tupleKeyHash (aW P' w') x.1,_,_⟩
  rw[e,u0 (P':=P') (w':=w')]
 ·obtain⟨o',b,n,a1,a2,a3,a4⟩:=h5 x hx
  exact⟨o',b,n,a1,a2,a3,uE a4⟩
def Cf (K:CJ) (H:Hp) (v v':V):Prop:=∃a b ka kb,v=.ref a∧v'=.ref b∧a≠b∧Rd H a (.dT ka)∧Rd H b (.dT kb)∧xo ka∧xo kb∧ka.length=kb.length∧∀p∈ka,∃v,aR kb p.1=some v∧AQ K H p.2 v
theorem yE{pins:List (Addr×Obj)}(I:aL X pins σ H s)(h:Cf X.K H v v')(r:aT v u)(r':aT v' u')(hu:A.units+62<cLine):SeqAt.EqAt A s u u' true:=by
 obtain⟨a,b,ka,kb,rfl,rfl,ne,ha,hb,ia,ib,hl,hs⟩:=h
 cases(show u=Value.ref a from r)
 cases(show u'=Value.ref b from r')
 obtain⟨_,ma,va,ra,da⟩:=iH I.hok ha
 obtain⟨_,mb,vb,rb,db⟩:=iH I.hok hb
 have ik:∀{ks:List (List cK×V)} {vs:List (List cK×Addr×Value)},KT H ks vs→xo ks→∀x∈vs,∃ns:List Int,x.1=ns.map Sum.inl:=fun rel i x hx=>by
  obtain⟨p,hp,e,_⟩:=lH rel x hx
  obtain⟨ns,z⟩:=i p hp
  exact⟨ns,by rw[←e,z]⟩
 refine SeqAt.EqAt.of_refs ne fun prog w E Q q=>?_
 exact zp (prog:=prog) (w:=w) (knd:=tupleKind (aW prog w)) (tupleKind_room_in1 (by lia)) (by lia) ma mb (nk da (ik ra ia)) (nk db (ik rb ib)) (by rw[←Paired.length ra,←Paired.length rb,hl])
  (Av I ra rb (show A.units+1+60<cLine by lia) hs) q
section
variable {X:Cx}
theorem g0:∀{xs:List V} {us:List Value} (_:bh xs us) (i:Nat) (hi:i<us.length),aT (xs.getD i .non) us[i]
 |_,_,.nil,i,hi=>absurd hi (EZ _)
 |_,_,.cons r _,0,_=>r
 |_,_,.cons _ t,i+1,hi=>by simpa using g0 t i (by simpa using hi)
theorem vR (n:Nat):((List.range n).all fun _=>true)=true:=by simp
end
section
variable {prog:Program} {w:World} {A:Around} {E:Value→Shared→Prop} {s:Shared}
end
section
variable {prog:Program} {w:World} {A:Around} {R:Result→Shared→Prop} {I:Addr} {fp wr:List Addr} {G:Array GenState→Array GenState→Prop} {n:Nat} {P:Nat→Value→Prop} {St:Nat→Shared→Prop}
end
noncomputable def zh (k:List Int):Int:=reduceHash (Builtin.Tuple.tupleHashOf (k.map hashInt))
section
variable {X:Cx} {C:Addr} {k:Nat} {ps:List Str} {sp:Sp} {m:Str} {pos apos:Pos} {e o:Expr} {es:List Expr} {t:TA}
end
structure xv (K:CJ) (x qual:Str) (st:Stmt) (f:Addr) (fd:FuncData):Prop where
 ex:∃(oc:Value) (od:Option Addr) (dV kV doc pm:Value) (an:Option Addr) (cdv ct:Value) (osl:Array (Option Value)),
  fd=CT x qual (aG st) (aE st) (au st) dV kV doc pm an cdv ct∧K.lookup f=some ⟨oc,od,.func fd,osl⟩∧C1 K cdv qual=true
section
variable {P:Program} {w:World} {K:CJ} {mg:Str→Option Value} {base:Heap}
theorem xv.ok{st:Stmt}(F:xv K x qual st f fd)(S:aM N ps (au st))(len:∀vs H Q E,sp vs H Q E→vs.length=ps.length)
  (hbody:∀(cdv:Value) (A:Around) (outer:List Env) (s:Shared) (H:Hp) (vs:List V) (Q:VK) (E:XK),bj k (A.deeper (envOfC qual (au st) s.heap.objs.size f cdv))→sp vs H Q E→
   ∃t,sG (mz dw P w K mg base N qual (au st) f cdv A outer s H E).nox (aE st) t∧t {nx:=fun _ H'=>Q .non H',rt:=Q} (start N vs) H):bJ P w K mg base dw (k+1) f fd ps sp:=by
 obtain⟨oc,od,dV,kV,b,pm,an,cdv,ct,c,rfl,lk,a⟩:=F.ex
 refine zf lk a S len fun A outer s H vs Q E hr hsp=>?_
 obtain⟨t,h,q⟩:=hbody cdv A outer s H vs Q E hr hsp
 exact⟨t,h.nox,q⟩
theorem yW{st:Stmt}{osl:Array (Option Value)}{kV:Value}(l:K.lookup f=some ⟨oc,od,.func (CT x qual (aG st) (aE st) (au st) dV kV doc pm an cdv ct),osl⟩)
  (c:C1 K cdv qual=true):xv K x qual st f (CT x qual (aG st) (aE st) (au st) dV kV doc pm an cdv ct):=⟨⟨oc,od,dV,kV,doc,pm,an,cdv,ct,osl,rfl,l,c⟩⟩
end
theorem lE:isSubtype (.type "AttributeError") (.type "AttributeError")=pure true:=by rw[isSubtype_type];kernel_rfl
section
variable {prog:Program} {w:World} {A:Around} {h:Heap} {g:Array GenState} {d:Drawn} {t:Nat} {os:OsState} {a:Addr}
abbrev AU (T:Addr):Obj:={cls:=.type "AttributeError",data:=.fields #[.ref T,.none,.none,.none,.bool false,.none,unsetMember,unsetMember]}
theorem tM{Q:Unit→Shared→Prop}(hx:h.get? e=some (AU T))
  (hq:∀h',Heap.SameBut e h h'→Shared.TypeIs ⟨h',g,d,t,os⟩ (.ref e) "AttributeError" →Q () ⟨h',g,d,t,os⟩):wpAny (model prog w) A (noteAttr (.ref e) (.ref a) nm) Q E ⟨h,g,d,t,os⟩:=by
 have hT:(⟨h,g,d,t,os⟩:Shared).TypeIs (.ref e) "AttributeError" :=⟨_,hx,rfl⟩
 unfold noteAttr lacksNameAndObj
 refine CH (CH (Eg hT lE ?_))
 rw[if_neg (by decide)]
 refine CH (wpAny_load hx ?_)
 dsimp only
 rw[if_neg (by with_unfolding_all exact C0),if_neg (by with_unfolding_all exact C0)]
 refine CI ?_
 rw[if_pos rfl]
 refine CH (D8 (CH (E2 hT ?_)))
 dsimp only
 unfold layMembers
 refine CH (wpAny_load hx ?_)
 dsimp only
 refine wpAny_update hx ?_
 refine hq _ (Heap.SameBut.update ..) ⟨_,Ep _ hx (by rfl),by rfl⟩
theorem qG {α:Type}{Q:α→Shared→Prop}(hh:A.handled=none)(hm:msg.length≤sizeLine)
  (hE:∀e h' tk,(∀b u,h.get? b=some u→h'.get? b=some u)→Shared.TypeIs ⟨h',g,d,tk,os⟩ (.ref e) "AttributeError" →E (.ref e) ⟨h',g,d,tk,os⟩):
  wpAny (model prog w) A (raiseAttrError (.ref a) name msg) Q E ⟨h,g,d,t,os⟩:=by
 unfold raiseAttrError
 refine CH (wpAny_mkStr (hx:=hm) ?_)
 refine CH ?_
 simp only[newExc,newTuple]
 refine CH (DA ?_ (by size_fits))
 refine CH (m:=firstArgMember _ _) (wpAny_of_eq (a:=Value.none) (by first|rfl|(simp only[firstArgMember];rfl)) ?_)
 refine DA ?_ (by first|size_fits|decide)
 refine CH (wpAny_mkText (CH ?_))
 have e1:h.objs.size<(h.push {cls:=.type "tuple",data:=.seq #[Value.str msg t]}).objs.size:=by rw[DM];exact Fc _
 have k1:∀b u,h.get? b=some u→(h.push {cls:=.type "tuple",data:=.seq #[Value.str msg t]}).get? b=some u:=fun b u z=>CO _ z
 revert e1 k1
 show _→_→wpAny _ _ (noteAttr (.ref (h.push {cls:=.type "tuple",data:=.seq #[Value.str msg t]}).objs.size) (.ref a) (.str name (t+1))) _ _ ⟨(h.push {cls:=.type "tuple",data:=.seq #[Value.str msg t]}).push (AU h.objs.size),g,d,t+1+1,os⟩
 generalize h.push {cls:=.type "tuple",data:=.seq #[Value.str msg t]}=h1
 intro e1 k1
 refine tM (C4 _ rfl) fun h' sb hT=>?_
 simp only[raiseNew]
 refine CH (wpAny_handled ?_)
 rw[hh]
 refine CH (CI (wpAny_throw ?_))
 exact hE _ h' _ (fun b u z=>by
  have z1:=k1 b u z
  rw[sb.2 b (C6 (CS z1))]
  exact CO _ z1) hT
theorem yy{Q:Fin→Shared→Prop}(hh:A.handled=none)(hx:h.get? a=some {cls:=.type "list",data:=.seq items n})
  (hE:∀e h' tk,(∀b u,h.get? b=some u→h'.get? b=some u)→Shared.TypeIs ⟨h',g,d,tk,os⟩ (.ref e) "AttributeError" →E' (.ref e) ⟨h',g,d,tk,os⟩):
  wpAny (model prog w) A (Builtin.«object.__getattribute__» ⟨[.ref a,.str "keys" tk],[]⟩) Q E' ⟨h,g,d,t,os⟩:=by
 have hT:(⟨h,g,d,t,os⟩:Shared).TypeIs (.ref a) "list" :=⟨_,hx,rfl⟩
 have f4:typeLookup (.type "list") "keys" =pure none:=by rw[typeLookup_type,builtinLookup_eq_fast];kernel_rfl
 repeat (any_goals (first|assumption|wp_step))
 exact qG hh (by decide+kernel) hE
theorem yQ(hh:A.handled=none)(hx:h.get? a=some {cls:=.type "list",data:=.seq items n})
  (hq:∀h' tk,(∀b u,h.get? b=some u→h'.get? b=some u)→Q none ⟨h',g,d,tk,os⟩):wpAny (model prog w) A (getAttr? (.ref a) "keys") Q E ⟨h,g,d,t,os⟩:=by
 have hT:(⟨h,g,d,t,os⟩:Shared).TypeIs (.ref a) "list" :=⟨_,hx,rfl⟩
 have c:(⟨h,g,d,t+1,os⟩:Shared).TypeIs (.ref a) "list" :=⟨_,hx,rfl⟩
 have f2:=F.slot_list_getattribute.lookup
 have f3:=F.slot_list_getattribute.bind (.ref a)
 have f5:typeLookup (.type "list") "__getattr__" =pure none:=by rw[typeLookup_type,builtinLookup_eq_fast];kernel_rfl
 unfold getAttr? getAttrBy?
 refine CH (wpAny_mkText (CH (D6 ?_)))
 unfold getAttrBy
 refine Dz (CH (E2 c ?_))
 rw[f2]
 refine CH (CI ?_)
 dsimp only
 rw[if_neg (by decide)]
 unfold getAttrByItsOwn hookBefore
 rw[if_neg (by decide)]
 refine CH (CI (CH (D6 (Dz ?_))))
 unfold callGetattribute
 rw[if_neg (by decide)]
 unfold boundAndCalled
 rw[f3]
 refine CH (CI ?_)
 show wpAny _ _ (call (.builtin "list.__getattribute__") [.ref a,.str "keys" t]) _ _ _
 refine wpAny_call (codeAny_call_builtin F.slot_list_getattribute.plain F.entry_list_ga (F.slot_list_getattribute.check _ _ _ _ _ _ _ _ c (F.args_list_getattribute_2 _ _) (yy (show A.in1.handled=none from hh) hx fun e h' tk keep hTe=>?_)))
 show wpAny _ _ (getattributeRaised (.ref a) (.str "keys" t) (.type "list") (.ref e) none false false) _ _ _
 unfold getattributeRaised hookBehind
 refine CH (Eg hTe lE ?_)
 rw[if_pos rfl,if_neg (by decide),f5]
 refine CH (CI ?_)
 show wpAny _ _ (attributeErrorLeaves (.ref a) (.str "keys" t) (.ref e) false false) _ _ _
 unfold attributeErrorLeaves
 dsimp only
 rw[if_pos (show(!false)=true from rfl)]
 refine CH (wpAny_throw (CH (Eg hTe lE ?_)))
 rw[if_pos rfl]
 exact CI (hq _ _ keep)
end
theorem nQ:entryFor table "dict.update.loop" =some Builtin.«dict.update.loop»:=entryFor_of_tree (by kernel_rfl)
theorem gQ:plainId "dict.update.loop" =true:=by decide+kernel
def ng (h:Heap) (p k:Addr) (v:Value):Prop:=∃o c,h.get? p=some o∧o.cls=.type "tuple" ∧o.data=.seq #[.ref k,v] c
section
variable {prog:Program} {w:World} {A:Around} {R:Result→Shared→Prop} {I:Addr} {fp wr:List Addr} {G:Array GenState→Array GenState→Prop} {n:Nat} {P:Nat→Value→Prop} {St:Nat→Shared→Prop} {K:Type} [DecidableEq K]
theorem qW (W:WalksS prog w A.in1 I fp wr G n P St)(D:Addr)(hDf:D∉fp)(knd:HeapKind prog w K)(hroom:knd.room A.in1)(ad ka:Nat→Addr)(key:Nat→K)(vv:Nat→Value)(hval:∀i v,P i v→v=.ref (ad i))
  (had:∀i,i<n→ad i≠D∧ad i∉wr) (hks:∀i,i<n→∀h h':Heap,(∀b o,b≠D→b∉wr→h.get? b=some o→h'.get? b=some o)→knd.is h (key i) (ka i)→knd.is h' (key i) (ka i))
  (xs:Nat→List (K×Addr×Value)) (hstep:∀i,i<n→xs (i+1)=storedH (xs i) (key i) (ka i) (vv i)) (hlen:∀i,i≤n→(xs i).length≤sizeLine)
  (hkx:∀(i:Nat),i≤n→∀(h h':Heap),(∀b o,b∉wr→h.get? b=some o→h'.get? b=some o)→h.DictOfH knd D (xs i)→h'.DictOfH knd D (xs i)):
  ∀(k i:Nat) (ti:Tok) (s:Shared),n - i=k→i≤n→St i s→(∀j,j<n→ng s.heap (ad j) (ka j) (vv j)∧knd.is s.heap (key j) (ka j))→s.heap.DictOfH knd D (xs i)→
   (∀s',Moved (D::wr) G s s'→s'.heap.DictOfH knd D (xs n)→R (.ok (.ret .none)) s')→
   codeAny (model prog w) A (.builtin "dict.update.loop" ⟨[.ref D,.ref I,.int (i:Nat) ti,.none],[]⟩) R s:=by
 have g:D∉wr:=fun h=>hDf (W.sub _ h)
 have more:∀b∈wr,b∈D::wr:=fun b hb=>Dh _ hb
 intro k
 induction k with
 |zero=>
  intro i ti s hk hi hst ht hD hR
  obtain rfl:i=n:=by lia
  refine codeAny_builtin nQ ?_
  rw[Around.under_plainId gQ _]
  show wpAny _ A.in1 (pyNext (.ref I)>>=_) _ _ s
  refine CH (W.done s _ _ hst fun s' hm=>?_)
  show wpAny _ _ (Builtin.Dict.addKeywords D []>>=_) _ _ _
  refine CH ?_
  unfold Builtin.Dict.addKeywords
  refine CI (CI (hR s' (hm.mono more) (hkx _ hi _ _ (fun b o hb e=>hm.heap b o hb e) hD)))
 |succ k ih=>
  intro i ti s hk hi hst ht hD hR
  have a:i<n:=by lia
  refine codeAny_builtin nQ ?_
  rw[Around.under_plainId gQ _]
  show wpAny _ A.in1 (pyNext (.ref I)>>=_) _ _ s
  refine CH (W.item i s _ _ a hst fun v s' hP hst' hm=>?_)
  obtain rfl:=hval i v hP
  have d:∀j,j<n→ng s'.heap (ad j) (ka j) (vv j)∧knd.is s'.heap (key j) (ka j):=fun j hj=>by
   obtain⟨⟨o,c,h1,h2⟩,h3⟩:=ht j hj
   exact⟨⟨o,c,hm.heap _ o (had j hj).2 h1,h2⟩,hks j hj _ _ (fun b o _ hb e=>hm.heap b o hb e) h3⟩
  have f:=hkx i hi _ _ (fun b o hb e=>hm.heap b o hb e) hD
  obtain⟨⟨o,c,h1,h2,h3⟩,h4⟩:=d i a
  have hT:s'.TypeIs (.ref (ad i)) "tuple" :=⟨o,h1,h2⟩
  refine CH (Dz (CH (wpAny_tryCatch ?_)))
  unfold Builtin.Dict.pairItems
  refine CH (E2 hT ?_)
  rw[if_pos (by decide)]
  refine CH ?_
  unfold seqItems?
  refine CH (wpAny_load h1 ?_)
  rw[h3]
  refine CI (CI ?_)
  show wpAny _ _ (holding [Value.ref (ka i),vv i] (dictSet D (.ref (ka i)) (vv i))) _ _ _
  refine Dz (wpAny_dictSet_heap hroom h4 f (fun h' hd' sb=>?_) (hlen i hi))
  refine CI ⟨plainId_quiet gQ _,?_⟩
  have e:((i:Nat):Int)+1=((i+1:Nat):Int):=by lia
  show codeAny _ _ (.builtin "dict.update.loop" ⟨[.ref D,.ref I,.int (((i:Nat):Int)+1) 0,.none],[]⟩) _ _
  rw[e]
  refine ih (i+1) _ _ (by lia) a (W.frame _ s' _ _ hst' (EL _ _) fun b hb o q=>?_) (fun j hj=>?_) (by rw[hstep i a];exact hd') fun s'' hm'' hD''=>?_
  ·rw[sb.2 b (fun z=>hDf (z▸hb))];exact q
  ·obtain⟨⟨o,c,q1,q2⟩,q3⟩:=d j hj
   refine⟨⟨o,c,?_,q2⟩,hks j hj _ _ (fun b o hb _ q=>?_) q3⟩
   ·rw[sb.2 _ (had j hj).1];exact q1
   ·rw[sb.2 b hb];exact q
  ·refine hR s'' (Moved.trans W.gtrans ((hm.mono more).then_heap (EL _ _) fun b o hb q=>?_) hm'') hD''
   rw[sb.2 b (fun z=>hb (by rw[z];exact Dk))];exact q
end
theorem ph {K:Type} [DecidableEq K]{xs:List (K×Addr×Value)}{k:K}{a:Addr}{v:Value}{P:Addr→Prop}(h:∀x∈xs,P x.2.1)(ha:P a):∀x∈storedH xs k a v,P x.2.1:=by
 unfold storedH
 split
 ·intro x hx
  obtain⟨y,hy,rfl⟩:=CU.mp hx
  unfold putAt
  split
  ·exact h y hy
  ·exact h y hy
 ·intro x hx
  rcases Dm.mp hx with hx|hx
  ·exact h x hx
  ·rw[CP.mp hx];exact ha
theorem qw {K:Type} [DecidableEq K]{xs:List (K×Addr×Value)}{k:K}{a:Addr}{v:Value}:(storedH xs k a v).length≤xs.length+1:=by
 unfold storedH
 split
 ·rw[CK];lia
 ·simp
noncomputable def nP {K:Type} [DecidableEq K] (key:Nat→K) (ka:Nat→Addr) (vv:Nat→Value):Nat→List (K×Addr×Value)
 |0=>[]
 |i+1=>storedH (nP key ka vv i) (key i) (ka i) (vv i)
theorem mT {K:Type} [DecidableEq K]{key:Nat→K}{ka:Nat→Addr}{vv:Nat→Value}{P:Addr→Prop}:∀(i:Nat),(∀j,j<i→P (ka j))→∀x∈nP key ka vv i,P x.2.1
 |0,_=>fun _ h=>nomatch h
 |i+1,h=>ph (mT i fun j hj=>h j (by lia)) (h i (Fc _))
theorem m8 {K:Type} [DecidableEq K]{key:Nat→K}{ka:Nat→Addr}{vv:Nat→Value}:∀(i:Nat),(nP key ka vv i).length≤i
 |0=>CM _
 |i+1=>Df qw (Nat.succ_le_succ (m8 i))
section
variable {prog:Program} {w:World} {A:Around} {E:Value→Shared→Prop} {s:Shared} {K:Type} [DecidableEq K]
theorem jY {l:Addr}{as:List Addr}{c:Nat}{Q:Value→Shared→Prop}(hh:A.handled=none)(hl:s.heap.get? l=some {cls:=.type "list",data:=.seq (as.map Value.ref).toArray c})
  (knd:HeapKind prog w K) (hroom:knd.room A.in1.in1) (ka:Nat→Addr) (key:Nat→K) (vv:Nat→Value) (hp:∀j,j<as.length→ng s.heap (as.getD j 0) (ka j) (vv j)∧knd.is s.heap (key j) (ka j)∧ka j<s.heap.objs.size)
  (hks:∀(h h':Heap) (k:K) (b:Addr),(∀o,h.get? b=some o→h'.get? b=some o)→knd.is h k b→knd.is h' k b) (hz:as.length≤sizeLine)
  (h:∀(h':Heap) (tk:Nat),h'.DictOfH knd s.heap.objs.size (nP key ka vv as.length)→(∀b o,s.heap.get? b=some o→h'.get? b=some o)→Q (.ref s.heap.objs.size) {s with heap:=h',toks:=tk}):
  wpAny (model prog w) A (call (.type "dict") [.ref l]) Q E s:=by
 refine callType_codes (Q₁:=fun v s₁=>v=.ref s.heap.objs.size∧s₁={s with heap:=s.heap.push {cls:=.type "dict",data:=.dict #[]}}) F.kt_called_dict (F.kt_typeCall_dict_1 _) F.entry_dict_init (kt_code_dict_new _ ⟨rfl,rfl⟩) ?_
 rintro v s₁ ⟨rfl,rfl⟩
 have a:∀b u,s.heap.get? b=some u→(s.heap.push {cls:=.type "dict",data:=.dict #[]}).get? b=some u:=fun b u x=>CO _ x
 have nT:Shared.TypeIs {s with heap:=s.heap.push {cls:=.type "dict",data:=.dict #[]}} (.ref s.heap.objs.size) "dict" :=⟨_,C4 _ rfl,rfl⟩
 have lT:Shared.TypeIs {s with heap:=s.heap.push {cls:=.type "dict",data:=.dict #[]}} (.ref l) "list" :=⟨_,a _ _ hl,rfl⟩
 have d0:(s.heap.push {cls:=.type "dict",data:=.dict #[]}).get? s.heap.objs.size=some {cls:=.type "dict",data:=.dict #[]}:=C4 _ rfl
 have p:(s.heap.push {cls:=.type "dict",data:=.dict #[]}).objs.size=s.heap.objs.size+1:=DM ..
 revert a nT lT d0 p
 generalize s.heap.push {cls:=.type "dict",data:=.dict #[]}=h0
 intro a nT lT d0 p
 refine⟨nT,F.args_dict_init_2 _ _,?_⟩
 unfold Builtin.«dict.__init__»
 refine CH ?_
 unfold Builtin.Dict.selfAndRest
 refine CH (E1 nT ?_)
 show wpAny _ _ (pure (s.heap.objs.size,[Value.ref l])) _ _ _
 refine CI ?_
 show wpAny _ _ (Builtin.Dict.updateFrom "dict.__init__" s.heap.objs.size (.ref l) [] .none) _ _ _
 unfold Builtin.Dict.updateFrom
 refine CH (E2 lT ?_)
 rw[if_pos (by decide)]
 refine CH (yQ (show A.in1.in1.handled=none from hh) (a _ _ hl) fun h1 tk1 keep1=>?_)
 rw[if_pos (show(none:Option Value).isNone=true from rfl)]
 refine CH (D8 (CH ?_))
 have n:h1.get? l=some {cls:=.type "list",data:=.seq (as.map Value.ref).toArray c}:=keep1 _ _ (a _ _ hl)
 have m:h1.IsList l (as.map Value.ref).toArray:=⟨_,n,rfl,c,rfl⟩
 refine wpAny_pyIter_list m (CI ⟨plainId_quiet gQ _,?_⟩)
 have f:s.heap.objs.size+1≤h1.objs.size:=CS (keep1 _ _ d0)
 have C:l<s.heap.objs.size:=CS hl
 have H:l≠h1.objs.size:=C6 (CS n)
 have nD:s.heap.objs.size∉[h1.objs.size,l]:=fun z=>by
  rcases CV.mp z with z|z
  ·exact absurd z (C6 (Nat.lt_of_succ_le f))
  ·exact absurd (CP.mp z) (DY C)
 have nI:∀{b:Addr},b<s.heap.objs.size→b∉[h1.objs.size]:=fun hb z=>absurd (CP.mp z) (C6 (Dv hb (Nat.le_of_succ_le f)))
 have d:∀{b:Addr} {o:Obj},s.heap.get? b=some o→b<s.heap.objs.size:=fun e=>CS e
 have I:A.in1.in1.handled=none:=by simpa using hh
 refine qW (A:=A.in1) ((Walks.list I _ l H (as.map Value.ref).toArray).toS) s.heap.objs.size nD knd hroom (fun i=>as.getD i 0) ka key vv (fun i v hv=>?_) (fun i hi=>?_) (fun i hi g g' hg z=>?_) (nP key ka vv) (fun i _=>rfl) (fun i hi=>Df (m8 i) (Df hi (by simpa using hz))) (fun i hi g g' hg z=>?_)
  ((as.map Value.ref).toArray.size - 0) 0 0 _ (by lia) (C8 _) ⟨⟨_,C4 _ rfl,rfl,rfl⟩,m.push _⟩ (fun j hj=>?_) ?_ fun s' hm hD'=>?_
 ·have r:(as.map Value.ref).toArray[i]?=some v:=hv
  rw[List.getElem?_toArray,CW] at r
  obtain⟨x,hx,rfl⟩:=Do.mp r
  show _=Value.ref (as.getD i 0)
  rw[Dc,hx];rfl
 ·obtain⟨⟨o,c',q1,_⟩,_⟩:=hp i (by simpa using hi)
  exact⟨C6 (d q1),nI (d q1)⟩
 ·obtain⟨_,_,q3⟩:=hp i (by simpa using hi)
  exact hks _ _ _ _ (fun o q=>hg _ o (C6 q3) (nI q3) q) z
 ·obtain⟨o,es,ep,a1,a2,a3,a4,a5,a6⟩:=z
  refine⟨o,es,ep,hg _ _ (fun y=>absurd (CP.mp y) (C6 (Nat.lt_of_succ_le f))) a1,a2,a3,a4,fun x hx=>hks _ _ _ _ (fun o q=>hg _ o (nI (mT (P:=fun b=>b<s.heap.objs.size) i (fun j hj=>(hp j (by have:=hi;simp at this;lia)).2.2) x hx)) q) (a5 x hx),a6⟩
 ·obtain⟨⟨o,c',q1,q2⟩,q3,q4⟩:=hp j (by simpa using hj)
  have up:∀b u,s.heap.get? b=some u→(h1.push {cls:=.type "list_iterator",data:=.fields #[.ref l,.int 0 0]}).get? b=some u:=fun b u z=>CO _ (keep1 _ _ (a _ _ z))
  exact⟨⟨o,c',up _ _ q1,q2⟩,hks _ _ _ _ (fun o q=>up _ o q) q3⟩
 ·exact⟨_,#[],0,CO _ (keep1 _ _ d0),⟨rfl,rfl,rfl⟩,rfl,rfl,(fun _ z=>nomatch z),EI⟩
 ·obtain⟨h',g',d',B,D⟩:=s'
  obtain rfl:g'=s.gens:=hm.gens
  obtain rfl:d'=s.drawn:=hm.drawn
  obtain rfl:D=s.os:=hm.os
  refine⟨rfl,h h' B (by simpa using hD') fun b o e=>hm.heap b o (fun z=>?_) (CO _ (keep1 _ _ (a _ _ e)))⟩
  rcases CV.mp z with z|z
  ·exact absurd z (C6 (d e))
  ·exact nI (d e) z
end
abbrev si (H:Hp) (as:List Addr) (kvs:List (List cK×V)):Prop:=Paired (fun a (kv:List cK×V)=>∃b,H a=some (.tup [.ref b,kv.2])∧H b=some (.tup (kv.1.map kV))) as kvs
noncomputable def w8 (kvs:List (List cK×V)):List (List cK×V):=kvs.foldl (fun acc kv=>bF acc kv.1 kv.2) []
theorem l_ {kvs:List (List cK×V)}{p:List cK×V}:w8 (kvs++[p])=bF (w8 kvs) p.1 p.2:=by unfold w8;rw[List.foldl_append];rfl
theorem xX {kvs:List (List cK×V)}:(w8 kvs).length≤kvs.length:=by
 have all:∀(l acc:List (List cK×V)),(l.foldl (fun acc kv=>bF acc kv.1 kv.2) acc).length≤acc.length+l.length:=by
  intro l
  induction l with
  |nil=>intro acc;exact CM _
  |cons a r ih=>
   intro acc
   have h1:=ih (bF acc a.1 a.2)
   have h2:=gr acc a.1 a.2
   rw[List.foldl_cons,Dl]
   lia
 have h:=all kvs []
 unfold w8
 simpa using h
theorem fZ(hc:X.calm=true){k:Nat}(hr:bj k X.A):dO X (.type "dict") (fun xs H Q=>∃(l:Addr) (as:List Addr) (kvs:List (List cK×V)),xs=[.ref l]∧H l=some (.lst (as.map V.ref))∧si H as kvs∧∀p,H p=none→Q (.ref p) (upd H p (.dT (w8 kvs)))):=by
 intro pins s σ H xs us Q I r h
 obtain⟨l,as,kvs,rfl,hl,hp,q⟩:=h
 obtain⟨u,rfl,ru⟩:=iZ r
 cases ru
 obtain⟨hz,w,c,rv,f⟩:=I.hok l _ hl
 obtain rfl:=fk rv
 have hu:=hr.units
 have len:as.length=kvs.length:=Paired.length hp
 have ex:∀j,∃(b:Addr) (u:Value),j<as.length→ng s.heap (as.getD j 0) b u∧H b=some (.tup ((kvs.getD j ([],.non)).1.map kV))∧aT (kvs.getD j ([],.non)).2 u:=fun j=>by
  by_cases hj:j<as.length
  ·have e:j<kvs.length:=by lia
   obtain⟨a,ha,b,h1,h2⟩:=fP hp j e
   obtain⟨_,ii,rr,o,ho,m,n,hd⟩:=I.hok a _ h1
   obtain⟨u1,u2,rfl,r1,r2⟩:=g_ rr
   cases(show u1=Value.ref b from r1)
   refine⟨b,u2,fun _=>?_⟩
   have e1:as.getD j 0=a:=by rw[Dc,ha];rfl
   have e2:kvs.getD j ([],.non)=kvs[j]:=by rw[Dc,Dd e];rfl
   rw[e1,e2]
   exact⟨⟨o,n,ho,m,hd⟩,h2,r2⟩
  ·exact⟨0,.none,fun z=>absurd z hj⟩
 obtain⟨ka,hka⟩:∃ka:Nat→Addr,∀j,∃u:Value,j<as.length→ng s.heap (as.getD j 0) (ka j) u∧H (ka j)=some (.tup ((kvs.getD j ([],.non)).1.map kV))∧aT (kvs.getD j ([],.non)).2 u:=⟨fun j=>Classical.choose (ex j),fun j=>Classical.choose_spec (ex j)⟩
 obtain⟨vv,hvv⟩:∃vv:Nat→Value,∀j,j<as.length→ng s.heap (as.getD j 0) (ka j) (vv j)∧H (ka j)=some (.tup ((kvs.getD j ([],.non)).1.map kV))∧aT (kvs.getD j ([],.non)).2 (vv j):=⟨fun j=>Classical.choose (hka j),fun j=>Classical.choose_spec (hka j)⟩
 have kt:∀i,i≤as.length→KT H (w8 (kvs.take i)) (nP (fun j=>(kvs.getD j ([],.non)).1) ka vv i):=by
  intro i
  induction i with
  |zero=>intro _;exact .nil
  |succ i ih=>
   intro hi
   obtain⟨_,h2,h3⟩:=hvv i hi
   have v:i<kvs.length:=by lia
   have e2:kvs[i]?=some (kvs.getD i ([],.non)):=by rw[Dc,Dd v];rfl
   have et:kvs.take (i+1)=kvs.take i++[kvs.getD i ([],.non)]:=by rw[List.take_succ,e2];rfl
   rw[et,l_]
   exact KT.put (ih (by lia)) _ h2 h3
 refine jY (I.ok.hd hc) f (tupleKind (aW X.prog X.w)) (show X.A.units+1+1<cLine by lia) ka (fun j=>(kvs.getD j ([],.non)).1) vv (fun j hj=>?_) (fun g g' k b hg z=>?_) (by simpa using hz) fun h' tk hd hk=>?_
 ·obtain⟨h1,h2,_⟩:=hvv j hj
  exact⟨h1,ic I.hok h2,I.hok.lt h2⟩
 ·obtain⟨o,d,n,z1,z2⟩:=z
  exact⟨o,d,n,hg o z1,z2⟩
 ·have kn:=kt as.length (CM _)
  rw[len,DR] at kn
  rw[len] at hd
  obtain⟨o,es,ep,h1,h2,h3,h4,h5,h6⟩:=hd
  have fr:H s.heap.objs.size=none:=I.hok.fresh (CM _)
  refine⟨.ref s.heap.objs.size,_,I.laid (a:=s.heap.objs.size) (o:=.dT (w8 kvs)) (t':=tk) hk (CM _) ⟨Df xX (by rw[←len];simpa using hz),beq_eq_false_iff_ne.mpr (CQ (C6 I.big)),_,kn.keeps fun b ys z=>?_,o,es,ep,h1,h2,h3,h4,h6⟩,rfl,q _ fr⟩
  rw[aj (ak z fr)];exact z
structure Nx (prog:Program) (w:World) (A:Around) (it src:Addr) (vals:Array Value) (St:Nat→Heap→Prop):Prop where
 obj:∀i h,St i h→∃o vs,h.get? it=some o∧o.data=.fields vs∧o.cls≠.type "zip" ∧∃o',h.get? src=some o'
 keep:∀i h h',St i h→(∀o,h.get? it=some o→h'.get? it=some o)→(∀o,h.get? src=some o→h'.get? src=some o)→St i h'
 item:∀(i:Nat) (s:Shared) (Q:Value→Shared→Prop) (E:Value→Shared→Prop) (x:Value),St i s.heap→vals[i]?=some x→(∀h',St (i+1) h'→Heap.SameBut it s.heap h'→Q x {s with heap:=h'})→wpAny (model prog w) A (Builtin.SmallTypes.nextOf (.ref it)) Q E s
 done:∀(i:Nat) (s:Shared) (Q:Value→Shared→Prop) (E:Value→Shared→Prop),A.handled=none→St i s.heap→vals[i]?=none→
  (∀h' e,Heap.ExtBut it s.heap h'→(∃o,h'.get? e=some o∧o.cls=.type "StopIteration")→E (.ref e) {s with heap:=h'})→wpAny (model prog w) A (Builtin.SmallTypes.nextOf (.ref it)) Q E s
section
variable {prog:Program} {w:World} {A:Around} {E:Value→Shared→Prop} {s:Shared}
theorem qu{it:Addr}(hit:IsTupIter s.heap it t i)(ht:IsTup s.heap t items)(hx:items[i]?=some x)
  (hQ:∀h',IsTupIter h' it t (i+1)→Heap.SameBut it s.heap h'→Q x {s with heap:=h'}):wpAny (model prog w) A (Builtin.SmallTypes.nextOf (.ref it)) Q E s:=by
 obtain⟨o,ho,hc,hd⟩:=id hit
 obtain⟨ol,a,_,nl,b⟩:=ht
 unfold Builtin.SmallTypes.nextOf
 refine CH (Ei (name:=Str.ofString "__next__") hit.typeIs slot_tupleiter_next (Dr slot_tupleiter_next hit.typeIs entry_tupleiter_next ?_ (args_tupleiter_next _)))
 show wpAny _ _ (field (.ref it) 0>>=_) _ _ s
 refine CH (DC ho hd (x:=.ref t) rfl ?_)
 show wpAny _ _ (if (Value.ref t==Value.none)=true then _ else _) _ _ s
 rw[if_neg (show¬((Value.ref t==Value.none)=true) from C0)]
 show wpAny _ _ (field (.ref it) 1>>=_) _ _ s
 refine CH (DC ho hd (x:=.int i 0) rfl ?_)
 show wpAny _ _ (seqItems? (.ref t)>>=_) _ _ s
 refine CH (DW a b ?_)
 simp only[DQ,hx]
 refine CH (EK ho hd (by simp) (CI ⟨x,rfl,CI (hQ _ ?_ (Heap.SameBut.update ..))⟩))
 exact⟨_,Ep _ ho (Obj.isFreed_of_fields (Obj.data_mapFields hd _)),(Obj.cls_mapFields ..).trans hc,by rw[Obj.data_mapFields hd];simp[rawInt]⟩
theorem qI{it:Addr}(hh:A.handled=none)(hit:IsTupIter s.heap it t i)(ht:IsTup s.heap t items)(hx:items[i]?=none)
  (hE:∀h' e,Heap.ExtBut it s.heap h'→(∃o,h'.get? e=some o∧o.cls=.type "StopIteration")→E (.ref e) {s with heap:=h'}):wpAny (model prog w) A (Builtin.SmallTypes.nextOf (.ref it)) Q E s:=by
 obtain⟨o,ho,hc,hd⟩:=id hit
 obtain⟨ol,b,_,nl,c⟩:=ht
 unfold Builtin.SmallTypes.nextOf
 refine CH (Ei (name:=Str.ofString "__next__") hit.typeIs slot_tupleiter_next (Dr slot_tupleiter_next hit.typeIs entry_tupleiter_next ?_ (args_tupleiter_next _)))
 show wpAny _ _ (field (.ref it) 0>>=_) _ _ s
 refine CH (DC ho hd (x:=.ref t) rfl ?_)
 show wpAny _ _ (if (Value.ref t==Value.none)=true then _ else _) _ _ s
 rw[if_neg (show¬((Value.ref t==Value.none)=true) from C0)]
 show wpAny _ _ (field (.ref it) 1>>=_) _ _ s
 refine CH (DC ho hd (x:=.int i 0) rfl ?_)
 show wpAny _ _ (seqItems? (.ref t)>>=_) _ _ s
 refine CH (DW b c ?_)
 simp only[DQ,hx]
 refine CH (D8 (CH (EK ho hd (by simp) ?_)))
 show wpAny _ _ (newExc (.type "StopIteration") []>>=_) _ _ _
 refine CH ?_
 simp only[newExc,newTuple]
 refine CH (DA ?_ (by size_fits))
 refine CH (m:=firstArgMember _ _) (wpAny_of_eq (a:=Value.none) (by first|rfl|(simp only[firstArgMember];rfl)) (DA ?_ (by size_fits)))
 simp only[raiseNew]
 refine CH (wpAny_handled ?_)
 first|rw[show A.in1.handled=none from hh]|rw[hh]
 refine CH (CI (wpAny_throw ?_))
 exact hE _ _ (((Heap.SameBut.update ..).extBut.push _).push _) ⟨_,C4 _ rfl,rfl⟩
theorem Nx.tup {it t:Addr}{items:Array Value}(hne:t≠it):Nx prog w A it t items (fun i h=>IsTupIter h it t i∧IsTup h t items) where
 obj:=fun i h ⟨⟨o,h1,h2,h3⟩,⟨o',h4,_⟩⟩=>⟨o,_,h1,h3,by rw[h2];decide,o',h4⟩
 keep:=fun i h h' ⟨⟨o,h1,h2⟩,⟨o',h4,h5⟩⟩ k1 k2=>⟨⟨o,k1 _ h1,h2⟩,⟨o',k2 _ h4,h5⟩⟩
 item:=fun i s Q E x ⟨h1,h2⟩ hx hQ=>qu h1 h2 hx fun h' a b=>hQ h' ⟨a,h2.extBut b.extBut hne⟩ b
 done:=fun i s Q E hh ⟨h1,h2⟩ hx hE=>qI hh h1 h2 hx hE
structure ZA (z TI TO i1 i2 s1 s2:Addr):Prop where
 TIz:TI≠z
 TOz:TO≠z
 i1z:i1≠z
 i2z:i2≠z
 TITO:TI≠TO
 TIi1:TI≠i1
 TIi2:TI≠i2
 TOi1:TO≠i1
 TOi2:TO≠i2
 i12:i1≠i2
 s1z:s1≠z
 s1TO:s1≠TO
 s1i2:s1≠i2
 s2z:s2≠z
 s2TO:s2≠TO
 s2i1:s2≠i1
theorem yd {z TI TO i1 i2 s1 s2:Addr}{xs ys:Array Value}{S1 S2:Nat→Heap→Prop}{i:Nat}{x y a b:Value}{Q:Value→Shared→Prop}(D:ZA z TI TO i1 i2 s1 s2)(N1:Nx prog w A i1 s1 xs S1)(N2:Nx prog w A i2 s2 ys S2)
  (hz:IsZip s.heap z TI TO .none) (hTI:IsPair s.heap TI (.ref i1) (.ref i2)) (hTO:IsPair s.heap TO a b) (h1:S1 i s.heap) (h2:S2 i s.heap) (hx:xs[i]?=some x) (hy:ys[i]?=some y)
  (hQ:∀h',IsZip h' z TI TO (rawInt s.heap.objs.size)→IsPair h' TO x y→S1 (i+1) h'→S2 (i+1) h'→IsPair h' s.heap.objs.size x y→h'.objs.size=s.heap.objs.size+1→
   (∀c o,c≠z→c≠TO→c≠i1→c≠i2→s.heap.get? c=some o→h'.get? c=some o)→Q (.ref s.heap.objs.size) {s with heap:=h'}):
  wpAny (model prog w) A (Builtin.«zip.__next__» ⟨[.ref z],[]⟩) (fun fin s'=>∃v,fin=.done (.ret v)∧Q v s') E s:=by
 show wpAny _ _ (field (.ref z) 2>>=_) _ _ _
 refine CH (DC hz rfl (x:=.bool false) rfl ?_)
 show wpAny _ _ (field (.ref z) 3>>=_) _ _ _
 refine CH (DC hz rfl (x:=.ref TI) rfl (CH (DW hTI rfl ?_)))
 show wpAny _ _ (Builtin.SmallTypes.ownedTupleIsFree (.ref z)>>=_) _ _ _
 refine CH ?_
 unfold Builtin.SmallTypes.ownedTupleIsFree
 refine CH (DC hz rfl (x:=.none) rfl (CI ?_))
 simp only[if_true]
 refine CH (D8 (CH (DC hz rfl (x:=.ref TO) rfl (CH (D7 hz (by simp) fun g1 z1 k1=>?_)))))
 replace z1:IsZip g1 z TI TO .ellipsis:=z1
 refine CH ?_
 simp only[List.zipIdx_cons,List.zipIdx_nil,List.forIn_cons,List.forIn_nil]
 refine CH (CH (wpAny_onRaise ?_))
 show wpAny _ _ (Builtin.SmallTypes.nextOf (.ref i1)>>=_) _ _ _
 refine CH (N1.item i {s with heap:=g1} _ _ x (N1.keep _ _ _ h1 (fun o e=>k1.extBut _ _ D.i1z e) (fun o e=>k1.extBut _ _ D.s1z e)) hx fun g2 a1 k2=>CI ?_)
 have t2:IsPair g2 TO a b:=k2.extBut _ _ D.TOi1 (k1.extBut _ _ D.TOz hTO)
 refine CH (DW t2 rfl (CH (wpAny_updateSeq_pair t2 fun g3 t3 k3=>?_)))
 replace t3:IsPair g3 TO x b:=t3
 refine CH (Et (CI ?_))
 refine CH (CH (wpAny_onRaise ?_))
 show wpAny _ _ (Builtin.SmallTypes.nextOf (.ref i2)>>=_) _ _ _
 refine CH (N2.item i {s with heap:=g3} _ _ y (N2.keep _ _ _ h2 (fun o e=>k3.extBut _ _ D.TOi2.symm (k2.extBut _ _ D.i12.symm (k1.extBut _ _ D.i2z e))) (fun o e=>k3.extBut _ _ D.s2TO (k2.extBut _ _ D.s2i1 (k1.extBut _ _ D.s2z e)))) hy fun g4 a2 k4=>CI ?_)
 have t4:IsPair g4 TO x b:=k4.extBut _ _ D.TOi2 t3
 refine CH (DW t4 rfl (CH (wpAny_updateSeq_pair t4 fun g5 t5 k5=>?_)))
 replace t5:IsPair g5 TO x y:=t5
 refine CH (Et (CI (CI ?_)))
 refine CH (DW t5 rfl (CH (wpAny_newTuple ?_)))
 have h:g5.objs.size=s.heap.objs.size:=by rw[k5.1,k4.1,k3.1,k2.1,k1.1]
 have z5:IsZip g5 z TI TO .ellipsis:=k5.extBut _ _ D.TOz.symm (k4.extBut _ _ D.i2z.symm (k3.extBut _ _ D.TOz.symm (k2.extBut _ _ D.i1z.symm z1)))
 have j:∀c o,c≠z→c≠TO→c≠i1→c≠i2→s.heap.get? c=some o→g5.get? c=some o:=fun c o c1 c2 c3 c4 e=>k5.extBut _ _ c2 (k4.extBut _ _ c4 (k3.extBut _ _ c2 (k2.extBut _ _ c3 (k1.extBut _ _ c1 e))))
 have d:z<g5.objs.size:=CS z5
 show wpAny _ _ (Builtin.SmallTypes.ownedTupleHandOut (.ref z) (.ref g5.objs.size)>>=_) _ _ _
 refine CH ?_
 unfold Builtin.SmallTypes.ownedTupleHandOut
 have z6:IsZip (g5.push {cls:=.type "tuple",data:=.seq #[x,y]}) z TI TO .ellipsis:=CO _ z5
 refine CH (D7 z6 (by simp) fun g7 z7 k7=>?_)
 replace z7:IsZip g7 z TI TO (rawInt g5.objs.size):=z7
 refine D7 z7 (by simp) fun g8 z8 k8=>?_
 replace z8:IsZip g8 z TI TO (rawInt g5.objs.size):=z8
 have up:∀c o,c≠z→g5.get? c=some o→g8.get? c=some o:=fun c o c1 e=>k8.extBut _ _ c1 (k7.extBut _ _ c1 (CO _ e))
 have g:IsPair g8 g5.objs.size x y:=k8.extBut _ _ (DY d) (k7.extBut _ _ (DY d) (C4 _ rfl))
 have f:g8.objs.size=g5.objs.size+1:=by rw[k8.1,k7.1,DM]
 rw[h] at z8 g f
 refine CI ⟨_,rfl,?_⟩
 show Q (.ref g5.objs.size) _
 rw[h]
 exact hQ g8 z8 (up _ _ D.TOz t5)
  (N1.keep _ _ _ a1 (fun o e=>up _ o D.i1z (k5.extBut _ _ D.TOi1.symm (k4.extBut _ _ D.i12 (k3.extBut _ _ D.TOi1.symm e)))) (fun o e=>up _ o D.s1z (k5.extBut _ _ D.s1TO (k4.extBut _ _ D.s1i2 (k3.extBut _ _ D.s1TO e)))))
  (N2.keep _ _ _ a2 (fun o e=>up _ o D.i2z (k5.extBut _ _ D.TOi2.symm e)) (fun o e=>up _ o D.s2z (k5.extBut _ _ D.s2TO e))) g f fun c o c1 c2 c3 c4 e=>up c o c1 (j c o c1 c2 c3 c4 e)
theorem As{TI TO:Addr}{S1 S2:Nat→Heap→Prop}{Q:Fin→Shared→Prop}(hh:A.handled=none)(D:ZA z TI TO i1 i2 s1 s2)(N1:Nx prog w A i1 s1 xs S1)(N2:Nx prog w A i2 s2 ys S2)
  (hz:IsZip s.heap z TI TO .none) (hTI:IsPair s.heap TI (.ref i1) (.ref i2)) (hTO:IsPair s.heap TO a b) (h1:S1 i s.heap) (h2:S2 i s.heap) (hend:xs[i]?=none∨ys[i]?=none)
  (hE:∀h' e,(∀c o,c≠z→c≠TO→c≠i1→c≠i2→s.heap.get? c=some o→h'.get? c=some o)→(∃o,h'.get? e=some o∧o.cls=.type "StopIteration")→E (.ref e) {s with heap:=h'}):
  wpAny (model prog w) A (Builtin.«zip.__next__» ⟨[.ref z],[]⟩) Q E s:=by
 show wpAny _ _ (field (.ref z) 2>>=_) _ _ _
 refine CH (DC hz rfl (x:=.bool false) rfl ?_)
 show wpAny _ _ (field (.ref z) 3>>=_) _ _ _
 refine CH (DC hz rfl (x:=.ref TI) rfl (CH (DW hTI rfl ?_)))
 show wpAny _ _ (Builtin.SmallTypes.ownedTupleIsFree (.ref z)>>=_) _ _ _
 refine CH ?_
 unfold Builtin.SmallTypes.ownedTupleIsFree
 refine CH (DC hz rfl (x:=.none) rfl (CI ?_))
 simp only[if_true]
 refine CH (D8 (CH (DC hz rfl (x:=.ref TO) rfl (CH (D7 hz (by simp) fun g1 z1 k1=>?_)))))
 replace z1:IsZip g1 z TI TO .ellipsis:=z1
 refine CH ?_
 simp only[List.zipIdx_cons,List.zipIdx_nil,List.forIn_cons,List.forIn_nil]
 refine CH (CH (wpAny_onRaise ?_))
 show wpAny _ _ (Builtin.SmallTypes.nextOf (.ref i1)>>=_) _ _ _
 have j:=N1.keep _ _ g1 h1 (fun o e=>k1.extBut _ _ D.i1z e) (fun o e=>k1.extBut _ _ D.s1z e)
 cases hx:xs[i]? with
 |none=>
  refine CH (N1.done i {s with heap:=g1} _ _ hh j hx fun g2 e k2 he=>?_)
  obtain⟨oe,d,f⟩:=he
  have z2:IsZip g2 z TI TO .ellipsis:=k2 _ _ D.i1z.symm z1
  have g:e≠z:=fun x=>by subst x;rw[z2] at d;cases d;simp at f
  exact D7 z2 (by simp) fun g3 _ k3=>hE g3 e (fun c o c1 _ c3 _ x=>k3.extBut _ _ c1 (k2 _ _ c3 (k1.extBut _ _ c1 x))) ⟨oe,k3.extBut _ _ g d,f⟩
 |some x=>
  have hy:ys[i]?=none:=by rcases hend with h|h;rw[hx] at h;cases h;exact h
  refine CH (N1.item i {s with heap:=g1} _ _ x j hx fun g2 a1 k2=>CI ?_)
  have t2:IsPair g2 TO a b:=k2.extBut _ _ D.TOi1 (k1.extBut _ _ D.TOz hTO)
  refine CH (DW t2 rfl (CH (wpAny_updateSeq_pair t2 fun g3 t3 k3=>?_)))
  refine CH (Et (CI ?_))
  refine CH (CH (wpAny_onRaise ?_))
  show wpAny _ _ (Builtin.SmallTypes.nextOf (.ref i2)>>=_) _ _ _
  refine CH (N2.done i {s with heap:=g3} _ _ hh (N2.keep _ _ _ h2 (fun o e=>k3.extBut _ _ D.TOi2.symm (k2.extBut _ _ D.i12.symm (k1.extBut _ _ D.i2z e))) (fun o e=>k3.extBut _ _ D.s2TO (k2.extBut _ _ D.s2i1 (k1.extBut _ _ D.s2z e)))) hy fun g4 e k4 he=>?_)
  obtain⟨oe,d,f⟩:=he
  have z4:IsZip g4 z TI TO .ellipsis:=k4 _ _ D.i2z.symm (k3.extBut _ _ D.TOz.symm (k2.extBut _ _ D.i1z.symm z1))
  have g:e≠z:=fun x=>by subst x;rw[z4] at d;cases d;simp at f
  exact D7 z4 (by simp) fun g5 _ k5=>hE g5 e (fun c o c1 c2 c3 c4 x=>k5.extBut _ _ c1 (k4 _ _ c4 (k3.extBut _ _ c2 (k2.extBut _ _ c3 (k1.extBut _ _ c1 x))))) ⟨oe,k5.extBut _ _ g d,f⟩
end
theorem oM{pins:List (Addr×Obj)}(I:aL X pins σ H s)(h:bH X.K H t xs)(f:jk X pins H b):t≠b:=fun z=>by
 subst z
 obtain⟨f0,f1,f2,f3,f4,f5⟩:=f
 rcases h with (h|⟨_,h⟩)|⟨o,its,n,hk,_⟩
 ·rw[f0] at h;cases h
 ·rw[f0] at h;cases h
 ·have hb:=I.ok.mod.kin _ _ hk
  rcases f3 with f3|f3
  ·exact I.ok.noex _ _ hb f3
  ·exact absurd (Dv (CS (I.ok.bs _ _ hb).1) f3) (DL _)
noncomputable def vH (K:CJ) (t1 t2:Addr):It:=
 ⟨fun i H=>∃xs ys x y,bH K H t1 xs∧bH K H t2 ys∧xs[i]?=some x∧ys[i]?=some y,
  fun i H x H'=>∃p y1 y2,H p=none∧x=.ref p∧H'=upd H p (.tup [y1,y2])∧(∀xs,bH K H t1 xs→xs[i]?=some y1)∧∀ys,bH K H t2 ys→ys[i]?=some y2,
  fun i H=>∃xs ys,bH K H t1 xs∧bH K H t2 ys∧(xs.length≤i∨ys.length≤i)⟩
def A4 (z TI TO i1 i2 t1 t2:Addr) (i:Nat) (h:Heap):Prop:=IsZip h z TI TO .none∧IsPair h TI (.ref i1) (.ref i2)∧(∃a b,IsPair h TO a b)∧IsTupIter h i1 t1 i∧IsTupIter h i2 t2 i
theorem ud {P:Program}{w:World}{K:CJ}{elts:List Expr}{x1:Nat}{pos:Pos}(z TI TO i1 i2 t1 t2:Addr)(D0:TI≠z∧TO≠z∧i1≠z∧i2≠z∧TI≠TO∧TI≠i1∧TI≠i2∧TO≠i1∧TO≠i2∧i1≠i2):
  oZ P w K (.Tuple elts x1 pos) (vH K t1 t2) [z,TI,TO,i1,i2] z (A4 z TI TO i1 i2 t1 t2) where
 mem:=by simp
 obj:=fun i h st b hb=>by
  obtain⟨h1,h2,⟨a,c,h3⟩,⟨o4,h4,_,d4⟩,⟨o5,h5,_,d5⟩⟩:=st
  simp only[CV,D9,or_false] at hb
  rcases hb with rfl|rfl|rfl|rfl|rfl
  ·exact⟨_,h1,fun v e=>by have e':Data.fields _=Data.cell v:=e;cases e'⟩
  ·exact⟨_,h2,fun v e=>by have e':Data.seq _ _=Data.cell v:=e;cases e'⟩
  ·exact⟨_,h3,fun v e=>by have e':Data.seq _ _=Data.cell v:=e;cases e'⟩
  ·exact⟨_,h4,fun v e=>by rw[d4] at e;cases e⟩
  ·exact⟨_,h5,fun v e=>by rw[d5] at e;cases e⟩
 keep:=fun i h h' ⟨h1,h2,⟨a,c,h3⟩,⟨o4,h4,c4,d4⟩,⟨o5,h5,c5,d5⟩⟩ k=>⟨k z (by simp) _ h1,k TI (by simp) _ h2,⟨a,c,k TO (by simp) _ h3⟩,⟨o4,k i1 (by simp) _ h4,c4,d4⟩,⟨o5,k i2 (by simp) _ h5,c5,d5⟩⟩
 item:=by
  intro X hP hw hK hc i pins s σ H E I hf st hg
  subst hP hw hK
  obtain⟨xs,ys,x,y,g,j,hx,hy⟩:=hg
  obtain⟨hz,B,⟨a,b,N⟩,L,O⟩:=st
  obtain⟨J,r1,p1,_⟩:=I.tuple g
  obtain⟨C,r2,p2,_⟩:=I.tuple j
  obtain⟨u1,am,Z⟩:=r1.get hx
  obtain⟨u2,al,aa⟩:=r2.get hy
  obtain⟨d1,d2,d3,d4,d5,d6,d7,d8,d9,R⟩:=D0
  have d:∀b∈[z,TI,TO,i1,i2],t1≠b:=fun b hb=>oM I g (hf b hb)
  have f:∀b∈[z,TI,TO,i1,i2],t2≠b:=fun b hb=>oM I j (hf b hb)
  have D:ZA z TI TO i1 i2 t1 t2:=⟨d1,d2,d3,d4,d5,d6,d7,d8,d9,R,d _ (by simp),d _ (by simp),d _ (by simp),f _ (by simp),f _ (by simp),f _ (by simp)⟩
  have hT:s.TypeIs (.ref z) "zip" :=⟨_,hz,rfl⟩
  have nT:s.heap.get? s.heap.objs.size=none:=El (CM _)
  have S:∀b∈[z,TI,TO,i1,i2],b<s.heap.objs.size:=fun b hb=>by
   obtain⟨_,e4,_⟩:=L
   obtain⟨_,e5,_⟩:=O
   simp only[CV,D9,or_false] at hb
   rcases hb with rfl|rfl|rfl|rfl|rfl
   ·exact CS hz
   ·exact CS B
   ·exact CS N
   ·exact CS e4
   ·exact CS e5
  unfold pyNext
  refine CH (D6 (Ei (name:=Str.ofString "__next__") hT F.slot_zip_next (Dr F.slot_zip_next hT F.entry_zip_next
   (yd D (Nx.tup (items:=J.toArray) (d _ (by simp))) (Nx.tup (items:=C.toArray) (f _ (by simp))) hz B N ⟨L,p1⟩ ⟨O,p2⟩ (by simpa using am) (by simpa using al) fun h' a1 a2 a3 a4 a5 a6 hk=>CI ⟨_,rfl,?_⟩) (F.args_zip_next_1 _))))
  refine wpAny_letOwnedTupleGo_zip (s:={s with heap:=h'}) a1 fun h2 hz2 sb=>?_
  replace sb:Heap.SameBut z h' h2:=sb
  have W:z<s.heap.objs.size:=S z (by simp)
  have Y:h2.get? s.heap.objs.size=some {cls:=.type "tuple",data:=.seq #[u1,u2]}:=(sb.2 _ (DY W)).trans a5
  refine⟨.ref s.heap.objs.size,upd H s.heap.objs.size (.tup [x,y]),aL.turnedLaid (s:=s) (h':=h2) (fp:=[z,TI,TO,i1,i2]) (t':=s.toks) I hf (fun b v hb q=>?_) nT ?_,rfl,⟨_,x,y,I.hok.none_of nT,rfl,rfl,fun l hl=>by rw[I.tuple_inj hl g];exact hx,fun l hl=>by rw[I.tuple_inj hl j];exact hy⟩,
   ⟨hz2,?_,⟨_,_,(sb.2 _ d2).trans a2⟩,?_,?_⟩,fun b hb=>?_⟩
  ·have p:b≠z∧b≠TO∧b≠i1∧b≠i2:=⟨fun e=>hb (by simp[e]),fun e=>hb (by simp[e]),fun e=>hb (by simp[e]),fun e=>hb (by simp[e])⟩
   exact(sb.2 b p.1).trans (hk b v p.1 p.2.1 p.2.2.1 p.2.2.2 q)
  ·exact⟨by show 2≤sizeLine;decide,_,.cons Z (.cons aa .nil),_,Y,rfl,_,rfl⟩
  ·exact(sb.2 _ d1).trans (hk _ _ d1 d5 d6 d7 B)
  ·obtain⟨o,e,r⟩:=a3.1
   exact⟨o,(sb.2 _ d3).trans e,r⟩
  ·obtain⟨o,e,r⟩:=a4.1
   exact⟨o,(sb.2 _ d4).trans e,r⟩
  ·rw[aj (C6 (S b hb))];exact(hf b hb).1
 done:=by
  intro X hP hw hK hc i pins s σ H E I hf st hg
  subst hP hw hK
  obtain⟨xs,ys,g,j,U⟩:=hg
  obtain⟨hz,B,⟨a,b,N⟩,L,O⟩:=st
  obtain⟨J,r1,p1,_⟩:=I.tuple g
  obtain⟨C,r2,p2,_⟩:=I.tuple j
  have e1:=r1.length
  have e2:=r2.length
  obtain⟨d1,d2,d3,d4,d5,d6,d7,d8,d9,R⟩:=D0
  have d:∀b∈[z,TI,TO,i1,i2],t1≠b:=fun b hb=>oM I g (hf b hb)
  have f:∀b∈[z,TI,TO,i1,i2],t2≠b:=fun b hb=>oM I j (hf b hb)
  have D:ZA z TI TO i1 i2 t1 t2:=⟨d1,d2,d3,d4,d5,d6,d7,d8,d9,R,d _ (by simp),d _ (by simp),d _ (by simp),f _ (by simp),f _ (by simp),f _ (by simp)⟩
  have hT:s.TypeIs (.ref z) "zip" :=⟨_,hz,rfl⟩
  unfold pyNext
  refine CH (D6 (Ei (name:=Str.ofString "__next__") hT F.slot_zip_next (Dr F.slot_zip_next hT F.entry_zip_next
   (As (show X.A.in1.handled=none from I.ok.hd hc) D (Nx.tup (items:=J.toArray) (d _ (by simp))) (Nx.tup (items:=C.toArray) (f _ (by simp))) hz B N ⟨L,p1⟩ ⟨O,p2⟩ ?_ fun h' e hk he=>?_) (F.args_zip_next_1 _))))
  ·rcases U with h|h
   ·exact .inl (Fl (by simp;lia))
   ·exact .inr (Fl (by simp;lia))
  ·obtain⟨o,ho,ac⟩:=he
   refine CH (Eg (T:= "StopIteration") (b:=true) ⟨o,ho,ac⟩ isSubtype_stop ?_)
   refine CI ⟨rfl,?_⟩
   refine I.step (g':=s.gens) (d':=s.drawn) (t':=s.toks) (h':=h') (ch:=[z,TI,TO,i1,i2]) (fun b hb=>⟨(hf b hb).2.2.2.1,(hf b hb).2.1,(hf b hb).2.2.2.2.1,(hf b hb).2.2.2.2.2⟩) (fun b u _ _ hc' q _=>?_) (fun b u _ _ hc' q _=>⟨u.slots,?_⟩) (fun b u _ _ n=>n) (fun b u hc' q=>⟨u,?_⟩) (fun b xs q=>q) (fun b u xs q=>q) (fun b ps q=>⟨#[],by rw[q];simp⟩) (fun m hm=>?_) (fun b u q=>?_) I.bare
   ·exact hk b u (fun e=>hc' (by simp[e])) (fun e=>hc' (by simp[e])) (fun e=>hc' (by simp[e])) (fun e=>hc' (by simp[e])) q
   ·exact hk b u (fun e=>hc' (by simp[e])) (fun e=>hc' (by simp[e])) (fun e=>hc' (by simp[e])) (fun e=>hc' (by simp[e])) q
   ·exact hk b u (fun e=>hc' (by simp[e])) (fun e=>hc' (by simp[e])) (fun e=>hc' (by simp[e])) (fun e=>hc' (by simp[e])) q
   ·obtain⟨o',es,ep,ad,r⟩:=hm
    have nl:∀b∈[z,TI,TO,i1,i2],X.env.locals≠b:=fun b hb=>CQ (hf b hb).2.1
    exact⟨o',es,ep,hk _ o' (nl _ (by simp)) (nl _ (by simp)) (nl _ (by simp)) (nl _ (by simp)) ad,r⟩
   ·have qL:∀b∈[z,TI,TO,i1,i2],∀c u,H c=some u→c≠b:=fun b hb c u e z=>by rw[z,(hf b hb).1] at e;cases e
    refine(I.hok b u q).stay (fun c v hc' e=>?_) (fun _ e=>e) fun _ _ e=>e
    have af:∃u',H c=some u':=by
     rcases hc' with rfl|hc'
     ·exact⟨_,q⟩
     ·exact⟨_,hc'⟩
    obtain⟨u',M⟩:=af
    exact hk c v (qL _ (by simp) c u' M) (qL _ (by simp) c u' M) (qL _ (by simp) c u' M) (qL _ (by simp) c u' M) e
 self:=fun A i s Q E st h=>wpAny_pyIter_zip st.1 h
abbrev xZ (h:Heap) (l1:Addr):Heap:=h.push {cls:=.type "tuple_iterator",data:=.fields #[.ref l1,.int 0 0]}
abbrev yH (h:Heap) (l1 l2:Addr):Heap:=(xZ h l1).push {cls:=.type "tuple_iterator",data:=.fields #[.ref l2,.int 0 0]}
abbrev xI (h:Heap) (l1 l2:Addr):Heap:=(yH h l1 l2).push {cls:=.type "tuple",data:=.seq #[.ref h.objs.size,.ref (xZ h l1).objs.size]}
abbrev yl (h:Heap) (l1 l2:Addr):Heap:=(xI h l1 l2).push {cls:=.type "tuple",data:=.seq #[.none,.none]}
abbrev rQ (h:Heap) (l1 l2:Addr):Heap:=(yl h l1 l2).push {cls:=.type "zip",data:=.fields #[.none,.bool false,.bool false,.ref (yH h l1 l2).objs.size,.ref (xI h l1 l2).objs.size]}
theorem v9 (l1 l2:Addr)(xs ys:Array Value):Meets (Builtin.«zip.__new__» ⟨[.type "zip",.ref l1,.ref l2],[]⟩) (fun _ R s=>IsTup s.heap l1 xs∧IsTup s.heap l2 ys∧R (.ok (.ret (.ref (yl s.heap l1 l2).objs.size))) {s with heap:=rQ s.heap l1 l2}):=
 .of_wp fun prog w A R s h=>by
  obtain⟨hp,g,d,tk,os⟩:=s;obtain⟨a1,a2,h⟩:=h
  have sz:=sub_zip
  have b1:IsTup (Shared.heap ⟨hp,g,d,tk,os⟩) l1 xs:=a1
  have b2:IsTup (Shared.heap ⟨hp.push {cls:=.type "tuple_iterator",data:=.fields #[.ref l1,.int 0 0]},g,d,tk,os⟩) l2 ys:=IsTup.push a2 _
  wp_walk using iter_tuple b1,iter_tuple b2
  exact⟨_,rfl,h⟩
theorem tw(hl1:IsTup s.heap l1 xs)(hl2:IsTup s.heap l2 ys)
  (h:∀h',A4 (s.heap.objs.size+4) (s.heap.objs.size+2) (s.heap.objs.size+3) s.heap.objs.size (s.heap.objs.size+1) l1 l2 0 h'→h'.objs.size=s.heap.objs.size+5→(∀c o,s.heap.get? c=some o→h'.get? c=some o)→Q (.ref (s.heap.objs.size+4)) {s with heap:=h'}):
  wpAny (model prog w) A (call (.type "zip") [.ref l1,.ref l2]) Q E s:=by
 refine callType_new F.called_zip (by decide) (F.typeCall_zip_2 _ _) (F.newCall_zip_2 _ _) (fun obj=>F.args_object_init_3 obj _ _) F.entry_zip_new (v9 l1 l2 xs ys) ⟨hl1,hl2,?_⟩
 have z1:(xZ s.heap l1).objs.size=s.heap.objs.size+1:=DM ..
 have z2:(yH s.heap l1 l2).objs.size=s.heap.objs.size+2:=by rw[DM,z1]
 have z3:(xI s.heap l1 l2).objs.size=s.heap.objs.size+3:=by rw[DM,z2]
 have z4:(yl s.heap l1 l2).objs.size=s.heap.objs.size+4:=by rw[DM,z3]
 have z5:(rQ s.heap l1 l2).objs.size=s.heap.objs.size+5:=by rw[DM,z4]
 have g5:(rQ s.heap l1 l2).get? (yl s.heap l1 l2).objs.size=some _:=C4 _ rfl
 have g4:(rQ s.heap l1 l2).get? (xI s.heap l1 l2).objs.size=some _:=CO _ (C4 _ rfl)
 have g3:(rQ s.heap l1 l2).get? (yH s.heap l1 l2).objs.size=some _:=CO _ (CO _ (C4 _ rfl))
 have g2:(rQ s.heap l1 l2).get? (xZ s.heap l1).objs.size=some _:=CO _ (CO _ (CO _ (C4 _ rfl)))
 have g1:(rQ s.heap l1 l2).get? s.heap.objs.size=some _:=CO _ (CO _ (CO _ (CO _ (C4 _ rfl))))
 show _∧_
 rw[z2,z3,z4] at g5
 rw[z1,z2] at g3
 rw[z3] at g4
 rw[z1] at g2
 rw[z4]
 exact⟨⟨_,g5,rfl⟩,h _ ⟨g5,g3,⟨_,_,g4⟩,⟨_,g1,rfl,rfl⟩,⟨_,g2,rfl,rfl⟩⟩ z5 fun c o x=>CO _ (CO _ (CO _ (CO _ (CO _ x))))⟩
def Ba (K:CJ) (ta:TA):TI:=fun σ H R=>ta σ H fun vs H1=>∃a b,vs=[.ref a,.ref b]∧(∃xs,bH K H1 a xs)∧(∃ys,bH K H1 b ys)∧R (vH K a b) H1
theorem yo(hg:Gl X "zip")(hm:X.mg "zip" =none)(ha:PA X [a,b] ta)(hs:starEach [a,b] X.env=[(false,eval a X.env),(false,eval b X.env)]:=by rfl)
  (he:starEach [a,b] X.env=(false,eval a X.env)::starEach [b] X.env:=by rfl) (hpl:(backTo pos (starEach [b] X.env)).any (·.1)=false:=by rfl):
  PI X (.Tuple elts x1 pt) (.Call (.Name "zip" p) [a,b] [] pos) (Ba X.K ta):=by
 intro pins s σ H R I h
 refine Ed (fH I hg hm Ad ?_ (by decide) (by decide))
 refine PyProof.Rows.callWith_type1 (bR (ha pos pins s σ H _ I h) fun us s1 ⟨vs,H1,I1,r1,l1,l2,ev,⟨xs,hq1⟩,⟨ys,hq2⟩,q⟩=>?_) he hpl
 subst ev
 obtain⟨u1,u2,rfl,d,e⟩:=g_ r1
 cases(show u1=Value.ref l1 from d)
 cases(show u2=Value.ref l2 from e)
 obtain⟨g,i,p1,_⟩:=I1.tuple hq1
 obtain⟨f,j,p2,_⟩:=I1.tuple hq2
 refine tw p1 p2 fun h' st sz kk=>?_
 refine wpAny_pyIter_zip (s:={s1 with heap:=h'}) st.1 ?_
 refine⟨s1.heap.objs.size+4,[s1.heap.objs.size+4,s1.heap.objs.size+2,s1.heap.objs.size+3,s1.heap.objs.size,s1.heap.objs.size+1],_,_,H1,rfl,I1.kept (t':=s1.toks) kk,ud _ _ _ _ _ l1 l2 ?_,st,fun b hb=>?_,q⟩
 ·generalize s1.heap.objs.size=n
  refine⟨?_,?_,?_,?_,?_,?_,?_,?_,?_,?_⟩<;>(intro z;have z':(_:Nat)=_:=z;lia)
 ·have c:s1.heap.objs.size≤b:=by
   simp only[CV,D9,or_false] at hb
   rcases hb with rfl|rfl|rfl|rfl|rfl
   ·exact EL _ _
   ·exact EL _ _
   ·exact EL _ _
   ·exact CM _
   ·exact EL _ _
  exact I1.fpOk c (I1.hok.fresh c)
theorem wM {K:CJ}{a b:Addr}{xs ys:List V}{g:TG}{tb:TS}{D:eK}{σ:St}{H:Hp}(hle:xs.length=ys.length)(Pv:Nat→St→Hp→Prop)(h0:Pv 0 σ H)(hl:∀i σ H,i≤xs.length→Pv i σ H→bH K H a xs∧bH K H b ys)
  (hs:∀i x y p σ H,xs[i]?=some x→ys[i]?=some y→H p=none→Pv i σ H→g (.ref p) σ (upd H p (.tup [x,y])) fun σ2 H2=>tb {D with nx:=Pv (i+1),ct:=Pv (i+1),bk:=D.nx} σ2 H2) (hd:∀σ H,Pv xs.length σ H→D.nx σ H):
  ∃W:Nat→Nat→St→Hp→Prop,(∃m,W 0 m σ H)∧∀i m σ H,W i m σ H→
   ((vH K a b).stop i H∧D.nx σ H)∨((vH K a b).go i H∧∃N:St→Hp→Prop,(∀σ' H',N σ' H'→∃m',m'<m∧W (i+1) m' σ' H')∧∀x H',(vH K a b).yld i H x H'→g x σ H' fun σ2 H2=>tb {D with nx:=N,ct:=N,bk:=D.nx} σ2 H2):=by
 refine⟨fun i m σ H=>m=xs.length - i∧i≤xs.length∧Pv i σ H,⟨xs.length,by simp,C8 _,h0⟩,?_⟩
 rintro i m σ H ⟨rfl,hi,p⟩
 obtain⟨q1,q2⟩:=hl i σ H hi p
 by_cases hlt:i<xs.length
 ·refine .inr ⟨⟨xs,ys,xs[i],ys[i],q1,q2,by simp[hlt],by simp[show i<ys.length by lia]⟩,Pv (i+1),fun σ' H' p'=>⟨xs.length - (i+1),by lia,rfl,hlt,p'⟩,fun x H' z=>?_⟩
  obtain⟨P,y1,y2,hn,rfl,rfl,e1,e2⟩:=z
  exact hs i y1 y2 P σ _ (e1 xs q1) (e2 ys q2) hn p
 ·have e:i=xs.length:=by lia
  subst e
  exact .inl ⟨⟨xs,ys,q1,q2,.inl (CM _)⟩,hd σ H p⟩
section
variable {prog:Program} {w:World} {A:Around} {E:Value→Shared→Prop} {s:Shared} {d it v:Addr} {o:Obj} {es:Array DictEntry} {i ep:Nat}
theorem xK(hd:(d==sysModules)=false)(ho:s.heap.get? d=some o)(hc:o.ExactDict)
  (h:Q (.ref s.heap.objs.size) {s with heap:=s.heap.push {cls:=.type "dict_values",data:=.fields #[.ref d]}}):wpAny (model prog w) A (call (.builtin "dict.values") [.ref d]) Q E s:=by
 have hT:s.TypeIs (.ref d) "dict" :=⟨o,ho,hc.1⟩
 refine Dr F.slot_dict_values hT F.entry_dict_values ?_ (F.args_dict_values_1 _)
 refine CH ?_
 unfold Builtin.Dict.noArgs
 refine CH (E1 hT ?_)
 show wpAny _ _ (pure d) _ _ s
 refine CI ?_
 show wpAny _ _ (Builtin.Dict.showsAll d>>=_) _ _ s
 unfold Builtin.Dict.showsAll
 rw[if_neg (by rw[hd];exact C0)]
 exact CH (CI (CH (DA (CI ⟨_,rfl,h⟩))))
theorem xO(hv:s.heap.IsValuesView v d)(ho:s.heap.get? d=some o)(hdat:o.data=.dict es ep)
  (hQ:Q (.ref s.heap.objs.size) {s with heap:=s.heap.push {cls:=.type "dict_valueiterator",data:=.fields #[.ref d,.int 0 0,.int es.size 0,.int ep 0]}}):wpAny (model prog w) A (pyIter (.ref v)) Q E s:=by
 obtain⟨ob,a,c,b⟩:=id hv
 refine E4 hv.typeIs F.slot_dict_values_iter (Dr F.slot_dict_values_iter hv.typeIs F.entry_dict_values_iter ?_ (F.args_dict_values_iter_1 _))
 unfold Builtin.«dict_values.__iter__»
 refine CH (CI (CH ?_))
 unfold Builtin.Dict_items.dictOf
 refine CH (DC a b (x:=.ref d) rfl (CI (CH ?_)))
 unfold Builtin.Dict_items.newIterator
 refine CH (DB ho hdat (CH (DV ho hdat ?_)))
 simp only[show Builtin.Dict_items.ownsTuple "dict_valueiterator" =false by decide,Eh,if_false]
 refine DA (CI ⟨_,rfl, "dict_valueiterator",_,⟨_,C4 _ rfl,rfl⟩,F.slot_dict_valueiterator_next.lookup,?_⟩)
 simpa[rawInt] using hQ
theorem yY(hit:s.heap.IsValIter it d i es.size ep)(hod:s.heap.get? d=some o)(hdd:o.data=.dict es ep)(hi:i<es.size)
  (hQ:∀h',h'.IsValIter it d (i+1) es.size ep→Heap.SameBut it s.heap h'→Q (some es[i].val) {s with heap:=h'}):wpAny (model prog w) A (pyNext (.ref it)) Q E s:=by
 obtain⟨oi,ho,hc,hd⟩:=id hit
 unfold pyNext
 refine CH (D6 (Ei (name:=Str.ofString "__next__") hit.typeIs F.slot_dict_valueiterator_next
  (Dr F.slot_dict_valueiterator_next hit.typeIs F.entry_dict_valueiterator_next ?_ (F.args_dict_valueiterator_next_1 _))))
 refine CH (CI (CH (CH ?_)))
 first|refine CH (FH hit.typeIs (CI ?_))|refine CH (FI hit.typeIs (CI ?_))
 refine CH (E5 ho hd ?_)
 simp only[show Builtin.Dict_items.ownsTuple "dict_valueiterator" =false by decide,Eh,if_false]
 show wpAny _ _ (if (Value.ref d==Value.none)=true then _ else _) _ _ s
 rw[if_neg (show¬((Value.ref d==Value.none)=true) from C0)]
 refine CH (CI (CH (DB hod hdd ?_)))
 rw[if_neg (by simp)]
 refine CH (CI (CH (DV hod hdd ?_)))
 rw[if_neg (by simp)]
 refine CI ?_
 simp only[show¬((i:Int)<0) from by lia,if_false,DQ,E3 hi]
 refine CH ?_
 first|refine CH (FH hit.typeIs (CI ?_))|refine CH (FI hit.typeIs (CI ?_))
 refine CH (wpAny_isOneOf_valiter hit.typeIs ?_)
 show wpAny _ _ (setField (.ref it) 1 (rawInt ((i:Int)+1))>>=_) _ _ s
 refine CH (EK ho hd (by simp) ?_)
 have new:(s.heap.update it (Obj.mapFields (·.setIfInBounds 1 (rawInt ((i:Int)+1))))).IsValIter it d (i+1) es.size ep:=
  ⟨_,Ep _ ho (Obj.isFreed_of_fields (Obj.data_mapFields hd _)),(Obj.cls_mapFields ..).trans hc,by rw[Obj.data_mapFields hd];simp[rawInt]⟩
 refine CH (Dz (CH (wpAny_isOneOf_valiter (s:={s with heap:=s.heap.update it (Obj.mapFields (·.setIfInBounds 1 (rawInt ((i:Int)+1))))}) new.typeIs ?_)))
 refine CH (wpAny_isOneOf_valiter (s:={s with heap:=s.heap.update it (Obj.mapFields (·.setIfInBounds 1 (rawInt ((i:Int)+1))))}) new.typeIs ?_)
 show wpAny _ _ (pure es[i].val) _ _ _
 exact CI (CI ⟨_,rfl,CI (hQ _ new (Heap.SameBut.update ..))⟩)
theorem zH(hh:A.handled=none)(hit:s.heap.IsValIter it d i es.size ep)(hod:s.heap.get? d=some o)(hdd:o.data=.dict es ep)(hi:es.size≤i)
  (hQ:∀h',Heap.ExtBut it s.heap h'→Q none {s with heap:=h'}):wpAny (model prog w) A (pyNext (.ref it)) Q E s:=by
 obtain⟨oi,ho,hc,hd⟩:=id hit
 unfold pyNext
 refine CH (D6 (Ei (name:=Str.ofString "__next__") hit.typeIs F.slot_dict_valueiterator_next
  (Dr F.slot_dict_valueiterator_next hit.typeIs F.entry_dict_valueiterator_next ?_ (F.args_dict_valueiterator_next_1 _))))
 refine CH (CI (CH (CH ?_)))
 first|refine CH (FH hit.typeIs (CI ?_))|refine CH (FI hit.typeIs (CI ?_))
 refine CH (E5 ho hd ?_)
 simp only[show Builtin.Dict_items.ownsTuple "dict_valueiterator" =false by decide,Eh,if_false]
 show wpAny _ _ (if (Value.ref d==Value.none)=true then _ else _) _ _ s
 rw[if_neg (show¬((Value.ref d==Value.none)=true) from C0)]
 refine CH (CI (CH (DB hod hdd ?_)))
 rw[if_neg (by simp)]
 refine CH (CI (CH (DV hod hdd ?_)))
 rw[if_neg (by simp)]
 refine CI ?_
 simp only[show¬((i:Int)<0) from by lia,if_false,DQ,Fl hi]
 refine CH ?_
 first|refine CH (FH hit.typeIs (CI ?_))|refine CH (FI hit.typeIs (CI ?_))
 show wpAny _ _ (setField (.ref it) 0 .none>>=_) _ _ s
 refine CH (EK ho hd (by simp) ?_)
 show wpAny _ _ (newExc (.type "StopIteration") []>>=_) _ _ _
 refine CH ?_
 simp only[newExc,newTuple]
 refine CH (DA ?_ (by size_fits))
 refine CH (m:=firstArgMember _ _) (wpAny_of_eq (a:=Value.none) (by first|rfl|(simp only[firstArgMember];rfl)) (DA ?_ (by size_fits)))
 simp only[raiseNew]
 refine CH (wpAny_handled ?_)
 rw[show A.in1.handled=none from hh]
 refine CH (CI (wpAny_throw ?_))
 refine CH (Eg (T:= "StopIteration") (b:=true) ⟨_,C4 _ rfl,rfl⟩ isSubtype_stop ?_)
 exact CI (hQ _ (((Heap.SameBut.update ..).extBut.push _).push _))
end
noncomputable def A3 (d:Addr) (o:Obj) (u:HO):It:=
 ⟨fun i H=>H d=some (.frz o u)∧i<er u,fun i H v H'=>H'=H∧∃x,eJ H u i x v,fun i H=>H d=some (.frz o u)∧er u≤i⟩
theorem uD {P:Program}{w:World}{K:CJ}{tg:Expr}(d it:Addr)(o:Obj)(u:HO)(hu:jT u)(es:Array DictEntry)(ep:Nat)(hd:o.data=.dict es ep):
  oZ P w K tg (A3 d o u) [it] it (fun i h=>h.IsValIter it d i es.size ep) where
 mem:=by simp
 obj:=fun i h st b hb=>by
  rw[CP.mp hb]
  obtain⟨oi,e,c,q⟩:=st
  exact⟨oi,e,fun v z=>by rw[q] at z;cases z⟩
 keep:=fun i h h' st k=>Heap.IsValIter.at st fun oi e=>k it (by simp) oi e
 item:=by
  intro X hP hw hK hc i pins s σ H E I hf st hg
  subst hP hw hK
  obtain⟨hH,hi⟩:=hg
  obtain⟨_,f,_,l,m,a,hz,g⟩:=eF I.hok hH hu
  rw[hd] at a;cases a
  obtain⟨f0,f1,f2,f3,f4,f5⟩:=hf it (by simp)
  have j:i<es.size:=by lia
  obtain⟨x,v,hk,r1,r2⟩:=g i j
  refine yY st f hd j fun h' st' sb=>?_
  have I1:aL X pins σ H {s with heap:=h'}:=I.turned (t':=s.toks) (fun b ob hb e=>(sb.2 b hb).trans e) f0 f1 f3 f4 f5
  obtain⟨oi,e,c,q⟩:=id st'
  exact⟨_,rfl,pT (s:={s with heap:=h'}) e c q (by decide) ⟨v,H,I1,r2,⟨rfl,x,hk⟩,st',fun b hb=>(hf b hb).1⟩⟩
 done:=by
  intro X hP hw hK hc i pins s σ H E I hf st hg
  subst hP hw hK
  obtain⟨hH,hi⟩:=hg
  obtain⟨_,f,_,l,m,a,hz,g⟩:=eF I.hok hH hu
  rw[hd] at a;cases a
  obtain⟨f0,f1,f2,f3,f4,f5⟩:=hf it (by simp)
  exact zH (I.ok.hd hc) st f hd (by lia) fun h' eb=>⟨rfl,I.turned (t':=s.toks) (fun b ob hb e=>eb b ob hb e) f0 f1 f3 f4 f5⟩
 self:=fun A i s Q E st h=>by
  refine E4 st.typeIs F.slot_dict_valueiterator_iter (Dr F.slot_dict_valueiterator_iter st.typeIs entry_dict_valueiterator_iter ?_ (F.args_dict_valueiterator_iter_1 _))
  show wpAny _ _ (ret (.ref it)) _ _ s
  exact CI ⟨_,rfl, "dict_valueiterator",_,st.typeIs,F.slot_dict_valueiterator_next.lookup,h⟩
def AL (te:TE):TI:=fun σ H R=>te σ H fun x H1=>∃d o u,x=.ref d∧H1 d=some (.frz o u)∧jT u∧R (A3 d o u) H1
theorem tX(he:PE X e te)
  (hbase:attributeBase e "values" X.env (eval e X.env)=eval e X.env:=by rfl) (hline:(apos.endLine==cpos.line)=true:=by rfl):
  PI X tg (.Call (.Attribute e "values" apos) [] [] cpos) (AL te):=by
 intro pins s σ H R I h
 refine wpAny_Call_method0_late hbase hline (bR (he pins s σ H _ I h) fun v s1 ⟨x,H1,I1,r,d,o,u,ex,hd,hu,q⟩=>?_)
 subst ex
 cases(show v=Value.ref d from r)
 obtain⟨hS,c,hc,es,ep,f,hz,_⟩:=eF I1.hok hd hu
 refine⟨"dict", "dict.values",F.plainAttrs_dict,F.slot_dict_values,F.type_dict_values,⟨o,c,hc.1⟩,fun a e2=>by cases e2;exact⟨o,c,hc.2.1⟩,Calls.callWith_builtin rfl (PySem.evalArgs_none ?_)⟩
 refine xK hS c hc ?_
 have k1:∀b ob,s1.heap.get? b=some ob→(s1.heap.push {cls:=.type "dict_values",data:=.fields #[.ref d]}).get? b=some ob:=fun b ob z=>CO _ z
 refine xO (s:={s1 with heap:=s1.heap.push {cls:=.type "dict_values",data:=.fields #[.ref d]}}) ⟨_,C4 _ rfl,rfl,rfl⟩ (k1 _ _ c) f ?_
 have I2:=I1.kept (t':=s1.toks) k1
 refine⟨_,[(s1.heap.push {cls:=.type "dict_values",data:=.fields #[.ref d]}).objs.size],_,_,H1,rfl,I2.kept (t':=s1.toks) (fun b ob z=>CO _ z),uD d _ o u hu es ep f,⟨_,C4 _ rfl,rfl,rfl⟩,fun b hb=>?_,q⟩
 rw[CP.mp hb]
 exact I2.fpOk (CM _) (I2.hok.fresh (CM _))
theorem vW {d:Addr}{o:Obj}{u:HO}{g:TG}{tb:TS}{D:eK}{σ:St}{H:Hp}(Pv:Nat→St→Hp→Prop)(h0:Pv 0 σ H)(hl:∀i σ H,i≤er u→Pv i σ H→H d=some (.frz o u))
  (hs:∀i x v σ H,eJ H u i x v→i<er u→Pv i σ H→g v σ H fun σ2 H2=>tb {D with nx:=Pv (i+1),ct:=Pv (i+1),bk:=D.nx} σ2 H2) (hd:∀σ H,Pv (er u) σ H→D.nx σ H):
  ∃W:Nat→Nat→St→Hp→Prop,(∃m,W 0 m σ H)∧∀i m σ H,W i m σ H→
   ((A3 d o u).stop i H∧D.nx σ H)∨((A3 d o u).go i H∧∃N:St→Hp→Prop,(∀σ' H',N σ' H'→∃m',m'<m∧W (i+1) m' σ' H')∧∀x H',(A3 d o u).yld i H x H'→g x σ H' fun σ2 H2=>tb {D with nx:=N,ct:=N,bk:=D.nx} σ2 H2):=by
 refine⟨fun i m σ H=>m=er u - i∧i≤er u∧Pv i σ H,⟨er u,by simp,C8 _,h0⟩,?_⟩
 rintro i m σ H ⟨rfl,hi,p⟩
 have q:=hl i σ H hi p
 by_cases hlt:i<er u
 ·refine .inr ⟨⟨q,hlt⟩,Pv (i+1),fun σ' H' p'=>⟨er u - (i+1),by lia,rfl,hlt,p'⟩,fun x H' y=>?_⟩
  obtain⟨e,v,k⟩:=y
  subst e
  exact hs i v x σ _ k hlt p
 ·have e:i=er u:=by lia
  subst e
  exact .inl ⟨⟨q,CM _⟩,hd σ H p⟩
section
variable {X:Cx}
theorem dM:∀{c d:List Int},c.map V.int=d.map V.int→c=d
 |[],[],_=>rfl
 |[],_::_,h=>by simp at h
 |_::_,[],h=>by simp at h
 |a::c,b::d,h=>by
  rw[C5,C5] at h
  injection h with h1 h2
  injection h1 with h1
  rw[h1,dM h2]
noncomputable def yN (H:Hp) (c:List Int) (u:Value):Bool:=match u with
 | .ref a=> @decide (H a=some (.tup (c.map V.int))) (Classical.propDecidable _)
 |_=>false
theorem vN(h:H a=some (.tup (d.map V.int))):yN H c (.ref a)=decide (d=c):=by
 show @decide (H a=some (.tup (c.map V.int))) (Classical.propDecidable _)=decide (d=c)
 by_cases e:d=c
 ·subst e
  rw[decide_eq_true (rfl:d=d)]
  exact @decide_eq_true _ (Classical.propDecidable _) h
 ·rw[decide_eq_false e]
  refine @decide_eq_false _ (Classical.propDecidable _) fun z=>e ?_
  rw[h] at z
  injection z with z
  injection z with z
  exact dM z
def qh (K:CJ) (neg:Bool):R2:=fun x y H Q=>∃(b p:Addr) (as:List Addr) (c:List Int) (cs:List (List Int)),x=.ref b∧y=.ref p∧H b=some (.tup (c.map V.int))∧bg K H p (as.map V.ref)∧bN H as cs∧Q (.bl (if neg then !decide (c∈cs) else decide (c∈cs))) H
theorem oW:∀{as:List Addr} {cs:List (List Int)},bN H as cs→(as.map Value.ref).any (yN H c)=decide (c∈cs)
 |_,_,.nil=>by simp
 |a::as,d::cs,.cons r t=>by
  rw[C5,List.any_cons,vN r,oW t]
  by_cases h:d=c
  ·subst h;simp
  ·have:¬c=d:=fun z=>h z.symm
   simp[h,this]
theorem oP {k:Nat}(hr:bj k X.A){pins:List (Addr×Obj)}{σ:St}{H:Hp}{s:Shared}(I:aL X pins σ H s){b:Addr}{c:List Int}(hb:H b=some (.tup (c.map V.int))):
  ∀{as:List Addr} {cs:List (List Int)},bN H as cs→∀u∈as.map Value.ref,SeqAt.EqAt X.A.in1 s u (.ref b) (yN H c u)
 |_,_,.nil=>fun u hu=>by simp at hu
 |a::as,d::cs,.cons r t=>fun u hu=>by
  rw[C5] at hu
  rcases CV.mp hu with rfl|hu
  ·obtain⟨x1,r1⟩:=(Dp.ints (K:=X.K) (ns:=d) (bH.of r)).reads I (u:=.ref a) rfl
   obtain⟨x2,r2⟩:=(Dp.ints (K:=X.K) (ns:=c) (bH.of hb)).reads I (u:=.ref b) rfl
   have:=hr.units
   have h1:=eP d
   rw[vN r,←jy]
   exact SeqAt.eqAt_reads _ _ _ _ _ _ _ _ r1 r2 (Dp.ints (K:=X.K) (H:=H) (bH.of r)).lay (Dp.ints (K:=X.K) (H:=H) (bH.of hb)).lay (by show X.A.units+1+_<_;lia)
  ·exact oP hr I hb t u hu
theorem rE(hr:bj k X.A):g6 X (compareOp .In) (qh X.K false):=by
 intro pins s σ H x y v u Q I rx ry h
 obtain⟨b,p,as,c,cs,rfl,rfl,hb,hp,ht,q⟩:=h
 cases rx
 cases ry
 obtain⟨a,rv,pl,hz⟩:=I.list hp
 cases fk rv
 refine SeqAt.in_listAt (yN H c) pl.isList (fun w hw=>oP hr I hb ht w (by simpa using hw)) ⟨.bl _,H,I,rfl,?_⟩
 rw[show(as.map Value.ref).toArray.any (yN H c)=(as.map Value.ref).any (yN H c) by simp,oW ht]
 exact q
theorem gP(hr:bj k X.A):g6 X (compareOp .NotIn) (qh X.K true):=by
 intro pins s σ H x y v u Q I rx ry h
 obtain⟨b,p,as,c,cs,rfl,rfl,hb,hp,ht,q⟩:=h
 cases rx
 cases ry
 obtain⟨a,rv,pl,hz⟩:=I.list hp
 cases fk rv
 refine SeqAt.notIn_listAt (yN H c) pl.isList (fun w hw=>oP hr I hb ht w (by simpa using hw)) ⟨.bl _,H,I,rfl,?_⟩
 rw[show(as.map Value.ref).toArray.any (yN H c)=(as.map Value.ref).any (yN H c) by simp,oW ht]
 exact q
theorem uO {ta tb:TE}{σ:St}{H:Hp}{K:CJ}{b p:Addr}{as:List Addr}{c:List Int}{cs:List (List Int)}(ha:Ev ta σ H (.ref b))(hb:Ev tb σ H (.ref p))(h1:H b=some (.tup (c.map V.int)))(h2:bg K H p (as.map V.ref))(h3:bN H as cs):Ev (fb (qh K false) ta tb) σ H (.bl (decide (c∈cs))):=
 fun _ q=>ha _ (hb _ ⟨b,p,as,c,cs,rfl,rfl,h1,h2,h3,q⟩)
theorem gN {ta tb:TE}{σ:St}{H:Hp}{K:CJ}{b p:Addr}{as:List Addr}{c:List Int}{cs:List (List Int)}(ha:Ev ta σ H (.ref b))(hb:Ev tb σ H (.ref p))(h1:H b=some (.tup (c.map V.int)))(h2:bg K H p (as.map V.ref))(h3:bN H as cs):Ev (fb (qh K true) ta tb) σ H (.bl (!decide (c∈cs))):=
 fun _ q=>ha _ (hb _ ⟨b,p,as,c,cs,rfl,rfl,h1,h2,h3,q⟩)
end
noncomputable def oB (f:Nat→Nat):Nat→Nat→Bool
 |0,_=>true
 |n+1,acc=>!(acc.testBit (f n))&&oB f n (acc|||(1<<<f n))
theorem mW {f:Nat→Nat}:∀{n acc:Nat},oB f n acc=true→∀i<n,acc.testBit (f i)=false∧∀j<n,f j=f i→j=i
 |0,_,_,i,hi=>absurd hi (EZ _)
 |n+1,acc,h,i,hi=>by
  unfold oB at h
  rw[EA] at h
  obtain⟨h1,h2⟩:=h
  have h1:acc.testBit (f n)=false:=by simpa using h1
  have ih:=mW h2
  have key:∀k<n,acc.testBit (f k)=false∧f k≠f n:=fun k hk=>by
   have:=(ih k hk).1
   rw[Nat.testBit_or,Bool.or_eq_false_iff] at this
   refine⟨this.1,fun e=>?_⟩
   have h3:=this.2
   rw[e,Nat.testBit_shiftLeft] at h3
   simp at h3
  by_cases e:i=n
  ·subst e
   refine⟨h1,fun j hj ej=>?_⟩
   by_cases e2:j=i
   ·exact e2
   ·exact absurd ej (key j (by lia)).2
  ·refine⟨(key i (by lia)).1,fun j hj ej=>?_⟩
   by_cases e2:j=n
   ·subst e2;exact absurd ej.symm (key i (by lia)).2
   ·exact(ih i (by lia)).2 j (by lia) ej
noncomputable def uN (k:Nat):Int:=reduceHash (Builtin.Tuple.tupleHashOf [((k/256:Nat):Int),((k/16%16:Nat):Int),((k%16:Nat):Int)])
def B7 (k:Nat):Nat:=(uN k%14941).toNat
theorem zr:oB B7 1024 0=true:=by decide+kernel
theorem yx(hi:i<1024)(hj:j<1024)(e:uN i=uN j):i=j:=(mW zr j hj).2 i hi (by unfold B7;rw[e])
section
variable {prog:Program} {w:World} {d:Addr} {es:Array DictEntry} {ep:Nat}
theorem vC (hd:(d==sysModules)=false):PySem.W.KdlSrc prog w "dict" d d es.size (fun i v=>∃hi:i<es.size,v=es[i].key) (fun h=>∃o,h.get? d=some o∧o.ExactDict∧o.data=.dict es ep) where
 type:=fun _ ⟨o,ho,hc,_⟩=>⟨o,ho,hc.1⟩
 there:=fun _ ⟨o,ho,_⟩=>⟨CS ho,CS ho⟩
 keep:=fun _ _ ⟨o,ho,x⟩ hk=>⟨o,hk d (.inl rfl) o ho,x⟩
 notList:=by decide
 notTuple:=by decide
 hint:=fun _ _ _ _ ⟨o,ho,hc,_⟩ hq=>PySem.W.kdl_hint_dict ⟨o,ho,hc.1⟩ hq
 iter:=fun A s hh ⟨o,ho,hc,hdat⟩=>⟨_,fun i h=>h.IsKeyIter s.heap.objs.size d i es.size ep∧∃o,h.get? d=some o∧o.data=.dict es ep,(fun _ _ hq=>r8 hd ho hc hdat hq),{
   sub:=fun b hb=>by simp at hb;simp[hb]
   frame:=fun _ _ _ ⟨st,o,h1,h2⟩ hk=>⟨kY st fun o e=>hk _ (by simp) o e,o,hk d (by simp) o h1,h2⟩
   item:=fun i s' Q E hi ⟨st,o,h1,h2⟩ hQ=>tf st h1 h2 hi fun h' st' sb=>hQ _ h' s'.toks ⟨hi,rfl⟩ ⟨st',o,(sb.2 d (C6 (CS ho))).trans h1,h2⟩ fun b o hb e=>(sb.2 b (fun z=>hb (by simp[z]))).trans e
   done:=fun s' Q E ⟨st,o,h1,h2⟩ hQ=>uS hh st h1 h2 (CM _) fun h' eb=>hQ h' s'.toks fun b o hb e=>eb b o (fun z=>hb (by simp[z])) e
   self:=fun i s' Q E ⟨st,_⟩ hQ=>wpAny_pyIter_keyiter st hQ},⟨⟨_,C4 _ rfl,rfl,rfl⟩,o,CO _ ho,hdat⟩⟩
end
section
variable {X:Cx}
end
section
variable {X:Cx}
theorem sT:∀{cs:List (List Int)} {vs:List Value},vs.length=cs.length→(∀(i:Nat) (v:Value) (c:List Int),vs[i]?=some v→cs[i]?=some c→∃a,v=.ref a∧H a=some (.tup (c.map V.int)))→∃as:List Addr,vs=as.map Value.ref∧bN H as cs
 |[],[],_,_=>⟨[],rfl,.nil⟩
 |[],_::_,h,_=>by simp at h
 |_::_,[],h,_=>by simp at h
 |c::cs,v::vs,h,f=>by
  obtain⟨a,rfl,ha⟩:=f 0 v c rfl rfl
  obtain⟨as,rfl,ht⟩:=sT (cs:=cs) (vs:=vs) (by simpa using h) fun i v c h1 h2=>f (i+1) v c (by simpa using h1) (by simpa using h2)
  exact⟨a::as,rfl,.cons ha ht⟩
theorem eM:∀c:List Int,(c.map Sum.inl:List cK).map kV=c.map V.int
 |[]=>rfl
 |a::c=>by rw[C5,C5,C5,eM c];rfl
end
section
variable {prog:Program} {w:World} {κ:Type} [DecidableEq κ] {knd:HeapKind prog w κ} {A:Around} {E:Value→Shared→Prop} {s:Shared}
end
section
variable {X:Cx}
noncomputable def ve:V→List V→Hp→VK→Prop:=fun x vs H Q=>∃a y z o,x=.ref a∧vs=[y,z]∧hZ H a y o∧Q (o.getD z) H
theorem iu(hr:bj j X.A):Bs X "dict.get" ve:=by
 intro pins s σ H x vs v us Q I rx rv h
 obtain⟨a,y,z,o,rfl,rfl,g,q⟩:=h
 cases rx
 obtain⟨u1,u2,rfl,r1,r2⟩:=g_ rv
 exact zw (bj.one hr) I g r1 r2 fun w' s' I' r'=>⟨_,H,I',r',q⟩
end
theorem qM {X:Cx}{K:CJ}{k:Nat}(e:X.K=K)(hr:bj k X.A):g6 X (compareOp .NotIn) (qh K true):=by subst e;exact gP hr
theorem iP {X:Cx}{K:CJ}(e:X.K=K):Bb X (jZ K):=by subst e;exact aH
theorem kC {X:Cx}{K:CJ}(e:X.K=K):Bb X (oO K):=by subst e;exact aU
theorem xj(Pv:Nat→St→Hp→Prop)(h0:Pv 0 σ0 (upd H1 D (.lst [])))(hl:∀i τ H,i≤er u→Pv i τ H→H d=some (.frz o u))
  (hs:∀i x v τ H,eJ H u i x v→i<er u→Pv i τ H→g x τ H fun τ2 H2=>tt τ2 H2 fun b H3=>if b=true then te τ2 H3 fun v H4=>∃acc,H4 D=some (.lst acc)∧acc.length<sizeLine∧Pv (i+1) τ2 (upd H4 D (.lst (acc++[v]))) else Pv (i+1) τ2 H3)
  (hd:∀τ H,Pv (er u) τ H→Q H):vU σ0 g tt te (AF d o u) H1 D Q:=by
 refine⟨fun i m τ H=>m=er u - i∧i≤er u∧Pv i τ H,⟨er u,by simp,C8 _,h0⟩,?_⟩
 rintro i m τ H ⟨rfl,hi,p⟩
 have q:=hl i τ H hi p
 by_cases hlt:i<er u
 ·refine .inr ⟨⟨q,hlt⟩,Pv (i+1),fun τ' H' p'=>⟨er u - (i+1),by lia,rfl,hlt,p'⟩,fun x H' y=>?_⟩
  obtain⟨e,v,k⟩:=y
  subst e
  exact hs i x v τ _ k hlt p
 ·have e:i=er u:=by lia
  subst e
  exact .inl ⟨⟨q,CM _⟩,hd τ H p⟩
section
open PySem.SeqAt
open PySem.AutoSeq1 (wpAny_loadPart')
open PySem.MeetsSeq PySem.MeetsSeq2 PySem.MeetsSeq3
end
section
variable {prog:Program} {w:World} {A:Around} {E:Value→Shared→Prop} {s:Shared}
end
section
variable {prog:Program} {w:World} {A:Around} {R:Result→Shared→Prop} {it:Addr} {fp wr:List Addr} {P:Nat→Value→Prop} {St:Nat→Heap→Prop}
end
section
variable {prog:Program} {w:World} {A:Around} {E:Value→Shared→Prop} {s:Shared}
end
section
variable {X:Cx}
end
section
variable {prog:Program} {w:World} {A:Around} {R:Result→Shared→Prop} {it:Addr} {fp wr:List Addr} {P:Nat→Value→Prop} {St:Nat→Heap→Prop}
end
section
variable {prog:Program} {w:World} {A:Around} {E:Value→Shared→Prop} {s:Shared}
end
section
variable {X:Cx}
end
section
variable {X:Cx}
end
def u7 (Ps:List Addr) (H:Hp):Prop:=∀b,H b=none∨(∃o xs,H b=some (.frz o (.lst xs)))∨(b∈Ps∧H b=some (.tbl #[]))
theorem tZ {P:Program}{w:World}{K:CJ}{mg mb:Str→Option Value}{CX:uL}{k:Nat}{fa a:Addr}{fd:FuncData}{x:Str}{sp:Sp}{s₁:Shared}{vs:List Value}{ns:List Int}{Ts:List (Addr×Addr)}
  (KX:K.In s₁.heap) (hns:s₁.heap.Ns mainGlobals mg) (hb:s₁.heap.Ns builtinsNs mb) (hbb:∀x:Str,x≠ "__name__" →mb x=bootBuiltins x) (hlim:s₁.heap.NoLimit) (hg:s₁.gens= #[])
  (ha:s₁.heap.get? a=some {cls:=.type "list",data:=.seq vs.toArray}) (hi:IntsAre vs ns) (hl:ns.length≤sizeLine) (hr:bj k callerA)
  (hT:∀q∈Ts,PySem.W.CodeHd s₁.heap q.1 q.2∧s₁.heap.get? q.2=some (PySem.W.tabObj #[])) (nK:∀q∈Ts,K.lookup q.2=none)
  (hbm:∃bm ob,mg "__builtins__" =some (.ref bm)∧bm≠builtinsNs∧s₁.heap.get? bm=some ob∧ob.cls=.type "module" ∧ob.dict=some builtinsNs∧ob.data=.plain)
  (F:∀base:Heap,K.In base→base.Ns mainGlobals mg→(∀q∈Ts,base.BuiltinsAt mg q.2∧mainGlobals≠q.2)→bJ P w K mg base CX k fa fd [x] sp) (hbind:∀(s:Shared) (u:Value),BindsTo s fd ⟨[u],[]⟩ [(x,u)])
  (hsp:∀H:Hp,u7 (Ts.map (·.2)) H→(∀q∈Ts,H q.2=some (.tbl #[]))→bg K H a (ns.map V.int)→sp [.ref a] H (fun v _=>v=.bl true) fun _ _ _=>False)
  (hCX:∀H e s',CX [] H s₁ (fun _ _ _=>False) e s'→False):
  codeAny (model P w) callerA (.call (.ref fa) ⟨[.ref a],[]⟩) (fun r s'=>r=.ok (.ret (.bool true))∧OldK s₁.heap s'.heap∧s'.os=s₁.os∧AllBare s'.gens) s₁:=by
 have rv:=mR hi
 have C:=hi.length
 have B:a∉Ts.map (·.2):=fun z=>by
  obtain⟨q,hq,e⟩:=CU.mp z
  have:=(hT q hq).2
  rw[e,ha] at this;cases this
 have l:∀H:Hp,u7 (Ts.map (·.2)) H→(∀q∈Ts,H q.2=some (.tbl #[]))→bg K H a (ns.map V.int)→fV P w H s₁.heap→(∀b,H b≠none→b=a∨b∈Ts.map (·.2))→(H a≠none→K.lookup a=none)→
   codeAny (model P w) callerA (.call (.ref fa) ⟨[.ref a],[]⟩) (fun r s'=>r=.ok (.ret (.bool true))∧OldK s₁.heap s'.heap∧s'.os=s₁.os∧AllBare s'.gens) s₁:=by
  intro H hO hTt hS hok hA hK
  have f:∀{b:Addr} {o:Obj},s₁.heap.get? b=some o→H b=none→(mh s₁.heap H).get? b=some o:=fun e n=>wB e n
  have J:∀{b:Addr} {o:Obj} {es:Array DictEntry} {ep:Nat},s₁.heap.get? b=some o→o.data=.dict es ep→H b=none:=fun{b o es ep} e d=>by
   cases q:H b with
   |none=>rfl
   |some u=>
    rcases hA b (by rw[q];simp) with e'|e'
    ·subst e'
     rw[ha] at e;cases e
     have d':Data.seq vs.toArray _=Data.dict es ep:=d
     cases d'
    ·obtain⟨r,c,rfl⟩:=CU.mp e'
     rw[(hT r c).2] at e;cases e
     cases d
  have j:∀{b:Addr} {m:Str→Option Value},s₁.heap.Ns b m→(mh s₁.heap H).Ns b m:=fun{b m} ⟨o,es,ep,e,d,r⟩=>⟨o,es,ep,f e (J e d),d,r⟩
  have A:K.In (mh s₁.heap H):=fun b o e=>f (KX b o e) (by
   cases q:H b with
   |none=>rfl
   |some u=>
    rcases hA b (by rw[q];simp) with e'|e'
    ·subst e'
     rw[hK (by rw[q];simp)] at e;cases e
    ·obtain⟨r,c,rfl⟩:=CU.mp e'
     rw[nK r c] at e;cases e)
  have hM:Mod K mg (mh s₁.heap H):=⟨A,j hns,⟨mb,j hb,hbb⟩,let ⟨mc,h1,h2⟩:=hlim;⟨mc,j h1,h2⟩⟩
  have e0:j7 P w K mg (mh s₁.heap H) callerA [] s₁ H:=⟨rfl,hM,fun b o e=>yz e,Nat.le_of_eq (t9 _ _),trivial,fun b hb=>absurd (show b∈([]:List Addr) from hb) (by simp),hok,.of_eq hg⟩
  have M:∀q∈Ts,(mh s₁.heap H).BuiltinsAt mg q.2∧mainGlobals≠q.2:=fun q hq=>by
   obtain⟨bm,ob,b1,b2,b3,b4,b5,b6⟩:=hbm
   have I:mainGlobals≠q.2:=fun z=>by
    obtain⟨o,es,ep,e,hd,_⟩:=hns
    rw[z,(hT q hq).2] at e;cases e;cases hd
   have N:bm≠q.2:=fun z=>by rw[z,(hT q hq).2] at b3;cases b3;cases b6
   have D:bm≠mainGlobals:=fun z=>by
    obtain⟨o,es,ep,e,hd,_⟩:=hns
    rw[z,e] at b3;cases b3;rw[hd] at b6;cases b6
   have E:H bm=none:=by
    cases qq:H bm with
    |none=>rfl
    |some u=>
     exfalso
     rcases hA bm (by rw[qq];simp) with e'|e'
     ·rw[e',ha] at b3;cases b3;cases b6
     ·obtain⟨r,c,L⟩:=CU.mp e'
      rw[←L,(hT r c).2] at b3;cases b3;cases b6
   exact⟨⟨bm,ob,b1,b2,D,N,f b3 E,b4,b5,b6⟩,I⟩
  refine codeAny_mono ((F _ A (j hns) M).run callerA [] s₁ H ⟨[.ref a],[]⟩ [.ref a] [.ref a] _ _ hr e0 (hbind s₁ (.ref a)) (.cons rfl .nil) (hsp H hO hTt hS)) fun r s' h=>?_
  cases r with
  |error e=>exact(hCX H e s' h).elim
  |ok fl=>
   cases fl with
   |next=>exact False.elim h
   |brk=>exact False.elim h
   |cont=>exact False.elim h
   |ret u=>
    obtain⟨v,H',os,bare,un,p,r',q⟩:=h
    have q':v=.bl true:=q
    subst q'
    obtain rfl:u=Value.bool true:=r'
    have i:∀b o,s₁.heap.get? b=some o→s'.heap.get? b=some o∨∃r∈Ts,r.2=b∧∃more,s'.heap.get? b=some (PySem.W.tabObj (#[]++more)):=fun b o e=>by
     cases q:H b with
     |none=>exact .inl (un.keep b o e q (by intro z;exact absurd (show b∈([]:List Addr) from z) (by simp)) (by simp))
     |some u=>
      rcases hO b with z|⟨ob,xs,z⟩|⟨hb',z⟩
      ·rw[q] at z;cases z
      ·have z2:=un.frzs b ob _ z
       obtain⟨e1,_⟩:=hok b _ z
       obtain⟨e2,_⟩:=p b _ z2
       rw[e] at e1;cases e1
       exact .inl e2
      ·obtain⟨more,z2⟩:=un.tbls b _ z
       obtain⟨r,c,e'⟩:=CU.mp hb'
       exact .inr ⟨r,c,e',more,p b _ z2⟩
    refine⟨rfl,⟨fun b o e=>?_,fun b o e=>?_⟩,os,bare⟩
    ·rcases i b o e with z|⟨r,c,rfl,more,z⟩
     ·exact .inl z
     ·obtain⟨h1,h2⟩:=hT r c
      rw[h2] at e;cases e
      exact .inr (.inl ⟨(h1.tab h2).isCodeTable,rfl,#[],more,rfl,z⟩)
    ·rcases i b o e with z|⟨r,c,rfl,more,z⟩
     ·exact⟨_,z⟩
     ·exact⟨_,z⟩
 have y:∀q∈Ts,q.2∈Ts.map (·.2):=fun q hq=>CU.mpr ⟨q,hq,rfl⟩
 have g:∀(H:Hp) b,b∈Ts.map (·.2)→bL P w H s₁.heap b (.tbl #[]):=fun H b hb'=>by
  obtain⟨r,c,rfl⟩:=CU.mp hb'
  exact(hT r c).2
 cases hk:K.lookup a with
 |some o=>
  have e:=KX a o hk
  rw[ha] at e
  cases e
  refine l (fun b=>if b∈Ts.map (·.2) then some (.tbl #[]) else none) (fun b=>?_) (fun q hq=>if_pos (y q hq)) (.inr ⟨_,vs.toArray,_,hk,rfl,rfl,rfl,by rw[De,C];exact hl,by simpa using rv⟩) (fun b u z=>?_) (fun b z=>?_) fun z=>absurd (if_neg B) z
  ·by_cases hb:b∈Ts.map (·.2)
   ·exact .inr (.inr ⟨hb,if_pos hb⟩)
   ·exact .inl (if_neg hb)
  ·by_cases hb:b∈Ts.map (·.2)
   ·have z':=(if_pos hb).symm.trans z
    cases z'
    exact g _ b hb
   ·have z':=(if_neg hb).symm.trans z
    cases z'
  ·by_cases hb:b∈Ts.map (·.2)
   ·exact .inr hb
   ·exact absurd (if_neg hb) z
 |none=>
  refine l (fun b=>if b=a then some (.frz {cls:=.type "list",data:=.seq vs.toArray} (.lst (ns.map V.int))) else if b∈Ts.map (·.2) then some (.tbl #[]) else none) (fun b=>?_) (fun q hq=>?_) (.inl (.inr ⟨{cls:=.type "list",data:=.seq vs.toArray},if_pos rfl⟩)) (fun b u z=>?_) (fun b z=>?_) fun _=>hk
  ·by_cases hb:b=a
   ·exact .inr (.inl ⟨_,_,if_pos hb⟩)
   ·by_cases hb2:b∈Ts.map (·.2)
    ·exact .inr (.inr ⟨hb2,(if_neg hb).trans (if_pos hb2)⟩)
    ·exact .inl ((if_neg hb).trans (if_neg hb2))
  ·have:q.2≠a:=fun z=>B (z▸y q hq)
   exact(if_neg this).trans (if_pos (y q hq))
  ·by_cases hb:b=a
   ·have z':=(if_pos hb).symm.trans z
    cases z'
    subst hb
    exact⟨ha,by rw[CK];exact hl,vs,_,rv,ha⟩
   ·by_cases hb2:b∈Ts.map (·.2)
    ·have z':=((if_neg hb).trans (if_pos hb2)).symm.trans z
     cases z'
     exact g _ b hb2
    ·have z':=((if_neg hb).trans (if_neg hb2)).symm.trans z
     cases z'
  ·by_cases hb:b=a
   ·exact .inl hb
   ·by_cases hb2:b∈Ts.map (·.2)
    ·exact .inr hb2
    ·exact absurd ((if_neg hb).trans (if_neg hb2)) z
theorem walk_ofT {l:PySem.W.OpenLaw}{n k:Nat}{q:Program}{loose:List Str}{XP:(Str→Option Value)→Heap→Prop}{YP:World→Heap→Prop}{d:DefRec}{K:Params→CJ}{CX:World→uL}{sp:World→Sp}{x:Str}{xs:List Str}
  (hn:l.most=some n) (hn2:n≤sizeLine) (hdf:d.params.defaults=[]) (hr:bj k callerA)
  (hY:∀(w:World) (h:Heap),YP w h→(K w.params).In h)
  (Ts:World→List (Addr×Addr))
  (hrec:∀y∈xs,∃e,(recsOf q).find? (fun e=>e.name==y)=some e)
  (hts:∀(w:World),∀t∈Ts w,(∃y∈xs,Fp (K w.params) y=some t)∧(K w.params).lookup t.2=none)
  (F:∀(w:World) (mg:Str→Option Value) (fa:Addr) (h:Heap),(K w.params).In h→h.Ns mainGlobals mg→mg d.name=some (.ref fa)→
   ∃fd:FuncData,(∀(s:Shared) (u:Value),BindsTo s fd ⟨[u],[]⟩ [(x,u)])∧
    ∀base:Heap,(K w.params).In base→base.Ns mainGlobals mg→(∀t∈Ts w,base.BuiltinsAt mg t.2∧mainGlobals≠t.2)→bJ l.prog w (K w.params) mg base (CX w) k fa fd [x] (sp w))
  (hsp:∀(w:World) (H:Hp) (a:Addr) (ns:List Int),ns.length≤n→u7 ((Ts w).map (·.2)) H→(∀t∈Ts w,H t.2=some (.tbl #[]))→bg (K w.params) H a (ns.map V.int)→sp w [.ref a] H (fun v _=>v=.bl true) fun _ _ _=>False)
  (hCX:∀(w:World) (H:Hp) (s:Shared) (e:Value) (s':Shared),CX w [] H s (fun _ _ _=>False) e s'→False):
  PySem.W.WalkO q loose XP YP l.row.toRowW d [] (fun f vs=>PySem.call f vs):=by
 refine Att.attach_call hn hdf fun w s₀ s₁ mg mb fa o pm cd doc a vs ns G Y ho hd hcd hmg hobj hints hlen hg=>?_
 have KX:=hY w _ Y
 obtain⟨fd,hb,hF⟩:=F w mg fa _ KX G.T.g hmg
 refine tZ (Ts:=Ts w) KX G.T.g G.T.b G.T.builtins G.T.nolimit hg hobj hints (Df hlen hn2) hr (fun t ht=>?_) (fun t ht=>(hts w t ht).2) G.T.bmain hF hb (fun H hO hT hS=>hsp w H a ns hlen hO hT hS) fun H e s'=>hCX w H s₁ e s'
 obtain⟨⟨y,hy,e⟩,_⟩:=hts w t ht
 obtain⟨r,b⟩:=hrec y hy
 exact PySem.W.tab_of G.T KX b e
def iS (a:Addr) (o:Obj):HO:=.ext fun h=>h.get? a=some o
theorem oJ(e:h.get? a=some o):bL P w H h a (iS a o):=⟨e,⟨o,e⟩,fun _ _ e1 k=>k _ e1⟩
def kL (oc:Obj) (c:Addr) (qual:Str):Prop:=∀h:Heap,h.get? c=some oc→h.CodeRec (.ref c) qual
def B3 (P:Addr) (pos:Pos) (qual:Str) (mk:Addr→Value→Obj):TE:=fun _ H Q=>∃ps,H P=some (.tbl ps)∧TriplesOk ps.toList∧codeAmong pos ps.toList=none∧
 ∀f c' oc ctv,H f=none→H c'=none→f≠c'→kL oc c' qual→Q (.ref f) (upd (upd (upd H P (.tbl (ps++ #[rawInt pos.line,rawInt pos.col,.ref c']))) c' (iS c' oc)) f (iS f (mk c' ctv)))
theorem Aa{clos:List (Str×Addr)}(hdef:defaultsOf params X.env=([],[]))(hcl:closureFor scope X.env=pure clos)(hcode:X.env.code=.ref c)
  (hC:Fq X.K c P=true) (hB:X.base.BuiltinsAt X.mg P) (hgP:mainGlobals≠P):
  PE X (.Lambda params body scope pos) (B3 P pos (X.env.qual++ "<lambda>") fun c' ctv=>EM "<lambda>" (X.env.qual++ "<lambda>") params body scope clos ((X.mg "__name__").getD .none) c' ctv):=by
 intro pins s σ H Q I h
 obtain⟨ps,hP,ht,p,q⟩:=h
 have v:s.heap.get? P=some (PySem.W.tabObj ps):=I.hok P _ hP
 refine PySem.W.kla_eval hdef (PySem.W.kla_makeFunction hcl I.ok.glob (I.mod.glob.keeps I.bk) hcode (PySem.W.codeHd_of_K I.kIn hC) v ht p hgP
  (let ⟨bm,o,h1,h2,h3,h4,h5,r⟩:=hB;⟨bm,o,h1,h2,h3,h4,I.bk _ _ h5,r⟩) fun c' ctv h' tk hx hge hlt hrec hP'=>?_)
 obtain⟨oc,hoc⟩:∃oc,h'.get? c'=some oc:=by
  obtain⟨a,o,_,_,e0,e1,_⟩:=hrec
  cases e0
  exact⟨o,e1⟩
 have w:s.heap.objs.size≤h'.objs.size:=by
  have:c'<h'.objs.size:=hlt
  lia
 have i:s.heap.get? c'=none:=El hge
 have j:s.heap.get? h'.objs.size=none:=El w
 have d:H c'=none:=I.hok.none_of i
 have f:H h'.objs.size=none:=I.hok.none_of j
 have k:h'.objs.size≠c':=DY hlt
 have x:P≠c':=ak hP d
 have l:P≠h'.objs.size:=ak hP f
 refine⟨.ref h'.objs.size,_,?_,rfl,q h'.objs.size c' oc ctv f d k fun h1 e1=>?_⟩
 ·have kp:∀b o,b≠P→s.heap.get? b=some o→(h'.push (EM "<lambda>" (X.env.qual++ "<lambda>") params body scope clos ((X.mg "__name__").getD .none) c' ctv)).get? b=some o:=fun b o hb e=>CO _ (hx b o hb e)
  have g:∀b,H b=none→b≠P:=fun b n z=>by rw[z,hP] at n;cases n
  have new:∀b u,s.heap.get? b=some u→b≠c'∧b≠h'.objs.size:=fun b u e=>⟨fun z=>(by rw[z,i] at e;cases e),fun z=>(by rw[z,j] at e;cases e)⟩
  refine I.step (g':=s.gens) (d':=s.drawn) (ch:=[]) (fun _ z=>nomatch z) (fun b o _ _ _ e n=>kp b o (g b n) e) (fun b o _ _ _ e n=>⟨o.slots,kp b o (g b n) e⟩) (fun b o _ e n=>?_) (fun b o _ e=>?_) (fun b xs e=>?_) (fun b o u e=>?_) (fun b ps' e=>?_) (fun m hm=>?_) (fun b u e=>?_) I.bare
  ·rw[aj (new b o e).2,aj (new b o e).1,aj (g b n)];exact n
  ·by_cases hb:b=P
   ·subst hb;exact⟨_,CO _ hP'⟩
   ·exact⟨o,kp b o hb e⟩
  ·rw[aj (ak e f),aj (ak e d),aj (cN e hP (fun z=>nomatch z))];exact e
  ·rw[aj (ak e f),aj (ak e d),aj (cN e hP (fun z=>nomatch z))];exact e
  ·by_cases hb:b=P
   ·subst hb
    rw[hP] at e;cases e
    exact⟨_,by rw[aj l,aj x,ag]⟩
   ·exact⟨#[],by rw[aj (ak e f),aj (ak e d),aj hb,e];simp⟩
  ·exact(hm.extBut hx (fun z=>by rw[←z,I.free] at hP;cases hP)).push _
  ·by_cases hbf:b=h'.objs.size
   ·subst hbf
    rw[ag] at e;cases e
    exact oJ (C4 _ rfl)
   rw[aj hbf] at e
   by_cases hbc:b=c'
   ·subst hbc
    rw[ag] at e;cases e
    exact oJ (CO _ hoc)
   rw[aj hbc] at e
   by_cases hbP:b=P
   ·subst hbP
    rw[ag] at e;cases e
    exact CO _ hP'
   rw[aj hbP] at e
   refine(I.hok b u e).stay (fun b2 u2 hb2 e2=>kp b2 u2 ?_ e2) (fun b2 e2=>?_) (fun b2 xs e2=>?_)
   ·rcases hb2 with z|z
    ·rw[z];exact hbP
    ·exact cN z hP (fun z=>nomatch z)
   ·rw[aj (ak e2 f),aj (ak e2 d),aj (cN e2 hP (fun z=>nomatch z))];exact e2
   ·rw[aj (ak e2 f),aj (ak e2 d),aj (cN e2 hP (fun z=>nomatch z))];exact e2
 ·obtain⟨a,o,vs,t,e0,e2,r⟩:=hrec
  cases e0
  rw[hoc] at e2;cases e2
  exact⟨_,_,vs,t,rfl,e1,r⟩
structure iD (ps:List Str) (clos:List (Str×Addr)) (scope:Scope):Prop where
 kind:scope.kind=.function
 co:scope.isCoroutine=false
 gen:scope.isGenerator=false
 nocell:∀x∈scope.names,x.2≠.cell
 par:∀x∈ps,scope.names.lookup x=some .local
 free:∀x,scope.names.lookup x=some .free→∃c,clos.lookup x=some c
 fr:∀x∈clos.map (·.1),scope.names.lookup x=some .free
 nd:(ps++clos.map (·.1)).Nodup
 inj:∀x y c,clos.lookup x=some c→clos.lookup y=some c→x=y
noncomputable def jz (qual:Str) (scope:Scope) (clos:List (Str×Addr)) (L f:Addr) (cd:Value):Env:=newEnv scope L mainGlobals clos (qual++ ".<locals>.") (some f) cd none builtinsNs
noncomputable def sW (P:Program) (w:World) (K:CJ) (mg:Str→Option Value) (base:Heap) (ps:List Str) (clos:List (Str×Addr)) (qual:Str) (scope:Scope) (f:Addr) (cd:Value) (A:Around) (outer:List Env) (s:Shared) (H:Hp):Cx where
 prog:=P
 w:=w
 K:=K
 mg:=mg
 base:=base
 A:=A.deeper (jz qual scope clos s.heap.objs.size f cd)
 N:=ps++clos.map (·.1)
 s₀:=s
 H₀:=H
 env:=jz qual scope clos s.heap.objs.size f cd
 outer:=outer
 stack:=jz qual scope clos s.heap.objs.size f cd::outer
 ex:=[]
 fn:=fun _=>false
 calm:=true
 pn:=[]
 xe:=fun _ _=>False
theorem jE {β:Type}:∀{l:List (Str×β)} {x:Str} {u:β},(l.map (·.1)).Nodup→(x,u)∈l→l.lookup x=some u
 |[],_,_,_,h=>by simp at h
 |(y,v)::r,x,u,hn,h=>by
  rw[C5,Ds] at hn
  rw[DF]
  rcases CV.mp h with e|h
  ·cases e;simp
  ·have:¬x=y:=fun z=>hn.1 (by rw[←z];exact CU.mpr ⟨_,h,rfl⟩)
   have hb:(x==y)=false:=by simpa using this
   rw[hb]
   exact jE hn.2 h
theorem yn {P:Program}{w:World}{K:CJ}{mg:Str→Option Value}{base:Heap}{ps:List Str}{clos:List (Str×Addr)}{qual:Str}{scope:Scope}{f:Addr}{cd:Value}{A:Around}{outer:List Env}{s:Shared}{H:Hp}{us:List Value}{vs cvs:List V}{h':Heap}{tk:Nat}{fo:Obj}
  (S:iD ps clos scope) (hd:A.handled=none) (e0:j7 P w K mg base A outer s H) (hl:vs.length=ps.length) (r:bh vs us) (hcl:cvs.length=clos.length)
  (hc:∀(i:Nat) x c v,clos[i]?=some (x,c)→cvs[i]?=some v→H c=none∧∃u,aT v u∧s.heap.IsCell c (some u))
  (hns:h'.Ns s.heap.objs.size fun x=>(ps.zip us).reverse.lookup x) (hsb:Heap.SameBut s.heap.objs.size (s.heap.push fo) h'):
  aL (sW P w K mg base ps clos qual scope f cd A outer s H) [] (vs.map some++cvs.map some) H {s with heap:=h',toks:=tk}:=by
 have hk:∀b o,s.heap.get? b=some o→h'.get? b=some o:=fun b o e=>(hsb.2 b (C6 (CS e))).trans (CO _ e)
 have nd:=FJ.mp S.nd
 have g:∀x c,clos.lookup x=some c→∃(i:Nat) (v:V),clos[i]?=some (x,c)∧cvs[i]?=some v:=fun x c h=>by
  obtain⟨i,hi⟩:=DD.mp (PySem.mem_of_lookup h)
  have k:=(C7.mp hi).1
  exact⟨i,cvs[i],hi,Dd (by lia)⟩
 have j:∀c v,s.heap.IsCell c v→h'.IsCell c v:=fun c v ⟨o,ho,hd⟩=>⟨o,hk _ _ ho,hd⟩
 refine⟨⟨e0.mod,S.kind,rfl,rfl,CM _,S.inj,fun y hy=>?_,fun y c z _=>absurd z C0,fun _=>hd,Around.frames_deeper e0.frames,.inr ⟨rfl,rfl⟩,fun b z=>absurd (show b∈([]:List Addr) from z) (by simp),e0.bs,e0.bsz,fun b _ _ z=>absurd (show b∈([]:List Addr) from z) (by simp),fun b z=>absurd (show b∈([]:List Addr) from z) (by simp),e0.funs,e0.frf⟩,
  rfl,e0.bare,Un.kept hk,⟨_,hns,fun i y v h1 h2 h3=>?_⟩,fun y c h=>?_,e0.hok.fresh (CM _),fun y c h=>?_,fun p hp=>absurd (show p∈([]:List (Addr×Obj)) from hp) (by simp),e0.hok.kept hk,?_⟩
 ·have hy:scope.names.lookup y=some .cell∨scope.names.lookup y=some .free:=hy
  rcases hy with hy|hy
  ·exact absurd rfl (S.nocell _ (PySem.mem_of_lookup hy))
  ·exact S.free y hy
 ·have h1:(ps++clos.map (·.1))[i]?=some y:=h1
  by_cases hi:i<ps.length
  ·rw[Ef hi] at h1
   rw[Ef (by rw[CK];lia),CW] at h2
   have ha:vs[i]?=some v:=by
    cases e:vs[i]? with
    |none=>rw[e] at h2;cases h2
    |some a=>rw[e] at h2;cases h2;rfl
   obtain⟨u,hu,rv⟩:=r.get ha
   refine⟨u,rv,.inl ⟨S.par y (C2 h1),?_⟩⟩
   refine jE ?_ (List.mem_reverse.mpr (DD.mpr ⟨i,by rw[List.getElem?_zip_eq_some];exact⟨h1,hu⟩⟩))
   rw[List.map_reverse]
   refine(List.reverse_perm _).nodup_iff.mpr ?_
   rw[List.map_fst_zip (by have:=r.length;lia)]
   exact nd.1
  ·rw[Ee (by lia),CW] at h1
   rw[Ee (by rw[CK];lia),CW,CK,hl] at h2
   obtain⟨⟨y',c⟩,e1,e2⟩:=Do.mp h1
   cases e2
   obtain⟨v',e3,e4⟩:=Do.mp h2
   cases e4
   obtain⟨_,u,rv,d⟩:=hc _ _ _ _ e1 e3
   have hm:(y',c)∈clos:=C2 e1
   exact⟨u,rv,.inr ⟨.inr (S.fr y' (CU.mpr ⟨_,hm,rfl⟩)),c,jE nd.2.1 hm,j _ _ d⟩⟩
 ·obtain⟨i,v,e1,e2⟩:=g y c h
  obtain⟨_,u,_,d⟩:=hc _ _ _ _ e1 e2
  exact⟨_,j _ _ d⟩
 ·obtain⟨i,v,e1,e2⟩:=g y c h
  exact(hc _ _ _ _ e1 e2).1
 ·show(vs.map some++cvs.map some).length=(ps++clos.map (·.1)).length
  rw[C_,C_,CK,CK,CK]
  lia
theorem y_ {CX:uL}{P:Program}{w:World}{K:CJ}{mg:Str→Option Value}{base:Heap}{k:Nat}{f c':Addr}{name qual:Str}{params:Arguments}{body:Expr}{scope:Scope}{pm ctv:Value}{ps:List Str}{clos:List (Str×Addr)}{A:Around}{outer:List Env}{s:Shared}{H:Hp}{args:Args}{us:List Value}{vs cvs:List V}{Q:VK}{E:XK}
  (ho:s.heap.get? f=some (EM name qual params body scope clos pm c' ctv)) (hrec:s.heap.CodeRec (.ref c') qual) (S:iD ps clos scope) (hr:bj (k+1) A) (e0:j7 P w K mg base A outer s H) (hl:vs.length=ps.length) (r:bh vs us) (hcl:cvs.length=clos.length)
  (hc:∀(i:Nat) x c v,clos[i]?=some (x,c)→cvs[i]?=some v→H c=none∧∃u,aT v u∧s.heap.IsCell c (some u)) (hb:BindsTo s (PySem.W.kla_fn name qual params body scope clos pm (.ref c') ctv) args (ps.zip us))
  (hbody:bj k (A.deeper (jz qual scope clos s.heap.objs.size f (.ref c')))→∃te,PE (sW P w K mg base ps clos qual scope f (.ref c') A outer s H) body te∧te (vs.map some++cvs.map some) H Q):
  codeAny (model P w) A (.call (.ref f) args) (CR CX outer P w H s Q E) s:=by
 have a:s.heap.NoLimit:=e0.mod.nolimit.keeps fun b o e=>(e0.bs b o e).1
 refine PySem.W.kla_callFunE hr.depth ho rfl S.co S.gen rfl hrec (hb _ _ _ _ ?_)
 refine wpAny_newFunctionEnv S.nocell (fun x hx=>S.par x.1 (Fd hx).1) (fun h' hns hsb=>?_) S.kind
 have hk:∀b o,s.heap.get? b=some o→h'.get? b=some o:=fun b o e=>(hsb.2 b (C6 (CS e))).trans (CO _ e)
 refine⟨a.keeps hk,PySem.W.kla_codeExpr ?_⟩
 obtain⟨te,ht,hq⟩:=hbody (hr.deeper _)
 have I:=yn (qual:=qual) (f:=f) (cd:=.ref c') (tk:=s.toks+(ps.zip us).length) S hr.hd e0 hl r hcl hc hns hsb
 exact Dy (ht [] _ _ H Q I hq) (fun v s' ⟨x,H',J,rx,q⟩=>⟨x,H',J.os,J.bare,J.base,J.hok,rx,q⟩) fun e s' z=>False.elim z
noncomputable def drp (H:Hp) (c:Addr):Hp:=fun b=>if b=c then none else H b
theorem fy:drp H c c=none:=if_pos rfl
theorem kU(h:b≠c):drp H c b=H b:=if_neg h
theorem fX(h:H b=none):drp H c b=none:=by
 by_cases e:b=c
 ·rw[e];exact fy
 ·rw[kU e];exact h
theorem fi(h:H b=some u)(hc:H c=some v)(d:u≠v):drp H c b=some u:=by rw[kU (cN h hc d)];exact h
theorem jD(h:∀φ,u≠.ext φ):u≠iS a o:=h _
theorem xm(ok:fV P w H h)(hc:H c=some (iS c o)):fV P w (drp H c) h:=fun a u e=>by
 by_cases ha:a=c
 ·subst ha;rw[fy] at e;cases e
 rw[kU ha] at e
 exact(ok a u e).stay (fun _ _ _ z=>z) (fun b z=>fi z hc (jD fun φ q=>nomatch q)) (fun b xs z=>fi z hc (jD fun φ q=>nomatch q))
theorem j7.drp {P:Program}{w:World}{K:CJ}{mg:Str→Option Value}{base:Heap}{A:Around}{outer:List Env}{s:Shared}{H:Hp}{c:Addr}{o:Obj}(e:j7 P w K mg base A outer s H)(hc:H c=some (iS c o)):j7 P w K mg base A outer s (L2.drp H c):=
 ⟨e.frames,e.mod,fun b ob z=>⟨(e.bs b ob z).1,fX (e.bs b ob z).2⟩,e.bsz,e.funs,fun b hb=>fX (e.frf b hb),xm e.hok hc,e.bare⟩
theorem zb(hc:H c=some (iS c o))(ho:s.heap.get? c=some o)(nf:c∉sS outer)
  (h:CE outer P w (drp H c) s (fun v H'=>H' c=none→Q v (upd H' c (iS c o))) u s'):CE outer P w H s Q u s':=by
 obtain⟨v,H',os,bare,un,f,rv,q⟩:=h
 have hk:s'.heap.get? c=some o:=un.keep c o ho fy nf (by simp)
 have hn:H' c=none:=un.free c o ho fy (by simp)
 have d:∀b,H b=none→b≠c:=fun b z e=>by rw[e,hc] at z;cases z
 refine⟨v,_,os,bare,⟨fun b ob e n hb hx=>un.keep b ob e (fX n) hb hx,fun b ob e n hb hx=>un.slot b ob e (fX n) hb hx,fun b ob e n hx=>?_,un.there,fun b xs e=>?_,fun b ob x e=>?_,fun b ps e=>?_⟩,fun a x e=>?_,rv,q hn⟩
 ·rw[aj (d b n)];exact un.free b ob e (fX n) hx
 ·have z:=un.tups b xs (fi e hc (jD fun φ q=>nomatch q))
  rw[aj (ak z hn)];exact z
 ·have z:=un.frzs b ob x (fi e hc (jD fun φ q=>nomatch q))
  rw[aj (ak z hn)];exact z
 ·obtain⟨more,z⟩:=un.tbls b ps (fi e hc (jD fun φ q=>nomatch q))
  exact⟨more,by rw[aj (ak z hn)];exact z⟩
 ·by_cases ha:a=c
  ·subst ha
   rw[ag] at e;cases e
   exact oJ hk
  ·rw[aj ha] at e
   exact(f a x e).stay (fun _ _ _ z=>z) (fun b z=>by rw[aj (ak z hn)];exact z) (fun b xs z=>by rw[aj (ak z hn)];exact z)
theorem xM(ok:fV P w H h)(hc:H c=none)(ho:h.get? c=some o):fV P w (upd H c (iS c o)) h:=fun a u e=>by
 by_cases ha:a=c
 ·subst ha
  rw[ag] at e;cases e
  exact oJ ho
 ·rw[aj ha] at e
  exact(ok a u e).stay (fun _ _ _ z=>z) (fun b z=>by rw[aj (ak z hc)];exact z) (fun b xs z=>by rw[aj (ak z hc)];exact z)
section
variable {X:Cx} {pins:List (Addr×Obj)} {σ:St} {H:Hp} {s:Shared}
theorem aL.ownCell (I:aL X pins σ H s){i:Nat}{y:Str}{v:V}{c:Addr}(hN:X.N[i]?=some y)(hσ:σ[i]?=some (some v))(hk:X.env.scope.names.lookup y=some .cell)(hcl:X.env.cells.lookup y=some c)(hL:X.env.locals<c):
  ∃o u,s.heap.get? c=some o∧o.data=.cell (some u)∧aT v u∧H c=none∧X.base.get? c=none∧c∉sS X.stack:=by
 obtain⟨m,hn,hl⟩:=I.loc
 obtain⟨u,r,l⟩:=hl i y v hN hσ (.inr (.inl hk))
 have a:∃c,X.env.cells.lookup y=some c∧s.heap.IsCell c (some u):=by
  rcases l with ⟨z,_⟩|⟨_,z⟩
  ·have z':X.env.scope.names.lookup y=some .local:=z
   rw[hk] at z';cases z'
  ·exact z
 obtain⟨c',b,o,ho,hd⟩:=a
 rw[hcl] at b;cases b
 have d:X.s₀.heap.objs.size≤X.env.locals:=I.ok.above
 refine⟨o,u,ho,hd,r,I.freeC y c hcl,El (Df I.ok.bsz (Df d (Nat.le_of_lt hL))),fun hb=>?_⟩
 rcases CV.mp (I.stkSub c hb) with z|z
 ·exact DY hL z
 ·obtain⟨_,o2,e,_⟩:=I.ok.funs.mem z
  exact DL _ (Dv (Nat.lt_trans (CS e) (Nat.lt_of_le_of_lt d hL)) (CM _))
end
section
variable {M:Model} {A:Around} {E:Value→Shared→Prop} {s:Shared} {env:Env} {pos:Pos} {f:Addr} {Q:Value→Shared→Prop}
theorem o9{bC:List Expr}(h:wpAny M A (spliced (backTo pos (starEach (e::bC) env))) (fun vs s₁=>(∃o fd,s₁.heap.get? f=some o∧o.data=.func fd)∧wpAny M A (call (.ref f) vs) Q E s₁) E s)
  (he:starEach (e::bC) env=(false,eval e env)::starEach bC env) (hplain:(backTo pos (starEach bC env)).any (·.1)=false):
  wpAny M A (callWith pos (.ref f) [] (backTo pos (starEach (e::bC) env)) []) Q E s:=by
 rw[he] at h⊢
 refine PySem.W.callWith_of (P:=fun h=>∃o fd,h.get? f=some o∧o.data=.func fd) (by show((false||(backTo pos (starEach bC env)).any (·.1))||false)=false;rw[hplain];rfl) (fun h ⟨o,fd,ho,hd⟩=>⟨.frame,.inl rfl,?_⟩) (Calls.evalArgs_plain h)
 obtain⟨a,di,da,sl⟩:=o
 cases hd
 exact(PySem.W.Looks.ld (part:=none) ho).andThen .now
end
section
variable {X:Cx}
def Aq (r:Addr→List V→Hp→VK→Prop) (te:TE) (t:TA):TE:=fun σ H Q=>te σ H fun x H1=>∃f o fd,x=.ref f∧o.data=.func fd∧t σ H1 fun vs H2=>H2 f=some (iS f o)∧r f vs H2 Q
theorem uY{r:Addr→List V→Hp→VK→Prop}(hf:PE X (.Name x p) te)(hr:∀f,dO X (.ref f) (r f))(ha:PA X (e::es) t)
  (he:starEach (e::es) X.env=(false,eval e X.env)::starEach es X.env:=by rfl) (hpl:(backTo pos (starEach es X.env)).any (·.1)=false:=by rfl):
  PE X (.Call (.Name x p) (e::es) [] pos) (Aq r te t):=by
 intro pins s σ H Q I h
 refine Ed (bR (hf pins s σ H _ I h) fun v s1 ⟨z,H1,I1,rz,f,o,fd,ez,hd,q⟩=>?_)
 subst ez
 cases(show v=Value.ref f from rz)
 exact o9 (bR (ha pos pins s1 σ H1 _ I1 q) fun us s2 ⟨vs,H2,I2,r2,hH2,q2⟩=>⟨⟨o,fd,(I2.hok _ _ hH2).1,hd⟩,hr f pins s2 σ H2 vs us Q I2 r2 q2⟩) he hpl
theorem tJ(hr:bj (k+1) X.A)(hps:∀c,iD ps [(y,c)] scope)
  (hb:∀(s:Shared) (us:List Value) (c c':Addr) (ctv:Value),us.length=ps.length→BindsTo s (PySem.W.kla_fn name qual params body scope [(y,c)] pm (.ref c') ctv) ⟨us,[]⟩ (ps.zip us))
  (hbody:∀(f c c':Addr) (A:Around) (outer:List Env) (s:Shared) (H:Hp),bj k (A.deeper (jz qual scope [(y,c)] s.heap.objs.size f (.ref c')))→PE (sW X.prog X.w X.K X.mg X.base ps [(y,c)] qual scope f (.ref c') A outer s H) body te) (f:Addr):
  dO X (.ref f) (fun vs H Q=>∃(c c':Addr) (ctv:Value) (oc o:Obj) (u:Value) (v:V),H f=some (iS f (EM name qual params body scope [(y,c)] pm c' ctv))∧H c'=some (iS c' oc)∧kL oc c' qual∧H c=some (iS c o)∧o.data=.cell (some u)∧aT v u∧vs.length=ps.length∧
   te (vs.map some++[some v]) (drp H c) fun r H'=>H' c=none→Q r (upd H' c (iS c o))):=by
 intro pins s σ H vs us Q I r h
 obtain⟨c,c',ctv,oc,o,u,v,hf,j,a,hc,hd,rv,hl,q⟩:=h
 have ho:s.heap.get? c=some o:=(I.hok _ _ hc).1
 have g:=(I.hok _ _ hf).1
 have b:=(I.hok _ _ j).1
 have nf:c∉sS X.stack:=fun z=>by have:=I.stkFree c z;rw[hc] at this;cases this
 refine wpAny_call (codeAny_mono (y_ (CX:=dw) (E:=E0) (Q:=fun r H'=>H' c=none→Q r (upd H' c (iS c o))) g (a _ b) (hps c) hr (I.env0.drp hc) hl r (cvs:=[v]) rfl (fun i x d w' e1 e2=>?_) (hb s us c c' ctv (by rw[←r.length];exact hl)) (fun hr'=>⟨te,hbody f c c' _ _ _ _ hr',q⟩)) fun r s' hq=>?_)
 ·cases i with
  |zero=>
   cases e1
   cases e2
   exact⟨fy,u,rv,o,ho,hd⟩
  |succ i=>simp at e1
 ·cases r with
  |error e=>exact False.elim hq
  |ok fl=>
   cases fl with
   |ret u=>exact I.after (zb hc ho nf hq)
   |next=>exact False.elim hq
   |brk=>exact False.elim hq
   |cont=>exact False.elim hq
end
section
variable {X:Cx}
theorem kN (hcm:X.calm=true):dO X (.type "list") (fun xs H Q=>∃(a:Addr) (u:HO),xs=[.ref a]∧H a=some u∧w5 (some u)∧jT u∧er u≤1000∧
  ∀(l:Addr) (ys:List V),H l=none→ys.length=er u→(∀(i:Nat) y,ys[i]?=some y→∃v,eJ H u i y v)→Q (.ref l) (upd H l (.lst ys))):=by
 intro pins s σ H xs us Q I r h
 obtain⟨a,u,rfl,e,mu,du,g,q⟩:=h
 obtain⟨uu,rfl,rx⟩:=iZ r
 cases rx
 obtain⟨o,I1,C⟩:=I.freeze e mu
 obtain⟨hS,p,hc,es,ep,w,hz,m⟩:=eF I1.hok ag du
 have n:es.size≤sizeLine:=by rw[hz];exact Df g (by decide)
 refine PySem.W.kdl_call (vC hS) (I.ok.hd hcm) ⟨o,p,hc,w⟩ n fun h' tk acc c hk hD hacc=>?_
 obtain⟨ys,hys,hkeys⟩:∃ys:List V,bh ys acc.toList∧∀(i:Nat) y,ys[i]?=some y→∃v,eJ H u i y v:=by
  have A:∀(i:Nat) v,acc.toList[i]?=some v→∃y,aT y v∧∃w',eJ H u i y w':=fun i v hv=>by
   obtain⟨hi,rfl⟩:=hacc.2 i v (by rw[←DU];exact hv)
   obtain⟨x,y,d,r1,r2⟩:=m i hi
   refine⟨x,r1,y,?_⟩
   cases u with
   |dK kvs=>exact d
   |dT kvs=>
    obtain⟨k,b,h1,h2,h3⟩:=d
    have hb:b≠a:=fun z=>by rw[z,ag] at h3;cases h3
    rw[aj hb] at h3
    exact⟨k,b,h1,h2,h3⟩
   |_=>exact d.elim
  have mk:∀(l:List Value) (f:Nat),(∀(i:Nat) v,l[i]?=some v→∃y,aT y v∧∃w',eJ H u (f+i) y w')→∃ys:List V,bh ys l∧∀(i:Nat) y,ys[i]?=some y→∃v,eJ H u (f+i) y v:=by
   intro l
   induction l with
   |nil=>exact fun f _=>⟨[],.nil,fun i y h=>by simp at h⟩
   |cons v l ih=>
    intro f hf
    obtain⟨y,r1,w',d⟩:=hf 0 v rfl
    obtain⟨ys,r2,B⟩:=ih (f+1) fun i v' hv'=>by
     have:=hf (i+1) v' hv'
     rw[show f+1+i=f+(i+1) by lia];exact this
    refine⟨y::ys,.cons r1 r2,fun i z hz=>?_⟩
    cases i with
    |zero=>cases hz;exact⟨w',d⟩
    |succ i=>
     have:=B i z hz
     rw[show f+1+i=f+(i+1) by lia] at this;exact this
  obtain⟨ys,r,hk⟩:=mk acc.toList 0 fun i v hv=>by rw[Nat.zero_add];exact A i v hv
  exact⟨ys,r,fun i y hy=>by have:=hk i y hy;rw[Nat.zero_add] at this;exact this⟩
 have j:ys.length=er u:=by rw[hys.length,Di,hacc.1,hz]
 have hn:H s.heap.objs.size=none:=I.hok.fresh (CM _)
 refine⟨.ref s.heap.objs.size,_,I.laid (o:=.lst ys) hk (CM _) ⟨?_,acc.toList,c,hys,hD⟩,rfl,q _ ys hn j hkeys⟩
 rw[j];exact Df g (by decide)
end
section
variable {P:Program} {w:World} {K:CJ} {mg:Str→Option Value} {base:Heap}
end
def AN (P:Addr) (pos:Pos) (qual:Str) (mk:Addr→Value→Obj):TE:=fun _ H Q=>∃ps,H P=some (.tbl ps)∧TriplesOk ps.toList∧codeAmong pos ps.toList=none∧
 ∀f c' oc ctv HH,H f=none→H c'=none→f≠c'→kL oc c' qual→(∀b x,H b=some x→b≠P→HH b=some x)→(∃ps',HH P=some (.tbl ps'))→HH c'=some (iS c' oc)→HH f=some (iS f (mk c' ctv))→Q (.ref f) HH
theorem w_{clos:List (Str×Addr)}(hdef:defaultsOf params X.env=([],[]))(hcl:closureFor scope X.env=pure clos)(hcode:X.env.code=.ref c)
  (hC:Fq X.K c P=true) (hB:X.base.BuiltinsAt X.mg P) (hgP:mainGlobals≠P):
  PE X (.Lambda params body scope pos) (AN P pos (X.env.qual++ "<lambda>") fun c' ctv=>EM "<lambda>" (X.env.qual++ "<lambda>") params body scope clos ((X.mg "__name__").getD .none) c' ctv):=by
 intro pins s σ H Q I h
 obtain⟨ps,hP,h1,h2,q⟩:=h
 refine Aa hdef hcl hcode hC hB hgP pins s σ H Q I ⟨ps,hP,h1,h2,fun f c' oc ctv nf nc ne code=>?_⟩
 have a:P≠c':=ak hP nc
 have d:P≠f:=ak hP nf
 refine q f c' oc ctv _ nf nc ne code (fun b x e hb=>?_) ⟨ps++ #[rawInt pos.line,rawInt pos.col,.ref c'],?_⟩ ?_ ag
 ·rw[aj (ak e nf),aj (ak e nc),aj hb];exact e
 ·rw[aj d,aj a,ag]
 ·rw[aj ne.symm,ag]
namespace TabA
open SetTable
variable (t:SetTable) (hashAt:Nat→Int) (h:Int)
noncomputable def lp (p:Probe):Probe:={p with j:=(leap t.mask p.i p.perturb).1,more:=runEnd t.mask (leap t.mask p.i p.perturb).1 - (leap t.mask p.i p.perturb).1,i:=(leap t.mask p.i p.perturb).1,perturb:=(leap t.mask p.i p.perturb).2}
def iJ (N:Nat) (p:Probe):Prop:=∀f,N≤f→∃j,probe.go t hashAt h f p=some (.empty j none)
variable {t hashAt h}
noncomputable def it (M:Nat):Nat→Nat→Nat
 |0,a=>a
 |k+1,a=>(it M k a*5+1)%M
end TabA
section
variable {prog:Program} {w:World} {A:Around} {E:Value→Shared→Prop} {s:Shared}
end
section
variable {prog:Program} {w:World} {A:Around} {R:Result→Shared→Prop} {I:Addr} {fp wr:List Addr} {G:Array GenState→Array GenState→Prop} {n:Nat} {P:Nat→Value→Prop} {St:Nat→Shared→Prop}
end
structure SI (t:SetTable) (es:Array (Int×Value)) (n:Nat) (hs:List Int):Prop where
 dm:t.dummies= #[]
 ms:t.mask=7∧n<5∨t.mask=31∧n≤18
 pl:t.place.size=n
 sz:es.size=n
 hm:∀e∈es,e.1∈hs
end L2
namespace L2
open PySem PySem.Spec PyProof.Rows
section
variable {prog:Program} {w:World} {κ:Type} [DecidableEq κ] {knd:HeapKind prog w κ} {A:Around} {E:Value→Shared→Prop} {s:Shared}
end
section
variable {X:Cx}
end
section
variable {prog:Program} {w:World}
noncomputable def Bc (k:List Int×List Int):Int:=reduceHash (Builtin.Tuple.tupleHashOf [zh k.1,zh k.2])
variable {A:Around} {E:Value→Shared→Prop} {s:Shared}
end
abbrev Bg:=(List Int×List Int)×Addr
def BK (x:Bg):DictEntry:=⟨Bc x.1,.ref x.2,.bool true⟩
noncomputable def dP (a:Addr) (xs:List Bg):HO:=.ext fun h=>(a==sysModules)=false∧∃o es ep,h.get? a=some o∧o.ExactDict∧o.data=.dict es ep∧es.toList=xs.map BK
section
variable {X:Cx}
end
theorem yA {X:Cx}{K:CJ}{k:Nat}(e:X.K=K)(hr:bj k X.A):g6 X (compareOp .Eq) (zZ K):=by subst e;exact wC hr
section
variable {X:Cx}
end
def zk (X:Cx) (body:List Stmt) (t:(V→St→Hp→Prop)→St→Hp→Prop):Prop:=∀(pins:List (Addr×Obj)) (s:Shared) (σ:St) (H:Hp) (G:V→St→Hp→Prop),aL X pins σ H s→t G σ H→
 wpAny (model X.prog X.w) X.A (execs body X.env) (fun fl s'=>∃u v σ' H',fl=.ret u∧aL X pins σ' H' s'∧aT v u∧G v σ' H') (fun e s'=>X.xe e s') s
section
variable {X:Cx}
theorem y4(he:PE X e te):zk X [.Return (some e) pos] (fun G σ H=>te σ H fun v H'=>G v σ H'):=by
 intro pins s σ H G I h
 refine wpAny_execs_cons (wpAny_Return_some (bR (he pins s σ H _ I h) fun v s1 ⟨x,H1,I1,r1,q1⟩=>?_))
 exact⟨v,x,σ,H1,rfl,I1,r1,q1⟩
theorem vP{st:Stmt}{bC:List Stmt}{g:(V→St→Hp→Prop)→St→Hp→Prop}(h1:PS X st t)(h2:zk X bC g):zk X (st::bC) (fun G σ H=>t {nx:=fun σ1 H1=>g G σ1 H1,rt:=fun _ _=>False} σ H):=by
 intro pins s σ H G I h
 refine wpAny_execs_cons (bR (h1 pins s σ H _ I h) fun f s1 q=>?_)
 cases f with
 |next=>
  obtain⟨σ',H',I',q⟩:=q
  exact h2 pins s1 σ' H' G I' q
 |ret u=>
  obtain⟨_,_,_,_,_,q⟩:=q
  exact False.elim q
 |brk=>
  obtain⟨_,_,_,q⟩:=q
  exact False.elim q
 |cont=>
  obtain⟨_,_,_,q⟩:=q
  exact False.elim q
end
theorem Un.own {fs:List Addr}{H H':Hp}{h h':Heap}{c:Addr}{x:HO}(u:Un fs [] H H' h h')(hn:h.get? c=none)(hc:H' c=none):Un fs [] H (upd H' c x) h h' where
 keep:=u.keep
 slot:=u.slot
 free:=fun b o e n hx=>by rw[aj (fun z=>by rw[z,hn] at e;cases e)];exact u.free b o e n hx
 there:=u.there
 tups:=fun b xs e=>by have z:=u.tups b xs e;rw[aj (ak z hc)];exact z
 frzs:=fun b o y e=>by have z:=u.frzs b o y e;rw[aj (ak z hc)];exact z
 tbls:=fun b ps e=>by obtain⟨more,z⟩:=u.tbls b ps e;exact⟨more,by rw[aj (ak z hc)];exact z⟩
theorem zk.nox{st:List Stmt}{t:(V→St→Hp→Prop)→St→Hp→Prop}(h:zk X.nox st t):zk X st t:=fun pins s σ H G I hw=>
 Dy (h pins s σ H G (I.wish _) hw) (fun _ _ ⟨u,v,σ',H',e,I',r,q⟩=>⟨u,v,σ',H',e,I'.unwish,r,q⟩) fun _ _ z=>False.elim z
noncomputable def dR (K:CJ) (x:Str):Addr×Addr:=(Fp K x).getD (0,0)
section
variable {P:Program} {w:World} {K:CJ} {mg:Str→Option Value} {base:Heap}
end
section
variable {X:Cx}
def BF (K:CJ) (H:Hp) (v v':V):Prop:=v=v'∧(∃a,v=.ref a)∨Cf K H v v'∨∃d e,Dp K H v d∧Dp K H v' e∧d.depth≤60∧PyData.eqv d e=true
theorem Ab {pins:List (Addr×Obj)}(I:aL X pins σ H s)(h:BF X.K H v v')(r:aT v u)(r':aT v' u')(hu:A.units+62<cLine):SeqAt.EqAt A s u u' true:=by
 rcases h with ⟨rfl,a,rfl⟩|h|⟨d,e,h1,h2,hd,he⟩
 ·cases(show u=Value.ref a from r)
  cases(show u'=Value.ref a from r')
  exact SeqAt.EqAt.same _
 ·exact yE I h r r' hu
 ·obtain⟨as,r1⟩:=h1.reads I r
  obtain⟨bs,r2⟩:=h2.reads I r'
  have:=SeqAt.eqAt_reads d e A s u u' as bs r1 r2 h1.lay h2.lay (by lia)
  rw[he] at this
  exact this
end
structure lx (P:Program) (w:World) (K:CJ) (mg:Str→Option Value) (base:Heap) (C:Addr) (x:Str) (k:Nat) (ps:List Str) (sp:Sp):Prop where
 ex:∃f fd,bJ P w K mg base dw k f fd ps sp∧Mk K C f∧mg x=some (.ref C)∧cI K fd ps []∧cI K fd ps [Value.none]∧cI K fd ps [Value.none,Value.none]
section
variable {X:Cx} {C:Addr} {k:Nat} {ps:List Str} {sp:Sp} {x:Str} {p pos:Pos} {e:Expr} {es:List Expr} {t:TA} (G:lx X.prog X.w X.K X.mg X.base C x k ps sp) (hr:bj (k+1) X.A) (hg:Gl X x) (ha:PA X (e::es) t) (hdb:(x==("__debug__" :Str))=false:=by decide)
  (he:starEach (e::es) X.env=(false,eval e X.env)::starEach es X.env:=by rfl) (hpl:(backTo pos (starEach es X.env)).any (·.1)=false:=by rfl)
include G hr hg ha hdb he hpl
theorem yb:PE X (.Call (.Name x p) (e::es) [] pos) (sI C sp [] E0 t):=by
 obtain⟨f,fd,F,M,hm,hb,_,_⟩:=G.ex
 exact yp M F hr hg hm hb .nil pd ha hdb he hpl
end
theorem qN {K:CJ}{fd:FuncData}{ps:List Str}{ds:List Value}{T:Addr}{oc:Value}{od:Option Addr}{sl:Array (Option Value)}{items:Array Value}{n:Nat}(hd:fd.defaults=.ref T)(ho:K.lookup T=some ⟨oc,od,.seq items n,sl⟩)
  (m:Nat) (hm:ps.length=m+ds.length) (h:∀us:List Value,us.length=m→∃k,bindArgs fd ⟨us,[]⟩=(seqItems? fd.defaults>>=k)∧k (some items)=pure (ps.zip (us++ds))):cI K fd ps ds:=fun s us hX hl=>by
 obtain⟨k,h1,h2⟩:=h us (by rw[hm,C_] at hl;lia)
 exact PySem.W.binds_K hX hd ho rfl h1 h2
theorem yt {X:Cx}{K:CJ}{k:Nat}(e:X.K=K)(hr:bj k X.A):g6 X (compareOp .In) (qh K false):=by subst e;exact rE hr
theorem yc {P:Program}{w:World}{K:CJ}{mg:Str→Option Value}{base:Heap}{k:Nat}{f:Addr}{name qual:Str}{params:Arguments}{body:List Stmt}{scope:Scope}{dV kV doc pm cdv ct oc:Value}{an od:Option Addr}
  {osl:Array (Option Value)} {N ps:List Str} {sp:Sp} {i1 a1:Nat} {y1:Str} (lk:K.lookup f=some ⟨oc,od,.func (CT name qual params body scope dV kV doc pm an cdv ct),osl⟩) (hcd:C1 K cdv qual=true) (S:aM N ps scope)
  (len:∀vs H Q E,sp vs H Q E→vs.length=ps.length)
  (h1N:N[i1]?=some y1) (h1k:scope.names.lookup y1=some .cell) (h1c:∀n,(cellsFrom (n+1) scope.names []).lookup y1=some (n+a1)) (p1:0<a1)
  (hbody:∀(A:Around) (outer:List Env) (s:Shared) (H:Hp) (vs:List V) (Q:VK) (E:XK),bj k (A.deeper (envOfC qual scope s.heap.objs.size f cdv))→sp vs H Q E→
   ∃g,zk (mz dw P w K mg base N qual scope f cdv A outer s H E) body g∧g (fun v σ H'=>∃v1,σ[i1]?=some (some v1)∧∀o1 u1,H' (s.heap.objs.size+a1)=none→H (s.heap.objs.size+a1)=none→
    o1.data=.cell (some u1)→aT v1 u1→Q v (upd H' (s.heap.objs.size+a1) (iS (s.heap.objs.size+a1) o1))) (start N vs) H):
  bJ P w K mg base dw (k+1) f (CT name qual params body scope dV kV doc pm an cdv ct) ps sp:=by
 refine⟨len,fun A outer s H args us vs Q E hr e0 hb r hsp=>?_⟩
 have hl:=len _ _ _ _ hsp
 have KX:K.In s.heap:=e0.mod.kin.keeps fun b o e=>(e0.bs b o e).1
 have h:s.heap.NoLimit:=e0.mod.nolimit.keeps fun b o e=>(e0.bs b o e).1
 have a:∀y∈ps.zip us,scope.names.lookup y.1=some .local∨(scope.names.lookup y.1=some .cell∧((cellsFrom (s.heap.objs.size+1) scope.names []).lookup y.1).isSome=true):=fun⟨n,v⟩ hy=>by
  rcases S.par n (Fd hy).1 with q|q
  ·exact .inl q
  ·exact .inr ⟨q,PySem.W.cellsFrom_some _ _ _ (.inl q)⟩
 refine codeAny_call_function hr.depth (KX _ _ lk) rfl S.co S.gen rfl (PySem.W.codeRec_of KX hcd) (hb _ _ _ _ ?_)
 refine wpAny_newFunctionEnv_cells S.kind a fun env he s1 x=>?_
 subst he
 refine⟨h.keeps x.toInCall.keep,codeAny_func ?_⟩
 obtain⟨g,hg,hq⟩:=hbody A outer s H vs Q E (hr.deeper _) hsp
 have I:aL (mz dw P w K mg base N qual scope f cdv A outer s H E) [] (start N vs) H s1:=m7 S hr.hd e0 hl r x
 refine Dy (hg [] s1 (start N vs) H _ I hq) (fun fl s' hs=>?_) fun e s' hs=>hs
 obtain⟨u,v,σ',H',rfl,J,rv,v1,d,q⟩:=hs
 obtain⟨o1,u1,g1,d1,r1,n1,_,_⟩:=J.ownCell (y:=y1) (c:=s.heap.objs.size+a1) h1N d h1k (h1c _) (show s.heap.objs.size<s.heap.objs.size+a1 by lia)
 have f1:s.heap.get? (s.heap.objs.size+a1)=none:=El (EL _ _)
 exact⟨v,_,J.os,J.bare,J.base.own f1 n1,xM J.hok n1 g1,rv,q o1 u1 n1 (e0.hok.none_of f1) d1 r1⟩
section
variable {P:Program} {w:World} {K:CJ} {mg:Str→Option Value} {base:Heap}
theorem dW.okG1 {x qual:Str}{st:Stmt}{f:Addr}{fd:FuncData}{N ps:List Str}{k:Nat}{sp:Sp}{cv:Value}{i1 a1:Nat}{y1:Str}(F:dW K x qual st f fd)(hcv:fd.code=cv)(S:aM N ps (au st))(len:∀vs H Q E,sp vs H Q E→vs.length=ps.length)
  (h1N:N[i1]?=some y1) (h1k:(au st).names.lookup y1=some .cell) (h1c:∀n,(cellsFrom (n+1) (au st).names []).lookup y1=some (n+a1)) (p1:0<a1)
  (hbody:∀(A:Around) (outer:List Env) (s:Shared) (H:Hp) (vs:List V) (Q:VK) (E:XK),bj k (A.deeper (envOfC qual (au st) s.heap.objs.size f cv))→sp vs H Q E→
   ∃g,zk (mz dw P w K mg base N qual (au st) f cv A outer s H E).nox (aE st) g∧g (fun v σ H'=>∃v1,σ[i1]?=some (some v1)∧∀o1 u1,H' (s.heap.objs.size+a1)=none→H (s.heap.objs.size+a1)=none→
    o1.data=.cell (some u1)→aT v1 u1→Q v (upd H' (s.heap.objs.size+a1) (iS (s.heap.objs.size+a1) o1))) (start N vs) H):bJ P w K mg base dw (k+1) f fd ps sp:=by
 obtain⟨oc,od,kV,c,pm,an,b,ct,d,rfl,lk,a⟩:=F.ex
 cases(show b=cv from hcv)
 refine yc lk a S len h1N h1k h1c p1 fun A outer s H vs Q E hr hsp=>?_
 obtain⟨t,h,q⟩:=hbody A outer s H vs Q E hr hsp
 exact⟨t,h.nox,q⟩
end
noncomputable def wG (K:CJ) (a:Addr) (N:Nat):It:=
 ⟨fun i H=>i<N∧∃xs x,bg K H a xs∧xs.length=N∧xs[N - 1 - i]?=some x,fun i H x H'=>H'=H∧∀xs,bg K H a xs→xs[N - 1 - i]?=some x,fun i _=>i=N⟩
theorem vh {P:Program}{w:World}{K:CJ}{tg:Expr}(a it:Addr)(N:Nat):oZ P w K tg (wG K a N) [it] it (fun i h=>h.IsRevIter it a ((N:Int) - 1 - (i:Int))) where
 mem:=by simp
 obj:=fun i h st b hb=>by
  have e:b=it:=by simpa using hb
  subst e
  obtain⟨o,e,c,d⟩:=st
  exact⟨o,e,fun v z=>by rw[d] at z;cases z⟩
 keep:=fun i h h' st k=>st.at fun o e=>k it (by simp) o e
 item:=by
  intro X hP hw hK hc i pins s σ H E I hf st hg
  subst hP hw hK
  obtain⟨hi,xs,x,hq,hN,hx⟩:=hg
  obtain⟨f,rv,p,hz⟩:=I.list hq
  obtain⟨u,hu,ru⟩:=rv.get hx
  obtain⟨f0,f1,f2,f3,f4,f5⟩:=hf it (by simp)
  have e:(N:Int) - 1 - (i:Int)=((N - 1 - i:Nat):Int):=by lia
  rw[e] at st
  refine wpAny_pyNext_rev_item st p.isList (x:=u) (by simpa using hu) fun h' st' sb=>?_
  have I1:aL X pins σ H {s with heap:=h'}:=I.turned (t':=s.toks) (fun b o hb e=>(sb.2 b hb).trans e) f0 f1 f3 f4 f5
  have e2:((N - 1 - i:Nat):Int) - 1=(N:Int) - 1 - ((i+1:Nat):Int):=by lia
  rw[e2] at st'
  obtain⟨o,e,c,d⟩:=id st'
  exact⟨u,rfl,pT (s:={s with heap:=h'}) e c d (by decide) ⟨x,H,I1,ru,⟨rfl,fun ys hy=>by rw[I.list_inj hy hq];exact hx⟩,st',fun b hb=>(hf b hb).1⟩⟩
 done:=by
  intro X hP hw hK hc i pins s σ H E I hf st hg
  subst hP hw hK
  have hg:i=N:=hg
  obtain⟨f0,f1,f2,f3,f4,f5⟩:=hf it (by simp)
  have e:(N:Int) - 1 - (i:Int)= -1:=by lia
  rw[e] at st
  exact wpAny_pyNext_rev_end (I.ok.hd hc) st fun h' eb=>⟨rfl,I.turned (t':=s.toks) (fun b o hb e=>eb b o hb e) f0 f1 f3 f4 f5⟩
 self:=fun _ _ _ _ _ st h=>wpAny_pyIter_revIter st h
def B1 (K:CJ) (tl:TE):TI:=fun σ H R=>tl σ H fun x H1=>∃a xs,x=.ref a∧bg K H1 a xs∧R (wG K a xs.length) H1
theorem zI(hg':Gl X "reversed")(hm':X.mg "reversed" =none)(he:PE X e te)(hs':starEach [e] X.env=[(false,eval e X.env)]:=by rfl):
  PI X tg (.Call (.Name "reversed" p2) [e] [] pos2) (B1 X.K te):=by
 intro pins s σ H R I h
 refine Ed (fH I hg' hm' jW ?_ (by decide) (by decide))
 refine PyProof.Rows.callWith_type1 ?_ hs' rfl
 rw[hs']
 show wpAny _ _ (spliced [(false,eval e X.env)]) _ _ s
 refine Calls.spliced_cons (bR (he pins s σ H _ I h) fun u s1 ⟨x,H1,I1,ru,l,ys,ex,hq,q⟩=>Calls.spliced_nil ?_)
 subst ex
 cases(show u=Value.ref l from ru)
 obtain⟨a,rv,pl,hz⟩:=I1.list hq
 refine call_reversed_list pl.isList ?_
 have kp:∀b o,s1.heap.get? b=some o→(s1.heap.push (revObj l ((a.toArray.size:Int) - 1))).get? b=some o:=fun b o z=>CO _ z
 have I2:=I1.kept (t':=s1.toks) kp
 have hI:(s1.heap.push (revObj l ((a.toArray.size:Int) - 1))).IsRevIter s1.heap.objs.size l ((a.toArray.size:Int) - 1):=⟨_,C4 _ rfl,rfl,rfl⟩
 have c:a.toArray.size=ys.length:=by rw[De,rv.length]
 refine wpAny_pyIter_revIter hI ?_
 refine⟨s1.heap.objs.size,[s1.heap.objs.size],_,_,H1,rfl,I2,vh l _ ys.length,?_,fun b hb=>?_,q⟩
 ·show(s1.heap.push (revObj l ((a.toArray.size:Int) - 1))).IsRevIter s1.heap.objs.size l ((ys.length:Int) - 1 - ((0:Nat):Int))
  rw[show(ys.length:Int) - 1 - ((0:Nat):Int)=(a.toArray.size:Int) - 1 by rw[c];lia]
  exact hI
 ·have e:b=s1.heap.objs.size:=by simpa using hb
  subst e
  exact I1.fpOk (CM _) (I1.hok.fresh (CM _))
theorem xN {K:CJ}{a:Addr}{xs:List V}{g:TG}{tb:TS}{D:eK}{σ:St}{H:Hp}(Pv:Nat→St→Hp→Prop)(h0:Pv 0 σ H)(hl:∀i σ H,i≤xs.length→Pv i σ H→bg K H a xs)
  (hs:∀i x σ H,i<xs.length→xs[xs.length - 1 - i]?=some x→Pv i σ H→g x σ H fun σ2 H2=>tb {D with nx:=Pv (i+1),ct:=Pv (i+1),bk:=D.nx} σ2 H2) (hd:∀σ H,Pv xs.length σ H→D.nx σ H):
  ∃W:Nat→Nat→St→Hp→Prop,(∃m,W 0 m σ H)∧∀i m σ H,W i m σ H→
   ((wG K a xs.length).stop i H∧D.nx σ H)∨((wG K a xs.length).go i H∧∃N:St→Hp→Prop,(∀σ' H',N σ' H'→∃m',m'<m∧W (i+1) m' σ' H')∧∀x H',(wG K a xs.length).yld i H x H'→g x σ H' fun σ2 H2=>tb {D with nx:=N,ct:=N,bk:=D.nx} σ2 H2):=by
 refine⟨fun i m σ H=>m=xs.length - i∧i≤xs.length∧Pv i σ H,⟨xs.length,by simp,C8 _,h0⟩,?_⟩
 rintro i m σ H ⟨rfl,hi,p⟩
 have q:=hl i σ H hi p
 by_cases hlt:i<xs.length
 ·refine .inr ⟨⟨hlt,xs,xs[xs.length - 1 - i],q,rfl,by rw[Dd (by lia)]⟩,Pv (i+1),fun σ' H' p'=>⟨xs.length - (i+1),by lia,rfl,hlt,p'⟩,fun x H' y=>?_⟩
  obtain⟨e,y⟩:=y
  subst e
  exact hs i x σ _ hlt (y xs q) p
 ·have e:i=xs.length:=by lia
  subst e
  exact .inl ⟨rfl,hd σ H p⟩
def wd (K:CJ) (H:Hp) (m:V) (l:List Int):Prop:=∃b i j k,m=.ref b∧bH K H b [.int i,.int j,.int k]∧l=[i,j,k]
def ze (K:CJ) (H:Hp) (v:V) (k:List Int):Prop:=∃a p m l,v=.ref a∧bH K H a [.int p,m]∧wd K H m l∧k=p::l
theorem xH (i j k i' j' k':Int):(!HT.lexLt [i',j',k'] [i,j,k])=res [(decide (i=i'),decide (i≤i')),(decide (j=j'),decide (j≤j')),(decide (k=k'),decide (k≤k'))] true:=by
 rw[HT.lexLt_cons]
 by_cases h:i'=i
 ·rw[if_pos h,decide_eq_true h.symm]
  show(!HT.lexLt [j',k'] [j,k])=res [(decide (j=j'),decide (j≤j')),(decide (k=k'),decide (k≤k'))] true
  rw[HT.lexLt_cons]
  by_cases h2:j'=j
  ·rw[if_pos h2,decide_eq_true h2.symm]
   show(!HT.lexLt [k'] [k])=res [(decide (k=k'),decide (k≤k'))] true
   rw[HT.lexLt_cons]
   by_cases h3:k'=k
   ·rw[if_pos h3,decide_eq_true h3.symm,HT.lexLt_nil_nil];rfl
   ·rw[if_neg h3,decide_eq_false (CQ h3),j9];rfl
  ·rw[if_neg h2,decide_eq_false (CQ h2),j9];rfl
 ·rw[if_neg h,decide_eq_false (CQ h),j9];rfl
theorem vB(h:bh [x,y,z] us):∃a b c,us=[a,b,c]∧aT x a∧aT y b∧aT z c:=by
 cases h with
 |cons r1 t=>
  obtain⟨b,c,rfl,r2,r3⟩:=g_ t
  exact⟨_,b,c,rfl,r1,r2,r3⟩
section
variable {X:Cx}
theorem wd.cs {pins:List (Addr×Obj)}(I:aL X pins σ H s)(hu:A.units+10<cLine)(hx:wd X.K H x l1)(hy:wd X.K H y l2)(rx:aT x u)(ry:aT y v):
  SeqAt.EqAt A s u v (decide (l1=l2))∧(∀(prog:Program) (w':World) (E:Value→Shared→Prop) (Q:Value→Shared→Prop),Q (.bool (HT.lexLt l1 l2)) s→wpAny (model prog w') A (richCompare .Lt u v) Q E s):=by
 obtain⟨b,i,j,k,rfl,hb,rfl⟩:=hx
 obtain⟨b',i',j',k',rfl,a,rfl⟩:=hy
 cases rx
 cases ry
 refine⟨?_,fun prog w' E Q q=>?_⟩
 ·have d1:Dp X.K H (.ref b) (.tuple [.int i,.int j,.int k]):=Dp.ints (ns:=[i,j,k]) hb
  have d2:Dp X.K H (.ref b') (.tuple [.int i',.int j',.int k']):=Dp.ints (ns:=[i',j',k']) a
  obtain⟨as,r1⟩:=d1.reads I rfl
  obtain⟨bs,r2⟩:=d2.reads I rfl
  have hd:=eP [i,j,k]
  have:=SeqAt.eqAt_reads _ _ A s _ _ as bs r1 r2 d1.lay d2.lay (Nat.lt_of_le_of_lt (Nat.add_le_add_left (Df (Nat.min_le_left _ _) hd) _) (by lia))
  rw[show PyData.eqv (.tuple [.int i,.int j,.int k]) (.tuple [.int i',.int j',.int k'])=decide ([i,j,k]=[i',j',k']) from jy [i,j,k] [i',j',k']] at this
  exact this
 ·obtain⟨d,r1,p1,_⟩:=I.tuple hb
  obtain⟨c,r2,p2,_⟩:=I.tuple a
  exact HT.lt_tupInts p1 p2 (lR (ns:=[i,j,k]) r1) (lR (ns:=[i',j',k']) r2) (by lia) q
theorem wd.le {pins:List (Addr×Obj)}(I:aL X pins σ H s)(hu:A.units+10<cLine)(hx:wd X.K H x l1)(hy:wd X.K H y l2)(rx:aT x u)(ry:aT y v):
  ∀(prog:Program) (w':World) (E:Value→Shared→Prop) (Q:Value→Shared→Prop),Q (.bool (!HT.lexLt l2 l1)) s→wpAny (model prog w') A (richCompare .LtE u v) Q E s:=by
 intro prog w' E Q q
 obtain⟨b,i,j,k,rfl,hb,rfl⟩:=hx
 obtain⟨b',i',j',k',rfl,e,rfl⟩:=hy
 cases rx
 cases ry
 obtain⟨r,r1,p1,_⟩:=I.tuple hb
 obtain⟨m,r2,p2,_⟩:=I.tuple e
 obtain⟨u1,u2,u3,rfl,⟨t1,rfl⟩,⟨t2,rfl⟩,⟨t3,rfl⟩⟩:=vB r1
 obtain⟨w1,w2,w3,rfl,⟨t4,rfl⟩,⟨t5,rfl⟩,⟨t6,rfl⟩⟩:=vB r2
 rw[xH] at q
 obtain⟨⟨p,dd,l,sl⟩,ho,hc,n,hd⟩:=id p1
 obtain⟨⟨o,g,h,f⟩,a,d,n2,c⟩:=id p2
 simp only at hc hd d c
 subst hc hd d c
 exact richCompare_meets_room (op:=.LtE) ⟨_,ho,rfl⟩ ⟨_,a,rfl⟩ PySem.F.slot_tuple_le PySem.F.entry_tuple_le (PySem.F.args_tuple_le_2 _ _) (jS b b' _ _ n n2 dd g sl f)
  ⟨ho,a,[(decide (i=i'),decide (i≤i')),(decide (j=j'),decide (j≤j')),(decide (k=k'),decide (k≤k'))],.cons (qB _ s i t1 i' t4) (fun _=>iX _ s i t1 i' t4) (.cons (qB _ s j t2 j' t5) (fun _=>iX _ s j t2 j' t5) (.cons (qB _ s k t3 k' t6) (fun _=>iX _ s k t3 k' t6) .nil)),⟨(fun x=>nomatch x),q⟩⟩ (by lia)
theorem AI {pins:List (Addr×Obj)}(I:aL X pins σ H s)(hu:A.units+12<cLine)(hx:ze X.K H x k1)(hy:ze X.K H y k2)(rx:aT x u)(ry:aT y v)
  {prog:Program} {w':World} {E:Value→Shared→Prop} {Q:Value→Shared→Prop} (q:Q (.bool (HT.lexLt k1 k2)) s):wpAny (model prog w') A (richCompare .Lt u v) Q E s:=by
 obtain⟨a,p,m,l,rfl,ha,hm,rfl⟩:=hx
 obtain⟨a',p',m',l',rfl,g,h,rfl⟩:=hy
 cases rx
 cases ry
 obtain⟨B,r1,p1,_⟩:=I.tuple ha
 obtain⟨r,r2,p2,_⟩:=I.tuple g
 obtain⟨u1,u2,rfl,⟨t1,rfl⟩,e⟩:=g_ r1
 obtain⟨w1,w2,rfl,⟨t2,rfl⟩,i⟩:=g_ r2
 obtain⟨c1,c2⟩:=wd.cs I (A:=A.in1) (by show A.units+1+10<cLine;lia) hm h e i
 rw[wc] at q
 obtain⟨⟨z,dd,o,sl⟩,ho,hc,n,hd⟩:=id p1
 obtain⟨⟨w,j,k,f⟩,b,d,n2,c⟩:=id p2
 simp only at hc hd d c
 subst hc hd d c
 exact richCompare_meets_room (op:=.Lt) ⟨_,ho,rfl⟩ ⟨_,b,rfl⟩ PySem.F.slot_tuple_lt PySem.F.entry_tuple_lt (PySem.F.args_tuple_lt_2 _ _) (qa a a' _ _ n n2 dd j sl f)
  ⟨ho,b,[(decide (p=p'),decide (p<p')),(decide (l=l'),HT.lexLt l l')],.cons (qB _ s p t1 p' t2) (fun _ prog w' E Q q=>HT.rcLt_int _ s p t1 p' t2 prog w' E Q q) (.cons c1 (fun _=>c2) .nil),⟨(fun x=>nomatch x),q⟩⟩ (by lia)
def BR (K:CJ):R2:=fun x y H Q=>∃k1 k2,ze K H x k1∧ze K H y k2∧Q (.bl (HT.lexLt k1 k2)) H
theorem uZ(hr:bj k X.A):g6 X (compareOp .Lt) (BR X.K):=by
 intro pins s σ H x y v u Q I rx ry h
 obtain⟨k1,k2,h1,h2,q⟩:=h
 have hu:=hr.units
 exact AI I (by lia) h1 h2 rx ry ⟨.bl _,H,I,rfl,q⟩
def BI (K:CJ):R2:=fun x y H Q=>∃k1 k2,ze K H x k1∧ze K H y k2∧Q (.bl (!HT.lexLt k2 k1)) H
theorem An(hr:bj k X.A):g6 X (compareOp .LtE) (BI X.K):=by
 intro pins s σ H x y v u Q I rx ry h
 obtain⟨_,_,⟨a,p,m,l,rfl,ha,hm,rfl⟩,⟨a',p',m',l',rfl,j,e,rfl⟩,q⟩:=h
 have hu:=hr.units
 cases rx
 cases ry
 obtain⟨D,r1,p1,_⟩:=I.tuple ha
 obtain⟨z,r2,p2,_⟩:=I.tuple j
 obtain⟨u1,u2,rfl,⟨t1,rfl⟩,b⟩:=g_ r1
 obtain⟨w1,w2,rfl,⟨t2,rfl⟩,f⟩:=g_ r2
 have c1:=(wd.cs I (A:=X.A.in1) (by show X.A.units+1+10<cLine;lia) hm e b f).1
 have c2:=wd.le I (A:=X.A.in1) (by show X.A.units+1+10<cLine;lia) hm e b f
 rw[zS] at q
 obtain⟨⟨C,dd,w,sl⟩,ho,hc,n,hd⟩:=id p1
 obtain⟨⟨B,o,r,i⟩,c,g,n2,d⟩:=id p2
 simp only at hc hd g d
 subst hc hd g d
 exact richCompare_meets_room (op:=.LtE) ⟨_,ho,rfl⟩ ⟨_,c,rfl⟩ PySem.F.slot_tuple_le PySem.F.entry_tuple_le (PySem.F.args_tuple_le_2 _ _) (jS a a' _ _ n n2 dd o sl i)
  ⟨ho,c,[(decide (p=p'),decide (p≤p')),(decide (l=l'),!HT.lexLt l' l)],.cons (qB _ s p t1 p' t2) (fun _=>iX _ s p t1 p' t2) (.cons c1 (fun _=>c2) .nil),⟨(fun x=>nomatch x),⟨.bl _,H,I,rfl,q⟩⟩⟩ (by lia)
end
section
variable {prog:Program} {w:World} {A:Around} {R:Result→Shared→Prop} {it:Addr} {fp wr:List Addr} {P:Nat→Value→Prop} {St:Nat→Heap→Prop} {n:Nat}
theorem Ax (W:Walks prog w A.in1 it fp wr n P St){bx:Addr}(hf:bx∉fp){s:Shared}(J:Nat→Value→Prop)
  (hs:∀i v y,i<n→J i v→P i y→∃d:Bool,J (i+1) (if d=true then y else v)∧∀h' tk (Q:Value→Shared→Prop) (E:Value→Shared→Prop),(∀b o,b∉wr→b≠bx→s.heap.get? b=some o→h'.get? b=some o)→Q (.bool d) {s with heap:=h',toks:=tk}→wpAny (model prog w) A.in1 (richCompare .Lt y v) Q E {s with heap:=h',toks:=tk})
  (hR:∀v h' tk,J n v→(∀b o,b∉wr→b≠bx→s.heap.get? b=some o→h'.get? b=some o)→R (.ok (.ret v)) {s with heap:=h',toks:=tk}):
  ∀(k i:Nat) (v:Value) (c:Nat) (h:Heap) tk,i+k=n→J i v→(∀b o,b∉wr→b≠bx→s.heap.get? b=some o→h.get? b=some o)→St i h→h.get? bx=some {cls:=.type "list",dict:=none,data:=.seq #[v,v] c,slots:= #[]}→
   codeAny (model prog w) A (.builtin "min.loop" ⟨[.ref it,.none,.ref bx],[]⟩) R {s with heap:=h,toks:=tk}:=by
 have hw:bx∉wr:=fun h=>hf (W.sub _ h)
 have f:(toString "min" ++toString ".loop" :String)= "min.loop" :=by decide
 have un:∀{h h':Heap} {i:Nat},St i h→(∀b o,b≠bx→h.get? b=some o→h'.get? b=some o)→St i h':=fun q k=>W.frame _ _ _ q fun b bf o e=>k b o (fun z=>hf (z▸bf)) e
 intro k
 induction k with
 |zero=>
  intro i v c h tk hi hJ kp st hb
  have hi:i=n:=hi
  subst hi
  refine codeAny_builtin F.entry_min_loop ?_
  rw[Around.under_plainId F.plain_min_loop _]
  show wpAny _ A.in1 (seqItems? (.ref bx)>>=_) _ _ _
  refine CH (DW hb rfl ?_)
  show wpAny _ A.in1 (tryCatch (pyNext (.ref it)) _>>=_) _ _ _
  refine CH (wpAny_tryCatch (W.done _ _ _ st fun h' tk' k=>?_))
  have j:=k bx _ hw hb
  show wpAny _ A.in1 (updateSeq bx (fun _=> #[])>>=_) _ _ _
  exact CH (wpAny_updateSeq j rfl (CH (Et (CI (hR _ _ _ hJ fun b o b1 b2 e=>(Er _ _ (CQ b2)).trans (k b o b1 (kp b o b1 b2 e)))))))
 |succ k ih=>
  intro i v c h tk hi hJ kp st hb
  refine codeAny_builtin F.entry_min_loop ?_
  rw[Around.under_plainId F.plain_min_loop _]
  show wpAny _ A.in1 (seqItems? (.ref bx)>>=_) _ _ _
  refine CH (DW hb rfl ?_)
  show wpAny _ A.in1 (tryCatch (pyNext (.ref it)) _>>=_) _ _ _
  refine CH (wpAny_tryCatch (W.item i _ _ _ (by lia) st fun y g2 tk2 hP st2 k2=>?_))
  obtain⟨d,g,hc⟩:=hs i v y (by lia) hJ hP
  have a:=k2 bx _ hw hb
  have kk:∀b o,b∉wr→b≠bx→s.heap.get? b=some o→g2.get? b=some o:=fun b o b1 b2 e=>k2 b o b1 (kp b o b1 b2 e)
  show wpAny _ A.in1 (tryCatch (holding [y,y] (richCompare .Lt y v>>=_)) _>>=_) _ _ _
  refine CH (wpAny_tryCatch (Dz (CH (hc g2 tk2 _ _ kk ?_))))
  refine CH (Dz (Ec (CH (Et (CI ?_)))))
  cases d with
  |true=>
   simp only[if_true]
   refine CH (wpAny_updateSeq a rfl (CH (Et ?_)))
   rw[f]
   refine CI ⟨plainId_quiet F.plain_min_loop _,ih (i+1) y _ _ _ (by lia) g (fun b o b1 b2 e=>(Er _ _ (CQ b2)).trans (kk b o b1 b2 e)) (un st2 fun b o b2 e=>(Er _ _ (CQ b2)).trans e) (Ep _ a rfl)⟩
  |false=>
   simp only[Eh,if_false]
   refine CH (Et ?_)
   rw[f]
   exact CI ⟨plainId_quiet F.plain_min_loop _,ih (i+1) v _ _ _ (by lia) g kk st2 a⟩
end
section
variable {prog:Program} {w:World} {A:Around} {E:Value→Shared→Prop} {s:Shared}
theorem tU(hh:A.handled=none)(hl:s.heap.IsList l its)(h0:0<its.size)(J:Nat→Value→Prop)(hJ:∀x,its[0]?=some x→J 1 x)
  (hs:∀i v y,i<its.size→J i v→its[i]?=some y→∃d:Bool,J (i+1) (if d=true then y else v)∧∀h' tk (Q:Value→Shared→Prop) (E:Value→Shared→Prop),(∀b o,s.heap.get? b=some o→h'.get? b=some o)→Q (.bool d) {s with heap:=h',toks:=tk}→wpAny (model prog w) A.in1 (richCompare .Lt y v) Q E {s with heap:=h',toks:=tk})
  (hQ:∀v h' tk,J its.size v→(∀b o,s.heap.get? b=some o→h'.get? b=some o)→Q v {s with heap:=h',toks:=tk}):wpAny (model prog w) A (call (.builtin "min") [.ref l]) Q E s:=by
 have f:(toString "min" ++toString ".loop" :String)= "min.loop" :=by decide
 have c:l<s.heap.objs.size:=by obtain⟨_,e,_⟩:=hl;exact CS e
 refine call_function_tree F.kind_min F.plain_min F.entry_min (F.args_min1 _) ?_
 show wpAny _ A.in1 (Builtin.Builtins.bindParams "min" ["key", "default"] 0 ⟨[],[]⟩>>=_) _ _ _
 refine CH (wpAny_of_eq (show Builtin.Builtins.bindParams "min" ["key", "default"] 0 ⟨[],[]⟩=pure [none,none] by rfl) (CH (CI ?_)))
 refine CH (wpAny_pyIter_list hl ?_)
 have p:(s.heap.push {cls:=.type "list_iterator",data:=.fields #[.ref l,.int 0 0]}).objs.size=s.heap.objs.size+1:=DM ..
 refine CH (DA ?_)
 rw[f]
 refine CI ⟨plainId_quiet F.plain_min_loop _,?_⟩
 have W:=Walks.list (prog:=prog) (w:=w) (A:=A.in1) hh s.heap.objs.size l (C6 c) its
 have m:∀{h':Heap},(∀b o,b∉[s.heap.objs.size]→b≠s.heap.objs.size+1→((s.heap.push {cls:=.type "list_iterator",data:=.fields #[.ref l,.int 0 0]}).push {cls:=.type "list",data:=.seq #[]}).get? b=some o→h'.get? b=some o)→∀b o,s.heap.get? b=some o→h'.get? b=some o:=fun k b o e=>by
  exact k b o (fun hm=>C6 (CS e) (CP.mp hm)) (C6 (Fj (CS e))) (CO _ (CO _ e))
 have j:(s.heap.push {cls:=.type "list_iterator",data:=.fields #[.ref l,.int 0 0]}).objs.size=s.heap.objs.size+1:=p
 rw[j]
 have a:s.heap.objs.size+1∉[s.heap.objs.size,l]:=fun hm=>by
  rcases CV.mp hm with z|hm
  ·exact Nat.succ_ne_self _ z
  ·exact C6 (Fj c) (CP.mp hm).symm
 have hw:s.heap.objs.size+1∉[s.heap.objs.size]:=fun h=>a (W.sub _ h)
 have n:(fun i (h:Heap)=>h.IsListIter s.heap.objs.size l i∧h.IsList l its) 0 ((s.heap.push {cls:=.type "list_iterator",data:=.fields #[.ref l,.int 0 0]}).push {cls:=.type "list",data:=.seq #[]}):=
  ⟨⟨_,CO _ (C4 _ rfl),rfl,rfl⟩,(hl.push _).push _⟩
 have hb:((s.heap.push {cls:=.type "list_iterator",data:=.fields #[.ref l,.int 0 0]}).push {cls:=.type "list",data:=.seq #[]}).get? (s.heap.objs.size+1)=some {cls:=.type "list",dict:=none,data:=.seq #[] 0,slots:= #[]}:=by rw[←j];exact C4 _ rfl
 refine codeAny_builtin F.entry_min_loop ?_
 rw[Around.under_plainId F.plain_min_loop _]
 show wpAny _ A.in1 (seqItems? (.ref (s.heap.objs.size+1))>>=_) _ _ _
 refine CH (DW hb rfl ?_)
 show wpAny _ A.in1 (tryCatch (pyNext (.ref s.heap.objs.size)) _>>=_) _ _ _
 refine CH (wpAny_tryCatch (W.item 0 _ _ _ h0 n fun x g1 tk1 hP st1 k1=>?_))
 have g:=k1 _ _ hw hb
 show wpAny _ A.in1 (updateSeq (s.heap.objs.size+1) (fun _=> #[x,x])>>=_) _ _ _
 refine CH (wpAny_updateSeq g rfl ?_)
 rw[f]
 refine CI ⟨plainId_quiet F.plain_min_loop _,?_⟩
 have un:∀{h h':Heap} {i:Nat},(h.IsListIter s.heap.objs.size l i∧h.IsList l its)→(∀b o,b≠s.heap.objs.size+1→h.get? b=some o→h'.get? b=some o)→(h'.IsListIter s.heap.objs.size l i∧h'.IsList l its):=fun q k=>W.frame _ _ _ q fun b bf o e=>k b o (fun z=>a (z▸bf)) e
 refine Ax (s:={s with heap:=(s.heap.push {cls:=.type "list_iterator",data:=.fields #[.ref l,.int 0 0]}).push {cls:=.type "list",data:=.seq #[]}}) W a J (fun i v y hi hJi hy=>?_) (fun v h' tk hJn k=>?_) (its.size - 1) 1 x _ _ _ (by lia) (hJ x hP) (fun b o b1 b2 e=>(Er _ _ (CQ b2)).trans (k1 b o b1 e)) (un st1 fun b o b2 e=>(Er _ _ (CQ b2)).trans e) (Ep _ g rfl)
 ·obtain⟨d,h1,h2⟩:=hs i v y hi hJi hy
  exact⟨d,h1,fun h' tk Q E k q=>h2 h' tk Q E (m k) q⟩
 ·exact hQ v h' tk hJn (m k)
end
section
variable {X:Cx}
def AY (K:CJ) (xs:List V) (H:Hp) (Q:VK):Prop:=∃(p:Addr) (vs:List V) (ks:List (List Int)),xs=[.ref p]∧bg K H p vs∧vs.length=ks.length∧0<vs.length∧(∀i v,vs[i]?=some v→ze K H v (ks.getD i []))∧
 ∀j v,vs[j]?=some v→(∀m,m<ks.length→HT.lexLt (ks.getD m []) (ks.getD j [])=false)→Q v H
theorem uq(hc:X.calm=true)(hr:bj k X.A):dO X (.builtin "min") (AY X.K):=by
 intro pins s σ H xs us Q I r h
 obtain⟨p,vs,ks,rfl,hp,hl,h0,hk,q⟩:=h
 obtain⟨u1,rfl,r1⟩:=iZ r
 cases r1
 have hu:=hr.units
 obtain⟨a,rv,pl,hz⟩:=I.list hp
 have d:=rv.length
 have b:∀j (u:Value),a[j]?=some u→∃v,vs[j]?=some v∧aT v u:=fun j u e=>by
  have hj:j<a.length:=(C7.mp e).1
  have c:j<vs.length:=by lia
  have:=g0 rv j hj
  rw[Dd hj] at e
  cases e
  refine⟨vs[j],Dd c,?_⟩
  rwa [Dc,Dd c] at this
 refine tU (I.ok.hd hc) pl.isList (by simpa using (show 0<a.length by lia)) (fun i u=>∃j,j<i∧a[j]?=some u∧∀m,m<i→HT.lexLt (ks.getD m []) (ks.getD j [])=false) (fun x hx=>⟨0,by decide,by simpa using hx,fun m hm=>?_⟩) (fun i v y hi hJ hy=>?_) (fun u h' tk hJ kk=>?_)
 ·have:m=0:=by lia
  subst this
  exact bV _
 ·obtain⟨j,hj,ej,mj⟩:=hJ
  have hy:a[i]?=some y:=by simpa using hy
  obtain⟨vj,e1,r1⟩:=b j v ej
  obtain⟨vi,e2,r2⟩:=b i y hy
  refine⟨HT.lexLt (ks.getD i []) (ks.getD j []),?_,fun h' tk Q E kk q=>?_⟩
  ·cases e:HT.lexLt (ks.getD i []) (ks.getD j []) with
   |true=>
    refine⟨i,by lia,hy,fun m hm=>?_⟩
    by_cases hmi:m=i
    ·rw[hmi];exact bV _
    ·cases e3:HT.lexLt (ks.getD m []) (ks.getD i []) with
     |false=>rfl
     |true=>
      have:=fu _ _ _ e3 e
      rw[mj m (by lia)] at this;cases this
   |false=>
    refine⟨j,by lia,ej,fun m hm=>?_⟩
    by_cases hmi:m=i
    ·rw[hmi];exact e
    ·exact mj m (by lia)
  ·have I':aL X pins σ H {s with heap:=h',toks:=tk}:=I.kept kk
   exact AI (A:=X.A.in1) I' (by show X.A.units+1+12<cLine;lia) (hk i vi e2) (hk j vj e1) r2 r1 q
 ·obtain⟨j,hj,ej,mj⟩:=hJ
  obtain⟨vj,e1,r1⟩:=b j u ej
  have f:a.toArray.size=ks.length:=by simp;lia
  refine⟨vj,H,I.kept kk,r1,q j vj e1 fun m hm=>mj m (by lia)⟩
def AV (K:CJ):R2:=fun x y H Q=>∃a b xs ys,x=.ref a∧y=.ref b∧bg K H a xs∧bg K H b ys∧xs.length=ys.length∧(∀i,i<xs.length→BF K H (xs.getD i .non) (ys.getD i .non))∧Q (.bl false) H
theorem yX(hr:bj k X.A):g6 X (compareOp .NotEq) (AV X.K):=by
 intro pins s σ H x y v u Q I rx ry h
 obtain⟨a,b,xs,ys,rfl,rfl,hx,hy,hl,hs,q⟩:=h
 cases(show v=Value.ref a from rx)
 cases(show u=Value.ref b from ry)
 have hu:=hr.units
 obtain⟨i1,r1,p1,_⟩:=I.list hx
 obtain⟨i2,r2,p2,_⟩:=I.list hy
 have l1:=r1.length
 have l2:=r2.length
 refine SeqAt.RcNeAt.lists (e:=fun _=>true) p1.isList p2.isList (by simp;lia) (by lia) (fun j h1 h2=>?_) X.prog X.w X.xe _ ?_
 ·have j1:j<i1.length:=by simpa using h1
  have j2:j<i2.length:=by simpa using h2
  exact Ab (A:=X.A.in1) I (hs j (by lia)) (by simpa using g0 r1 j j1) (by simpa using g0 r2 j j2) (show X.A.units+1+62<cLine by lia)
 ·rw[vR];exact⟨.bl false,H,I,rfl,q⟩
end
end L2
namespace TS
open PySem PyProof.Rows
structure SOrd (r:Keyed→Keyed→Bool):Prop where
 asym:∀{x y},r x y=true→r y x=false
 ntr:∀{x y z},r y x=false→r z y=false→r z x=false
noncomputable def Ask (M:Model) (A:Around) (E:Value→Shared→Prop) (s:Shared) (κ:SortKind) (S:Keyed→Prop) (r:Keyed→Keyed→Bool):Prop:=
 ∀{st:SortSt} {x y:Keyed} {Q:Option Bool→SortSt→Prop},kindOf st=κ→S x→S y→Q (some (r x y)) st→wpS M A E s (lt' x y) Q st
section
variable {M:Model} {A:Around} {E:Value→Shared→Prop} {s:Shared} {κ:SortKind} {S:Keyed→Prop} {r:Keyed→Keyed→Bool}
theorem bz{st:SortSt}{Q:Keyed→SortSt→Prop}(h:arr[i]?=some x)(q:Q x st):wpS M A E s (elem' arr i) Q st:=by
 rw[elem'_eq,h]
 exact CN q
noncomputable def cB:Bool→Keyed→Array Keyed→Nat→Nat→Nat→StateT SortSt Sem (Option Nat):=sortPriv%PySem.Builtin.gallop
noncomputable def eN (left:Bool) (key:Keyed) (arr:Array Keyed) (base i:Nat):StateT SortSt Sem (Option Bool):=do
 let x←elem' arr (base+i)
 if left then lt' x key else return (←lt' key x).map (!·)
theorem qK (left:Bool)(key:Keyed)(arr:Array Keyed)(base n hint:Nat):cB left key arr base n hint=(do
 let mut lastofs:=0
 let mut ofs:=1
 let mut lo:=0
 let mut hi:=0
 let some right←eN left key arr base hint|return none
 if right then
  let maxofs:=n - hint
  for _ in [0:n] do
   if ofs≥maxofs then break
   let some more←eN left key arr base (hint+ofs)|return none
   if !more then break
   lastofs:=ofs
   ofs:=2*ofs+1
  lo:=hint+lastofs+1
  hi:=hint+min ofs maxofs
 else
  let maxofs:=hint+1
  for _ in [0:n] do
   if ofs≥maxofs then break
   let some found←eN left key arr base (hint - ofs)|return none
   if found then break
   lastofs:=ofs
   ofs:=2*ofs+1
  lo:=hint+1 - min ofs maxofs
  hi:=hint - lastofs
 for _ in [0:n] do
  if lo≥hi then break
  let m:=lo+(hi - lo)/2
  let some more←eN left key arr base m|return none
  if more then lo:=m+1 else hi:=m
 return some hi):=rfl
theorem qH (K:Ask M A E s κ S r){left:Bool}{key x:Keyed}{arr:Array Keyed}{base i:Nat}{st:SortSt}{Q:Option Bool→SortSt→Prop}(hk:kindOf st=κ)(hS:S key)(hx:arr[base+i]?=some x)(hX:S x)(q:Q (some (if left then r x key else !(r key x))) st):
  wpS M A E s (eN left key arr base i) Q st:=by
 unfold eN
 refine CL (bz hx ?_)
 cases left with
 |true=>exact K hk hX hS q
 |false=>exact CL (K hk hS hX (CN q))
noncomputable def se (left:Bool) (key:Keyed) (arr:Array Keyed) (base n lo0 hi0:Nat):StateT SortSt Sem (Option Nat):=do
 let mut lo:=lo0
 let mut hi:=hi0
 for _ in [0:n] do
  if lo≥hi then break
  let m:=lo+(hi - lo)/2
  let some more←eN left key arr base m|return none
  if more then lo:=m+1 else hi:=m
 return some hi
theorem fM (K:Ask M A E s κ S r){left:Bool}{key:Keyed}{arr:Array Keyed}{base n hint:Nat}{st:SortSt}{Q:Option Nat→SortSt→Prop}(hk:kindOf st=κ)(hS:S key)(hh:hint<n)(p:Nat→Bool)
  (hp:∀i,i<n→∃x,arr[base+i]?=some x∧S x∧(if left then r x key else !(r key x))=p i) (mono:∀i j,i≤j→j<n→p j=true→p i=true)
  (q:∀k,k≤n→(∀i,i<k→p i=true)→(∀i,k≤i→i<n→p i=false)→Q (some k) st):wpS M A E s (cB left key arr base n hint) Q st:=by
 rw[qK]
 have d:∀{i:Nat} {Q:Option Bool→SortSt→Prop},i<n→Q (some (p i)) st→wpS M A E s (eN left key arr base i) Q st:=fun{i Q} hi h=>by
  obtain⟨x,h1,h2,h3⟩:=hp i hi
  refine qH K hk hS h1 h2 ?_
  rw[h3];exact h
 have b:∀i j,i≤j→j<n→p i=false→p j=false:=fun i j hij hj h=>by
  cases e:p j with
  |false=>rfl
  |true=>rw[mono i j hij hj e] at h;cases h
 have BQ:∀lo hi,lo≤hi→hi≤n→(∀i,i<lo→p i=true)→(∀i,hi≤i→i<n→p i=false)→wpS M A E s (se left key arr base n lo hi) Q st:=fun lo hi h1 h2 h3 h4=>by
  unfold se
  refine CL (Du (DE (I:=fun x c a=>a=st∧∃l h,c=(none,l,h)∧l≤h∧h≤n∧h - l≤n - x∧(∀i,i<l→p i=true)∧∀i,h≤i→i<n→p i=false)
   (Q:=fun c a=>a=st∧∃l,c=(none,l,l)∧l≤n∧(∀i,i<l→p i=true)∧∀i,l≤i→i<n→p i=false) ?_ ?_ ⟨rfl,lo,hi,rfl,h1,h2,by lia,h3,h4⟩) ?_)
  ·rintro x c a _ hx ⟨rfl,l,h,rfl,a1,a2,a3,a4,a5⟩
   dsimp only
   by_cases e:l≥h
   ·rw[if_pos e]
    have:l=h:=by lia
    subst this
    exact CN ⟨rfl,l,rfl,a2,a4,a5⟩
   ·rw[if_neg e]
    refine CL (d (by lia) ?_)
    dsimp only
    cases em:p (l+(h - l)/2) with
    |true=>
     rw[if_pos rfl]
     exact CN ⟨rfl,_,_,rfl,by lia,a2,by lia,fun i hi=>mono i _ (by lia) (by lia) em,a5⟩
    |false=>
     rw[if_neg (by simp)]
     exact CN ⟨rfl,_,_,rfl,by lia,by lia,by lia,a4,fun i hi hn=>b _ i hi hn em⟩
  ·rintro c a ⟨rfl,l,h,rfl,a1,a2,a3,a4,a5⟩
   have:l=h:=by lia
   subst this
   exact⟨rfl,l,rfl,a2,a4,a5⟩
  ·rintro c a ⟨rfl,l,rfl,a2,a4,a5⟩
   exact CN (q l a2 a4 a5)
 refine CL (d hh ?_)
 dsimp only
 cases hr:p hint with
 |true=>
  rw[if_pos rfl]
  refine CL (Du (DE (I:=fun x c a=>a=st∧∃l o,c=(none,l,o)∧l<o∧x+1≤o∧l<n - hint∧p (hint+l)=true)
   (Q:=fun c a=>a=st∧∃l o,c=(none,l,o)∧l<o∧l<n - hint∧p (hint+l)=true∧(o≥n - hint∨p (hint+o)=false)) ?_ ?_ ⟨rfl,0,1,rfl,by lia,by lia,by lia,hr⟩) ?_)
  ·rintro x c a _ hx ⟨rfl,l,o,rfl,a1,a2,a3,a4⟩
   dsimp only
   by_cases e:o≥n - hint
   ·rw[if_pos e]
    exact CN ⟨rfl,l,o,rfl,a1,a3,a4,.inl e⟩
   ·rw[if_neg e]
    refine CL (d (by lia) ?_)
    dsimp only
    cases em:p (hint+o) with
    |true=>
     rw[if_neg (by simp)]
     exact CN ⟨rfl,_,_,rfl,by lia,by lia,by lia,em⟩
    |false=>
     rw[if_pos (by simp)]
     exact CN ⟨rfl,l,o,rfl,a1,a3,a4,.inr em⟩
  ·rintro c a ⟨rfl,l,o,rfl,a1,a2,a3,a4⟩
   exact⟨rfl,l,o,rfl,a1,a3,a4,.inl (by lia)⟩
  ·rintro c a ⟨rfl,l,o,rfl,a1,a3,a4,a5⟩
   refine BQ (hint+l+1) (hint+min o (n - hint)) (by lia) (by lia) (fun i hi=>mono i _ (by lia) (by lia) a4) fun i hi hn=>?_
   rcases a5 with a5|a5
   ·lia
   ·exact b _ i (by lia) hn a5
 |false=>
  rw[if_neg (by simp)]
  refine CL (Du (DE (I:=fun x c a=>a=st∧∃l o,c=(none,l,o)∧l<o∧x+1≤o∧l<hint+1∧p (hint - l)=false)
   (Q:=fun c a=>a=st∧∃l o,c=(none,l,o)∧l<o∧l<hint+1∧p (hint - l)=false∧(o≥hint+1∨p (hint - o)=true)) ?_ ?_ ⟨rfl,0,1,rfl,by lia,by lia,by lia,hr⟩) ?_)
  ·rintro x c a _ hx ⟨rfl,l,o,rfl,a1,a2,a3,a4⟩
   dsimp only
   by_cases e:o≥hint+1
   ·rw[if_pos e]
    exact CN ⟨rfl,l,o,rfl,a1,a3,a4,.inl e⟩
   ·rw[if_neg e]
    refine CL (d (by lia) ?_)
    dsimp only
    cases em:p (hint - o) with
    |true=>
     rw[if_pos rfl]
     exact CN ⟨rfl,l,o,rfl,a1,a3,a4,.inr em⟩
    |false=>
     rw[if_neg (by simp)]
     exact CN ⟨rfl,_,_,rfl,by lia,by lia,by lia,em⟩
  ·rintro c a ⟨rfl,l,o,rfl,a1,a2,a3,a4⟩
   exact⟨rfl,l,o,rfl,a1,a3,a4,.inl (by lia)⟩
  ·rintro c a ⟨rfl,l,o,rfl,a1,a3,a4,a5⟩
   refine BQ (hint+1 - min o (hint+1)) (hint - l) (by lia) (by lia) (fun i hi=>?_) fun i hi hn=>b _ i hi hn a4
   rcases a5 with a5|a5
   ·lia
   ·exact mono i _ (by lia) (by lia) a5
noncomputable def cz:Nat→StateT SortSt Sem Unit:=sortPriv%PySem.Builtin.setMinGallop
noncomputable def lP:Array Keyed→Array Keyed→StateT SortSt Sem (Array Keyed):=sortPriv%PySem.Builtin.mergeLo
theorem pj (a b:Array Keyed):lP a b=(do
 rule "list.sort.merge-lo"
 let total:=a.size+b.size
 let done (out:Array Keyed) (ia ib:Nat):=out++a.extract ia a.size++b.extract ib b.size
 let lastOfA (out:Array Keyed) (ia ib:Nat):=out++b.extract ib b.size++a.extract ia a.size
 let mut out:Array Keyed:= #[←elem' b 0]
 let mut ia:=0
 let mut ib:=1
 if ib==b.size then return done out ia ib
 if ia+1==a.size then return lastOfA out ia ib
 let mut minGallop:=gallopOf (←get)
 for _ in [0:total] do
  let mut acount:=0
  let mut bcount:=0
  for _ in [0:total] do
   let some bWins←lt' (←elem' b ib) (←elem' a ia)|return done out ia ib
   if bWins then
    out:=out.push (←elem' b ib);ib:=ib+1;bcount:=bcount+1;acount:=0
    if ib==b.size then return done out ia ib
    if bcount≥minGallop then break
   else
    out:=out.push (←elem' a ia);ia:=ia+1;acount:=acount+1;bcount:=0
    if ia+1==a.size then return lastOfA out ia ib
    if acount≥minGallop then break
  rule "list.sort.gallop"
  minGallop:=minGallop+1
  for _ in [0:total] do
   if minGallop>1 then minGallop:=minGallop - 1
   cz minGallop
   let some k←cB false (←elem' b ib) a ia (a.size - ia) 0|return done out ia ib
   acount:=k
   if k>0 then
    out:=out++a.extract ia (ia+k);ia:=ia+k
    if ia+1==a.size then return lastOfA out ia ib
    if ia==a.size then return done out ia ib
   out:=out.push (←elem' b ib);ib:=ib+1
   if ib==b.size then return done out ia ib
   let some k←cB true (←elem' a ia) b ib (b.size - ib) 0|return done out ia ib
   bcount:=k
   if k>0 then
    out:=out++b.extract ib (ib+k);ib:=ib+k
    if ib==b.size then return done out ia ib
   out:=out.push (←elem' a ia);ia:=ia+1
   if ia+1==a.size then return lastOfA out ia ib
   if acount<7&&bcount<7 then break
  minGallop:=minGallop+1
  cz minGallop
 unsupported "internal:list.sort.merge-bound"):=rfl
abbrev mq (r:Keyed→Keyed→Bool) (l:List Keyed):Prop:=l.Pairwise fun x y=>r y x=false
structure SG (st st':SortSt):Prop where
 kind:kindOf st'=kindOf st
 arr:arrOf st'=arrOf st
 pend:pendingOf st'=pendingOf st
 fail:failedOf st'=failedOf st
theorem SG.refl (st:SortSt):SG st st:=⟨rfl,rfl,rfl,rfl⟩
theorem SG.trans(h:SG a b)(g:SG b c):SG a c:=⟨g.kind.trans h.kind,g.arr.trans h.arr,g.pend.trans h.pend,g.fail.trans h.fail⟩
structure MI (r:Keyed→Keyed→Bool) (A B X:List Keyed) (i j:Nat):Prop where
 ha:mq r (X++A.drop i)
 hb:mq r (X++B.drop j)
 pm:(X++(A.drop i++B.drop j)).Perm (A++B)
theorem nZ(h1:mq r (X++Z))(h2:mq r (X++Y))(h:∀z∈Z,∀y∈Y,r y z=false):mq r (X++Z++Y):=by
 rw[mq,List.pairwise_append] at h2⊢
 refine⟨h1,h2.2.1,fun x hx y hy=>?_⟩
 rcases Dm.mp hx with hx|hx
 ·exact h2.2.2 x hx y hy
 ·exact h x hx y hy
theorem MI.takeA {A B X:List Keyed}{i j:Nat}(h:MI r A B X i j)(k:Nat)(le:∀x∈(A.drop i).take k,∀y∈B.drop j,r y x=false):MI r A B (X++(A.drop i).take k) (i+k) j:=by
 have e:A.drop i=(A.drop i).take k++A.drop (i+k):=by rw[←List.drop_drop];exact(E6 k _).symm
 have ha:=h.ha
 rw[e,←Dt] at ha
 refine⟨ha,nZ (List.Pairwise.sublist (List.sublist_append_left _ _) ha) h.hb le,?_⟩
 have pm:=h.pm
 rw[e] at pm
 refine List.Perm.trans ?_ pm
 rw[Dt,Dt]
theorem MI.takeB {A B X:List Keyed}{i j:Nat}(h:MI r A B X i j)(k:Nat)(le:∀x∈(B.drop j).take k,∀y∈A.drop i,r y x=false):MI r A B (X++(B.drop j).take k) i (j+k):=by
 have e:B.drop j=(B.drop j).take k++B.drop (j+k):=by rw[←List.drop_drop];exact(E6 k _).symm
 have hb:=h.hb
 rw[e,←Dt] at hb
 refine⟨nZ (List.Pairwise.sublist (List.sublist_append_left _ _) hb) h.ha le,hb,?_⟩
 have pm:=h.pm
 rw[e] at pm
 refine List.Perm.trans ?_ pm
 rw[Dt]
 refine List.Perm.append_left _ ?_
 rw[←Dt,←Dt]
 exact List.Perm.append_right _ Fs
noncomputable def iJ (r:Keyed→Keyed→Bool) (A B l:List Keyed):Prop:=mq r l∧l.Perm (A++B)
theorem kq (a:Array Keyed)(i:Nat):(a.extract i).toList=a.toList.drop i:=by
 simp
 exact EB (by simp)
theorem wj (a:Array Keyed)(i k:Nat):(a.extract i (i+k)).toList=(a.toList.drop i).take k:=by
 rw[FK,FL]
 congr 1
 lia
theorem MI.done {a b out:Array Keyed}{i j:Nat}(h:MI r a.toList b.toList out.toList i j)(e:i=a.size∨j=b.size):iJ r a.toList b.toList (out++a.extract i++b.extract j).toList:=by
 rw[D_,D_,kq,kq]
 refine⟨?_,by rw[Dt];exact h.pm⟩
 rcases e with e|e
 ·rw[show a.toList.drop i=[] by rw[e];simp,Dw];exact h.hb
 ·rw[show b.toList.drop j=[] by rw[e];simp,Dw];exact h.ha
theorem MI.last {a b out:Array Keyed}{i j:Nat}(h:MI r a.toList b.toList out.toList i j)(hl:∀x∈a.toList.drop i,∀y∈b.toList,r x y=false):iJ r a.toList b.toList (out++b.extract j++a.extract i).toList:=by
 rw[D_,D_,kq,kq]
 refine⟨nZ h.hb h.ha fun z hz y hy=>hl y hy z (List.mem_of_mem_drop hz),?_⟩
 refine List.Perm.trans ?_ h.pm
 rw[Dt]
 exact List.Perm.append_left _ Fs
theorem MI.len {A B X:List Keyed}{i j:Nat}(h:MI r A B X i j)(hi:i≤A.length)(hj:j≤B.length):X.length=i+j:=by
 have:=h.pm.length_eq
 simp only[C_,EW] at this
 lia
theorem fY {l:List Keyed}{i:Nat}{x:Keyed}(h:l[i]?=some x):(l.drop i).take 1=[x]:=by
 have hi:=(C7.mp h).1
 rw[Ft hi]
 simp[(C7.mp h).2]
theorem eC(hs:mq r l)(O:SOrd r){i:Nat}{x:Keyed}(h:l[i]?=some x):∀y∈l.drop i,r y x=false:=by
 have hi:=(C7.mp h).1
 have e:l.drop i=x::l.drop (i+1):=by rw[Ft hi,(C7.mp h).2]
 have hd:mq r (l.drop i):=List.Pairwise.sublist (List.drop_sublist _ _) hs
 intro y hy
 rw[e] at hd hy
 rcases CV.mp hy with rfl|hy
 ·cases q:r y y with
  |false=>rfl
  |true=>exact(O.asym q).symm▸q▸rfl
 ·exact(List.pairwise_cons.mp hd).1 y hy
theorem de {a:Array Keyed}{i:Nat}(h:i<a.size):∃x,a[i]?=some x∧a.toList[i]?=some x:=⟨a[i],getElem?_pos a i h,by simp⟩
abbrev S7:=Option (Array Keyed)×Array Keyed×Nat×Nat×Nat×Nat×Nat
noncomputable def yC (a b:Array Keyed) (i mg ac bc:Nat) (out:Array Keyed) (j:Nat):StateT SortSt Sem (ForInStep S7):=do
 let x←elem' a i
 if (i+1+1==a.size)=true then pure (.done (some (out.push x++b.extract j++a.extract (i+1)),out.push x,i+1,j,mg,ac,bc))
 else if (decide (ac<7)&&decide (bc<7))=true then pure (.done (none,out.push x,i+1,j,mg,ac,bc)) else pure (.yield (none,out.push x,i+1,j,mg,ac,bc))
noncomputable def xP (a b:Array Keyed) (j mg ac bc:Nat) (out:Array Keyed) (i:Nat):StateT SortSt Sem (ForInStep S7):=do
 let y←elem' b j
 if (j+1==b.size)=true then pure (.done (some (out.push y++a.extract i++b.extract (j+1)),out.push y,i,j+1,mg,ac,bc))
 else do
  let x←elem' a i
  let g←cB true x b (j+1) (b.size - (j+1)) 0
  match g with
  |some k=>
   if k>0 then
    if (j+1+k==b.size)=true then pure (.done (some (out.push y++b.extract (j+1) (j+1+k)++a.extract i++b.extract (j+1+k)),out.push y++b.extract (j+1) (j+1+k),i,j+1+k,mg,ac,k))
    else yC a b i mg ac k (out.push y++b.extract (j+1) (j+1+k)) (j+1+k)
   else yC a b i mg ac k (out.push y) (j+1)
  |_=>pure (.done (some (out.push y++a.extract i++b.extract (j+1)),out.push y,i,j+1,mg,ac,bc))
structure A5 (S:Keyed→Prop) (r:Keyed→Keyed→Bool) (a b:Array Keyed):Prop where
 Sa:∀x∈a.toList,S x
 Sb:∀x∈b.toList,S x
 sa:mq r a.toList
 sb:mq r b.toList
theorem fL{st:SortSt}{Q:Unit→SortSt→Prop}(q:∀st',SG st st'→Q () st'):wpS M A E s (cz g) Q st:=by
 show wpS M A E s (modify fun st=>SortSt.mk' (kindOf st) (arrOf st) (pendingOf st) g (failedOf st)) Q st
 exact Ej (q _ ⟨rfl,rfl,rfl,rfl⟩)
theorem nB (K:Ask M A E s κ S r)(O:SOrd r){a:Array Keyed}{key:Keyed}{st:SortSt}{i n h:Nat}{Q:Option Nat→SortSt→Prop}(hk:kindOf st=κ)(hS:S key)(Sa:∀x∈a.toList,S x)(sa:mq r a.toList)(hi:i+n≤a.size)(hh:h<n)
  (q:∀k,k≤n→(∀x∈(a.toList.drop i).take k,r key x=false)→(∀m,i+k≤m→m<i+n→∀x,a.toList[m]?=some x→r key x=true)→Q (some k) st):wpS M A E s (cB false key a i n h) Q st:=by
 have b:∀m,m<n→∃x,a[i+m]?=some x∧a.toList[i+m]?=some x:=fun m hm=>de (by lia)
 refine fM K hk hS hh (fun m=>match a.toList[i+m]? with|some x=>!(r key x)|none=>false) (fun m hm=>?_) (fun m m' h1 h2 h3=>?_) (fun k h1 h2 h3=>q k h1 (fun x hx=>?_) fun m hm1 hm2 x hx=>?_)
 ·obtain⟨x,e1,e2⟩:=b m hm
  refine⟨x,e1,Sa x (C2 e2),?_⟩
  rw[e2]
  rfl
 ·obtain⟨x,_,e⟩:=b m (by lia)
  obtain⟨x',_,e'⟩:=b m' h2
  rw[e'] at h3
  rw[e]
  dsimp only at h3⊢
  have q1:r key x'=false:=by simpa using h3
  have q2:r x' x=false:=by
   refine eC sa O e x' ?_
   exact DD.mpr ⟨m' - m,by rw[DS,show i+m+(m' - m)=i+m' by lia];exact e'⟩
  rw[O.ntr q2 q1]
  rfl
 ·obtain⟨m,hm⟩:=DD.mp hx
  have c:m<k:=by have:=(C7.mp hm).1;rw[Dx] at this;lia
  rw[D3 c,DS] at hm
  have:=h2 m c
  rw[hm] at this
  simpa using this
 ·have:=h3 (m - i) (by lia) (by lia)
  rw[show i+(m - i)=m by lia,hx] at this
  simpa using this
theorem mV (K:Ask M A E s κ S r)(O:SOrd r){a:Array Keyed}{key:Keyed}{st:SortSt}{i n h:Nat}{Q:Option Nat→SortSt→Prop}(hk:kindOf st=κ)(hS:S key)(Sa:∀x∈a.toList,S x)(sa:mq r a.toList)(hi:i+n≤a.size)(hh:h<n)
  (q:∀k,k≤n→(∀x∈(a.toList.drop i).take k,r x key=true)→(∀m,i+k≤m→m<i+n→∀x,a.toList[m]?=some x→r x key=false)→Q (some k) st):wpS M A E s (cB true key a i n h) Q st:=by
 have b:∀m,m<n→∃x,a[i+m]?=some x∧a.toList[i+m]?=some x:=fun m hm=>de (by lia)
 refine fM K hk hS hh (fun m=>match a.toList[i+m]? with|some x=>r x key|none=>false) (fun m hm=>?_) (fun m m' h1 h2 h3=>?_) (fun k h1 h2 h3=>q k h1 (fun x hx=>?_) fun m hm1 hm2 x hx=>?_)
 ·obtain⟨x,e1,e2⟩:=b m hm
  refine⟨x,e1,Sa x (C2 e2),?_⟩
  rw[e2]
  rfl
 ·obtain⟨x,_,e⟩:=b m (by lia)
  obtain⟨x',_,e'⟩:=b m' h2
  rw[e'] at h3
  rw[e]
  dsimp only at h3⊢
  have q2:r x' x=false:=by
   refine eC sa O e x' ?_
   exact DD.mpr ⟨m' - m,by rw[DS,show i+m+(m' - m)=i+m' by lia];exact e'⟩
  cases qq:r x key with
  |true=>rfl
  |false=>rw[O.ntr qq q2] at h3;cases h3
 ·obtain⟨m,hm⟩:=DD.mp hx
  have c:m<k:=by have:=(C7.mp hm).1;rw[Dx] at this;lia
  rw[D3 c,DS] at hm
  have:=h2 m c
  rw[hm] at this
  exact this
 ·have:=h3 (m - i) (by lia) (by lia)
  rw[show i+(m - i)=m by lia,hx] at this
  exact this
noncomputable def Lo (r:Keyed→Keyed→Bool) (a b:Array Keyed) (o0:Nat) (c:S7):Prop:=∃out i j mg ac bc,c=(none,out,i,j,mg,ac,bc)∧MI r a.toList b.toList out.toList i j∧i+1<a.size∧j<b.size∧o0≤out.size
noncomputable def Fn (r:Keyed→Keyed→Bool) (a b:Array Keyed) (c:S7):Prop:=∃res bC,c=(some res,bC)∧iJ r a.toList b.toList res.toList
noncomputable def BO (r:Keyed→Keyed→Bool) (a b:Array Keyed) (o0:Nat):ForInStep S7→Prop
 | .done c=>Fn r a b c∨Lo r a b o0 c
 | .yield c=>Lo r a b o0 c
theorem MI.pushA {a b out:Array Keyed}{i j:Nat}{x:Keyed}(h:MI r a.toList b.toList out.toList i j)(hx:a.toList[i]?=some x)(le:∀y∈b.toList.drop j,r y x=false):MI r a.toList b.toList (out.push x).toList (i+1) j:=by
 have:=h.takeA 1 (by rw[fY hx];intro z hz;rw[CP.mp hz];exact le)
 rw[fY hx] at this
 rw[EC];exact this
theorem MI.pushB {a b out:Array Keyed}{i j:Nat}{x:Keyed}(h:MI r a.toList b.toList out.toList i j)(hx:b.toList[j]?=some x)(le:∀y∈a.toList.drop i,r y x=false):MI r a.toList b.toList (out.push x).toList i (j+1):=by
 have:=h.takeB 1 (by rw[fY hx];intro z hz;rw[CP.mp hz];exact le)
 rw[fY hx] at this
 rw[EC];exact this
theorem pC{st:SortSt}{Q:ForInStep S7→SortSt→Prop}(hl:∀x∈a.toList.drop (a.size - 1),∀y∈b.toList,r x y=false)(hM:MI r a.toList b.toList out.toList i j)(hi:i+1<a.size)(hj:j<b.size)
  (hx:a[i]?=some x∧a.toList[i]?=some x) (le:∀y∈b.toList.drop j,r y x=false) (ho:o0≤out.size) (q:∀res,BO r a b o0 res→Q res st):wpS M A E s (yC a b i mg ac bc out j) Q st:=by
 unfold yC
 refine CL (bz hx.1 ?_)
 have c:=hM.pushA hx.2 le
 by_cases e:i+1+1=a.size
 ·rw[if_pos (by simpa using e)]
  exact CN (q _ (.inl ⟨_,_,rfl,c.last (by rw[show i+1=a.size - 1 by lia];exact hl)⟩))
 ·rw[if_neg (by simpa using e)]
  have lo:∀mg ac bc,Lo r a b o0 (none,out.push x,i+1,j,mg,ac,bc):=fun mg ac bc=>⟨_,_,_,_,_,_,rfl,c,by lia,hj,by rw[DN];lia⟩
  split
  ·exact CN (q _ (.inr (lo _ _ _)))
  ·exact CN (q _ (lo _ _ _))
theorem qC (K:Ask M A E s κ S r)(O:SOrd r){a b out:Array Keyed}{i j mg ac bc o0:Nat}{st:SortSt}{y:Keyed}{Q:ForInStep S7→SortSt→Prop}(T:A5 S r a b)(hk:kindOf st=κ)(hl:∀x∈a.toList.drop (a.size - 1),∀y∈b.toList,r x y=false)(hM:MI r a.toList b.toList out.toList i j)(hi:i+1<a.size)(hj:j<b.size)
  (hy:b[j]?=some y∧b.toList[j]?=some y) (le:∀z∈a.toList.drop i,r z y=false) (ho:o0≤out.size) (q:∀res,BO r a b o0 res→Q res st):wpS M A E s (xP a b j mg ac bc out i) Q st:=by
 unfold xP
 refine CL (bz hy.1 ?_)
 have c:=hM.pushB hy.2 le
 by_cases e:j+1=b.size
 ·rw[if_pos (by simpa using e)]
  exact CN (q _ (.inl ⟨_,_,rfl,c.done (.inr e)⟩))
 rw[if_neg (by simpa using e)]
 obtain⟨x,hx⟩:=de (a:=a) (i:=i) (by lia)
 refine CL (bz hx.1 ?_)
 refine CL (mV K O hk (T.Sa x (C2 hx.2)) T.Sb T.sb (by lia) (by lia) fun k hk1 h1 h2=>?_)
 dsimp only
 have f:=eC T.sa O hx.2
 have bC:∀y∈b.toList.drop (j+1+k),r y x=false:=fun z hz=>by
  obtain⟨m,hm⟩:=DD.mp hz
  rw[DS] at hm
  have:=(C7.mp hm).1
  rw[Di] at this
  exact h2 _ (by lia) (by lia) z hm
 by_cases k0:k>0
 ·rw[if_pos k0]
  have d:=c.takeB k fun z hz w hw=>O.ntr (O.asym (h1 z hz)) (f w hw)
  have e2:(out.push y++b.extract (j+1) (j+1+k)).toList=(out.push y).toList++(b.toList.drop (j+1)).take k:=by rw[D_,wj]
  rw[←e2] at d
  by_cases e3:j+1+k=b.size
  ·rw[if_pos (by simpa using e3)]
   exact CN (q _ (.inl ⟨_,_,rfl,d.done (.inr e3)⟩))
  ·rw[if_neg (by simpa using e3)]
   exact pC hl d hi (by lia) hx bC (by rw[FM,DN];lia) q
 ·rw[if_neg k0]
  have:k=0:=by lia
  subst this
  exact pC hl c hi (by lia) hx bC (by rw[DN];lia) q
theorem pE (K:Ask M A E s κ S r)(O:SOrd r){a b:Array Keyed}{st:SortSt}{Q:Array Keyed→SortSt→Prop}(T:A5 S r a b)(hk:kindOf st=κ)(na:0<a.size)(nb:0<b.size)(hf:∀y,b.toList[0]?=some y→∀x∈a.toList,r x y=false)
  (hl:∀x∈a.toList.drop (a.size - 1),∀y∈b.toList,r x y=false) (q:∀l st',SG st st'→iJ r a.toList b.toList l.toList→Q l st'):wpS M A E s (lP a b) Q st:=by
 rw[pj]
 refine CL (wpS_lift (D8 ⟨rfl,?_⟩))
 obtain⟨y0,h0⟩:=de (a:=b) nb
 refine CL (bz h0.1 ?_)
 dsimp only
 have M0:MI r a.toList b.toList (#[]:Array Keyed).toList 0 0:=⟨by simpa using T.sa,by simpa using T.sb,by simp⟩
 have M1:MI r a.toList b.toList #[y0].toList 0 1:=M0.pushB h0.2 (by simpa using hf y0 h0.2)
 by_cases e1:1=b.size
 ·rw[if_pos (by simpa using e1)]
  exact CN (q _ _ (SG.refl _) (M1.done (.inr e1)))
 rw[if_neg (by simpa using e1)]
 by_cases e2:0+1=a.size
 ·rw[if_pos (by simpa using e2)]
  exact CN (q _ _ (SG.refl _) (M1.last (by rw[show 0=a.size - 1 by lia];exact hl)))
 rw[if_neg (by simpa using e2)]
 refine CL (DX ?_)
 refine CL (Du (DE
  (I:=fun x c st'=>SG st st'∧∃d i j mg,c=(none,d,i,j,mg)∧MI r a.toList b.toList d.toList i j∧i+1<a.size∧j<b.size∧x+1≤d.size)
  (Q:=fun c st'=>SG st st'∧∃res bC,c=(some res,bC)∧iJ r a.toList b.toList res.toList) ?step ?fin ⟨SG.refl _,_,_,_,_,rfl,M1,by lia,by lia,by simp⟩) ?post)
 case fin=>
  rintro c st' ⟨_,d,i,j,mg,rfl,hM,hi,hj,ho⟩
  exfalso
  have:=hM.len (by rw[Di];lia) (by rw[Di];lia)
  rw[Di] at this
  lia
 case post=>
  rintro c st' ⟨sg,res,bC,rfl,g⟩
  exact CN (q _ _ sg g)
 case step=>
  rintro x c B _ hx ⟨sg,d,i,j,mg,rfl,hM,hi,hj,ho⟩
  dsimp only
  have F:kindOf B=κ:=sg.kind.trans hk
  refine CL (Du (DE
   (I:=fun x' c st'=>st'=B∧∃o i j ac bc,c=(none,o,i,j,ac,bc)∧MI r a.toList b.toList o.toList i j∧i+1<a.size∧j<b.size∧d.size+x'≤o.size)
   (Q:=fun c st'=>st'=B∧((∃res bC,c=(some res,bC)∧iJ r a.toList b.toList res.toList)∨∃o i j ac bc,c=(none,o,i,j,ac,bc)∧MI r a.toList b.toList o.toList i j∧i+1<a.size∧j<b.size∧d.size+1≤o.size)) ?s1 ?f1 ⟨rfl,d,i,j,0,0,rfl,hM,hi,hj,by lia⟩) ?p1)
  case f1=>
   rintro c st' ⟨rfl,o,i,j,ac,bc,rfl,hM,hi,hj,ho⟩
   exact⟨rfl,.inr ⟨o,i,j,ac,bc,rfl,hM,hi,hj,by lia⟩⟩
  case s1=>
   rintro x' c st' _ H ⟨rfl,o,i,j,ac,bc,rfl,hM,hi,hj,ho⟩
   dsimp only
   obtain⟨y,hy⟩:=de hj
   obtain⟨z,hz⟩:=de (a:=a) (i:=i) (by lia)
   refine CL (bz hy.1 (CL (bz hz.1 (CL (K F (T.Sb y (C2 hy.2)) (T.Sa z (C2 hz.2)) ?_)))))
   have J:=eC T.sa O hz.2
   have C:=eC T.sb O hy.2
   dsimp only
   cases hw:r y z with
   |true=>
    rw[if_pos rfl]
    refine CL (bz hy.1 ?_)
    have f:=hM.pushB hy.2 fun w hw'=>O.ntr (O.asym hw) (J w hw')
    by_cases e:j+1=b.size
    ·rw[if_pos (by simpa using e)]
     exact CN ⟨rfl,.inl ⟨_,_,rfl,f.done (.inr e)⟩⟩
    ·rw[if_neg (by simpa using e)]
     split
     ·exact CN ⟨rfl,.inr ⟨_,_,_,_,_,rfl,f,hi,by lia,by rw[DN];lia⟩⟩
     ·exact CN ⟨rfl,_,_,_,_,_,rfl,f,hi,by lia,by rw[DN];lia⟩
   |false=>
    rw[if_neg (by simp)]
    refine CL (bz hz.1 ?_)
    have f:=hM.pushA hz.2 fun w hw'=>O.ntr hw (C w hw')
    by_cases e:i+1+1=a.size
    ·rw[if_pos (by simpa using e)]
     exact CN ⟨rfl,.inl ⟨_,_,rfl,f.last (by rw[show i+1=a.size - 1 by lia];exact hl)⟩⟩
    ·rw[if_neg (by simpa using e)]
     split
     ·exact CN ⟨rfl,.inr ⟨_,_,_,_,_,rfl,f,by lia,hj,by rw[DN];lia⟩⟩
     ·exact CN ⟨rfl,_,_,_,_,_,rfl,f,by lia,hj,by rw[DN];lia⟩
  case p1=>
   rintro c st' ⟨rfl,⟨res,bC,rfl,g⟩|⟨o,i,j,ac,bc,rfl,hM,hi,hj,ho⟩⟩
   ·exact CN ⟨sg,_,_,rfl,g⟩
   ·dsimp only
    refine CL (wpS_lift (D8 ⟨rfl,?_⟩))
    refine CL (Du (DE
     (I:=fun x' c n=>SG st n∧Lo r a b (d.size+1) c)
     (Q:=fun c n=>SG st n∧(Fn r a b c∨Lo r a b (d.size+1) c)) ?s2 ?f2 ⟨sg,_,_,_,_,_,_,rfl,hM,hi,hj,by lia⟩) ?p2)
    case f2=>
     rintro c n ⟨h1,h2⟩
     exact⟨h1,.inr h2⟩
    case p2=>
     rintro c n ⟨v,⟨res,bC,rfl,g⟩|⟨o,i,j,mg,ac,bc,rfl,hM,hi,hj,ho⟩⟩
     ·exact CN ⟨v,_,_,rfl,g⟩
     ·exact CL (fL fun st3 sg3=>CN ⟨v.trans sg3,_,_,_,_,rfl,hM,hi,hj,by show x+1+1≤o.size;lia⟩)
    case s2=>
     rintro x' c st2 _ H ⟨v,o,i,j,mg,ac,bc,rfl,hM,hi,hj,ho⟩
     dsimp only
     have D:∀mg:Nat,wpS M A E s (do
       cz mg
       let y←elem' b j
       let g←cB false y a i (a.size - i) 0
       match g with
       |some k=>
        if k>0 then
         if (i+k+1==a.size)=true then pure (ForInStep.done ((some (o++a.extract i (i+k)++b.extract j++a.extract (i+k)),o++a.extract i (i+k),i+k,j,mg,k,bc):S7))
         else if (i+k==a.size)=true then pure (ForInStep.done ((some (o++a.extract i (i+k)++a.extract (i+k)++b.extract j),o++a.extract i (i+k),i+k,j,mg,k,bc):S7))
         else xP a b j mg k bc (o++a.extract i (i+k)) (i+k)
        else xP a b j mg k bc o i
       |_=>pure (ForInStep.done ((some (o++a.extract i++b.extract j),o,i,j,mg,ac,bc):S7)))
       (fun res st'=>match res with| .done c=>SG st st'∧(Fn r a b c∨Lo r a b (d.size+1) c)| .yield c=>SG st st'∧Lo r a b (d.size+1) c) st2:=fun mg=>by
      refine CL (fL fun st3 sg3=>?_)
      have p:=v.trans sg3
      obtain⟨y,hy⟩:=de hj
      refine CL (bz hy.1 ?_)
      have fin:∀res,BO r a b (d.size+1) res→(match res with| .done c=>SG st st3∧(Fn r a b c∨Lo r a b (d.size+1) c)| .yield c=>SG st st3∧Lo r a b (d.size+1) c):=fun res h=>by
       cases res with
       |done c=>exact⟨p,h⟩
       |yield c=>exact⟨p,h⟩
      refine CL (nB K O (p.kind.trans hk) (T.Sb y (C2 hy.2)) T.Sa T.sa (by lia) (by lia) fun k F h1 h2=>?_)
      dsimp only
      have C:=eC T.sb O hy.2
      have bC:∀z∈a.toList.drop (i+k),r z y=false:=fun z hz=>by
       obtain⟨m,hm⟩:=DD.mp hz
       rw[DS] at hm
       have:=(C7.mp hm).1
       rw[Di] at this
       exact O.asym (h2 _ (by lia) (by lia) z hm)
      by_cases k0:k>0
      ·rw[if_pos k0]
       have u:=hM.takeA k fun z hz w hw=>O.ntr (h1 z hz) (C w hw)
       have e2:(o++a.extract i (i+k)).toList=o.toList++(a.toList.drop i).take k:=by rw[D_,wj]
       rw[←e2] at u
       by_cases e3:i+k+1=a.size
       ·rw[if_pos (by simpa using e3)]
        exact CN (fin (.done _) (Or.inl ⟨_,_,rfl,u.last (by rw[show i+k=a.size - 1 by lia];exact hl)⟩))
       ·rw[if_neg (by simpa using e3)]
        by_cases e4:i+k=a.size
        ·rw[if_pos (by simpa using e4)]
         exact CN (fin (.done _) (Or.inl ⟨_,_,rfl,u.done (.inl e4)⟩))
        ·rw[if_neg (by simpa using e4)]
         exact qC K O T (p.kind.trans hk) hl u (by lia) hj hy bC (by rw[FM];lia) fin
      ·rw[if_neg k0]
       have:k=0:=by lia
       subst this
       exact qC K O T (p.kind.trans hk) hl hM hi hj hy bC ho fin
     by_cases hmg:mg>1
     ·rw[if_pos hmg]
      refine Du (D (mg - 1)) fun res st' h=>?_
      cases res<;>exact h
     ·rw[if_neg hmg]
      refine Du (D mg) fun res st' h=>?_
      cases res<;>exact h
noncomputable def lX:Array Keyed→Array Keyed→StateT SortSt Sem (Array Keyed):=sortPriv%PySem.Builtin.mergeHi
theorem pJ (a b:Array Keyed):lX a b=(do
 rule "list.sort.merge-hi"
 let total:=a.size+b.size
 let done (out:Array Keyed) (na nb:Nat):=a.extract 0 na++b.extract 0 nb++out.reverse
 let firstOfB (out:Array Keyed) (na nb:Nat):=b.extract 0 nb++a.extract 0 na++out.reverse
 let mut na:=a.size - 1
 let mut nb:=b.size
 let mut out:Array Keyed:= #[←elem' a na]
 if na==0 then return done out na nb
 if nb==1 then return firstOfB out na nb
 let mut minGallop:=gallopOf (←get)
 for _ in [0:total] do
  let mut acount:=0
  let mut bcount:=0
  for _ in [0:total] do
   let some aWins←lt' (←elem' b (nb - 1)) (←elem' a (na - 1))|return done out na nb
   if aWins then
    na:=na - 1;out:=out.push (←elem' a na);acount:=acount+1;bcount:=0
    if na==0 then return done out na nb
    if acount≥minGallop then break
   else
    nb:=nb - 1;out:=out.push (←elem' b nb);bcount:=bcount+1;acount:=0
    if nb==1 then return firstOfB out na nb
    if bcount≥minGallop then break
  rule "list.sort.gallop"
  minGallop:=minGallop+1
  for _ in [0:total] do
   if minGallop>1 then minGallop:=minGallop - 1
   cz minGallop
   let some at_←cB false (←elem' b (nb - 1)) a 0 na (na - 1)|return done out na nb
   let k:=na - at_
   acount:=k
   if k>0 then
    out:=out++(a.extract at_ na).reverse;na:=at_
    if na==0 then return done out na nb
   nb:=nb - 1;out:=out.push (←elem' b nb)
   if nb==1 then return firstOfB out na nb
   let some at_←cB true (←elem' a (na - 1)) b 0 nb (nb - 1)|return done out na nb
   let k:=nb - at_
   bcount:=k
   if k>0 then
    out:=out++(b.extract at_ nb).reverse;nb:=at_
    if nb==1 then return firstOfB out na nb
    if nb==0 then return done out na nb
   na:=na - 1;out:=out.push (←elem' a na)
   if na==0 then return done out na nb
   if acount<7&&bcount<7 then break
  minGallop:=minGallop+1
  cz minGallop
 unsupported "internal:list.sort.merge-bound"):=rfl
structure MH (r:Keyed→Keyed→Bool) (A B R:List Keyed) (i j:Nat):Prop where
 ha:mq r (A.take i++R)
 hb:mq r (B.take j++R)
 pm:((A.take i++B.take j)++R).Perm (A++B)
theorem kF(h1:mq r (Z++Y))(h2:mq r (X++Y))(h:∀x∈X,∀z∈Z,r z x=false):mq r (X++(Z++Y)):=by
 rw[mq,List.pairwise_append] at h2⊢
 refine⟨h2.1,h1,fun x hx y hy=>?_⟩
 rcases Dm.mp hy with hy|hy
 ·exact h x hx y hy
 ·exact h2.2.2 x hx y hy
theorem eG (A:List Keyed){i k:Nat}(h:k≤i):A.take i=A.take k++(A.take i).drop k:=by
 have:=(E6 k (A.take i)).symm
 rwa [List.take_take,Nat.min_eq_left h] at this
theorem MH.takeA {A B R:List Keyed}{i j:Nat}(h:MH r A B R i j){k:Nat}(hk:k≤i)(le:∀y∈B.take j,∀z∈(A.take i).drop k,r z y=false):MH r A B ((A.take i).drop k++R) k j:=by
 have ha:=h.ha
 rw[eG A hk,Dt] at ha
 refine⟨ha,kF (List.Pairwise.sublist (List.sublist_append_right _ _) ha) h.hb le,?_⟩
 refine List.Perm.trans ?_ h.pm
 rw[eG A hk]
 simp only[Dt]
 refine List.Perm.append_left _ ?_
 rw[←Dt,←Dt]
 refine List.Perm.append_right _ ?_
 rw[show(List.drop k (List.take k A++List.drop k (List.take i A)))=(A.take i).drop k by rw[←eG A hk]]
 exact Fs
theorem MH.takeB {A B R:List Keyed}{i j:Nat}(h:MH r A B R i j){k:Nat}(hk:k≤j)(le:∀x∈A.take i,∀z∈(B.take j).drop k,r z x=false):MH r A B ((B.take j).drop k++R) i k:=by
 have hb:=h.hb
 rw[eG B hk,Dt] at hb
 refine⟨kF (List.Pairwise.sublist (List.sublist_append_right _ _) hb) h.ha le,hb,?_⟩
 refine List.Perm.trans ?_ h.pm
 have e:B.take j++R=B.take k++((B.take j).drop k++R):=by rw[←Dt,←eG B hk]
 simp only[Dt]
 rw[e]
theorem kg (a:Array Keyed){i:Nat}(h:i≤a.size):(a.extract 0 i).toList=a.toList.take i:=by
 rw[FK,FL]
 simp
theorem MH.done {a b out:Array Keyed}{i j:Nat}(h:MH r a.toList b.toList out.toList.reverse i j)(hi:i≤a.size)(hj:j≤b.size)(e:i=0∨j=0):iJ r a.toList b.toList (a.extract 0 i++b.extract 0 j++out.reverse).toList:=by
 rw[D_,D_,kg a hi,kg b hj,Array.toList_reverse]
 refine⟨?_,h.pm⟩
 rcases e with e|e
 ·rw[e,List.take_zero,List.nil_append];exact h.hb
 ·rw[e,List.take_zero,Dw];exact h.ha
theorem MH.first {a b out:Array Keyed}{i j:Nat}(h:MH r a.toList b.toList out.toList.reverse i j)(hi:i≤a.size)(hj:j≤b.size)(hl:∀y∈b.toList.take j,∀x∈a.toList,r x y=false):iJ r a.toList b.toList (b.extract 0 j++a.extract 0 i++out.reverse).toList:=by
 rw[D_,D_,kg a hi,kg b hj,Array.toList_reverse,Dt]
 refine⟨kF h.ha h.hb fun y hy x hx=>hl y hy x (List.mem_of_mem_take hx),?_⟩
 refine List.Perm.trans ?_ h.pm
 rw[←Dt]
 exact List.Perm.append_right _ Fs
theorem MH.len {A B R:List Keyed}{i j:Nat}(h:MH r A B R i j)(hi:i≤A.length)(hj:j≤B.length):R.length+i+j=A.length+B.length:=by
 have:=h.pm.length_eq
 simp only[C_,Dx] at this
 lia
theorem iV {l:List Keyed}{i:Nat}{x:Keyed}(hi:0<i)(h:l[i - 1]?=some x):(l.take i).drop (i - 1)=[x]:=by
 have hl:=(C7.mp h).1
 have e:(l.take i)[i - 1]?=some x:=by rw[D3 (by lia)];exact h
 have:=fY e
 rw[EB (by rw[EW,Dx];lia)] at this
 exact this
theorem MH.pushA {a b out:Array Keyed}{i j:Nat}{x:Keyed}(h:MH r a.toList b.toList out.toList.reverse i j)(hi:0<i)(hx:a.toList[i - 1]?=some x)(le:∀y∈b.toList.take j,r x y=false):MH r a.toList b.toList (out.push x).toList.reverse (i - 1) j:=by
 have:=h.takeA (k:=i - 1) (by lia) (by rw[iV hi hx];intro y hy z hz;rw[CP.mp hz];exact le y hy)
 rw[iV hi hx] at this
 rw[EC,List.reverse_append];exact this
theorem MH.pushB {a b out:Array Keyed}{i j:Nat}{x:Keyed}(h:MH r a.toList b.toList out.toList.reverse i j)(hj:0<j)(hx:b.toList[j - 1]?=some x)(le:∀y∈a.toList.take i,r x y=false):MH r a.toList b.toList (out.push x).toList.reverse i (j - 1):=by
 have:=h.takeB (k:=j - 1) (by lia) (by rw[iV hj hx];intro y hy z hz;rw[CP.mp hz];exact le y hy)
 rw[iV hj hx] at this
 rw[EC,List.reverse_append];exact this
theorem vV (out a:Array Keyed)(k i:Nat)(h:i≤a.size):(out++(a.extract k i).reverse).toList.reverse=(a.toList.take i).drop k++out.toList.reverse:=by
 rw[D_,List.reverse_append,Array.toList_reverse,List.reverse_reverse,FK,FL,List.drop_take]
theorem iq(hs:mq r l)(O:SOrd r){i:Nat}{x:Keyed}(hi:0<i)(h:l[i - 1]?=some x):∀y∈l.take i,r x y=false:=fun y hy=>by
 obtain⟨m,hm⟩:=DD.mp hy
 have a:m<i:=by have:=(C7.mp hm).1;rw[Dx] at this;lia
 rw[D3 a] at hm
 refine eC hs O hm x ?_
 exact DD.mpr ⟨i - 1 - m,by rw[DS,show m+(i - 1 - m)=i - 1 by lia];exact h⟩
abbrev H7:=Option (Array Keyed)×Nat×Nat×Array Keyed×Nat×Nat×Nat
noncomputable def yM (a b:Array Keyed) (i mg ac bc:Nat) (out:Array Keyed) (j:Nat):StateT SortSt Sem (ForInStep H7):=do
 let x←elem' a (i - 1)
 if (i - 1==0)=true then pure (.done (some (a.extract 0 (i - 1)++b.extract 0 j++(out.push x).reverse),i - 1,j,out.push x,mg,ac,bc))
 else if (decide (ac<7)&&decide (bc<7))=true then pure (.done (none,i - 1,j,out.push x,mg,ac,bc)) else pure (.yield (none,i - 1,j,out.push x,mg,ac,bc))
noncomputable def xU (a b:Array Keyed) (j mg ac bc:Nat) (out:Array Keyed) (i:Nat):StateT SortSt Sem (ForInStep H7):=do
 let y←elem' b (j - 1)
 if (j - 1==1)=true then pure (.done (some (b.extract 0 (j - 1)++a.extract 0 i++(out.push y).reverse),i,j - 1,out.push y,mg,ac,bc))
 else do
  let x←elem' a (i - 1)
  let g←cB true x b 0 (j - 1) (j - 1 - 1)
  match g with
  |some k=>
   if j - 1 - k>0 then
    if (k==1)=true then pure (.done (some (b.extract 0 k++a.extract 0 i++(out.push y++(b.extract k (j - 1)).reverse).reverse),i,k,out.push y++(b.extract k (j - 1)).reverse,mg,ac,j - 1 - k))
    else if (k==0)=true then pure (.done (some (a.extract 0 i++b.extract 0 k++(out.push y++(b.extract k (j - 1)).reverse).reverse),i,k,out.push y++(b.extract k (j - 1)).reverse,mg,ac,j - 1 - k))
    else yM a b i mg ac (j - 1 - k) (out.push y++(b.extract k (j - 1)).reverse) k
   else yM a b i mg ac (j - 1 - k) (out.push y) (j - 1)
  |_=>pure (.done (some (a.extract 0 i++b.extract 0 (j - 1)++(out.push y).reverse),i,j - 1,out.push y,mg,ac,bc))
noncomputable def Lh (r:Keyed→Keyed→Bool) (a b:Array Keyed) (o0:Nat) (c:H7):Prop:=∃out i j mg ac bc,c=(none,i,j,out,mg,ac,bc)∧MH r a.toList b.toList out.toList.reverse i j∧0<i∧i≤a.size∧1<j∧j≤b.size∧o0≤out.size
noncomputable def Fh (r:Keyed→Keyed→Bool) (a b:Array Keyed) (c:H7):Prop:=∃res bC,c=(some res,bC)∧iJ r a.toList b.toList res.toList
noncomputable def Br (r:Keyed→Keyed→Bool) (a b:Array Keyed) (o0:Nat):ForInStep H7→Prop
 | .done c=>Fh r a b c∨Lh r a b o0 c
 | .yield c=>Lh r a b o0 c
theorem qr{st:SortSt}{Q:ForInStep H7→SortSt→Prop}(hM:MH r a.toList b.toList out.toList.reverse i j)(hi:0<i)(hi':i≤a.size)(hj:1<j)(hj':j≤b.size)
  (hx:a[i - 1]?=some x∧a.toList[i - 1]?=some x) (le:∀y∈b.toList.take j,r x y=false) (ho:o0≤out.size) (q:∀res,Br r a b o0 res→Q res st):wpS M A E s (yM a b i mg ac bc out j) Q st:=by
 unfold yM
 refine CL (bz hx.1 ?_)
 have c:=hM.pushA hi hx.2 le
 by_cases e:i - 1=0
 ·rw[if_pos (by simpa using e)]
  exact CN (q _ (.inl ⟨_,_,rfl,c.done (by lia) hj' (.inl e)⟩))
 ·rw[if_neg (by simpa using e)]
  have lo:∀mg ac bc,Lh r a b o0 (none,i - 1,j,out.push x,mg,ac,bc):=fun mg ac bc=>⟨_,_,_,_,_,_,rfl,c,by lia,by lia,hj,hj',by rw[DN];lia⟩
  split
  ·exact CN (q _ (.inr (lo _ _ _)))
  ·exact CN (q _ (lo _ _ _))
theorem qc (K:Ask M A E s κ S r)(O:SOrd r){a b out:Array Keyed}{i j mg ac bc o0:Nat}{st:SortSt}{y:Keyed}{Q:ForInStep H7→SortSt→Prop}(T:A5 S r a b)(hk:kindOf st=κ)(hf:∀y∈b.toList.take 1,∀x∈a.toList,r x y=false)(hM:MH r a.toList b.toList out.toList.reverse i j)(hi:0<i)(hi':i≤a.size)(hj:1<j)(hj':j≤b.size)
  (hy:b[j - 1]?=some y∧b.toList[j - 1]?=some y) (le:∀z∈a.toList.take i,r y z=false) (ho:o0≤out.size) (q:∀res,Br r a b o0 res→Q res st):wpS M A E s (xU a b j mg ac bc out i) Q st:=by
 unfold xU
 refine CL (bz hy.1 ?_)
 have f:=hM.pushB (by lia) hy.2 le
 by_cases e:j - 1=1
 ·rw[if_pos (by simpa using e)]
  exact CN (q _ (.inl ⟨_,_,rfl,f.first hi' (by lia) (by rw[e];exact hf)⟩))
 rw[if_neg (by simpa using e)]
 obtain⟨x,hx⟩:=de (a:=a) (i:=i - 1) (by lia)
 refine CL (bz hx.1 ?_)
 refine CL (mV K O hk (T.Sa x (C2 hx.2)) T.Sb T.sb (by lia) (by lia) fun k hk1 h1 h2=>?_)
 dsimp only
 have h:=iq T.sa O hi hx.2
 have d:∀z∈b.toList.take k,r x z=false:=fun z hz=>O.asym (h1 z (by simpa using hz))
 by_cases k0:j - 1 - k>0
 ·rw[if_pos k0]
  have c:=f.takeB (k:=k) (by lia) fun w hw z hz=>by
   obtain⟨m,hm⟩:=DD.mp hz
   rw[DS] at hm
   have g:=(C7.mp hm).1
   rw[Dx] at g
   rw[D3 (by lia)] at hm
   exact O.ntr (h w hw) (h2 _ (by lia) (by lia) z hm)
  rw[←vV _ _ _ _ (by lia)] at c
  by_cases e3:k=1
  ·rw[if_pos (by simpa using e3)]
   exact CN (q _ (.inl ⟨_,_,rfl,c.first hi' (by lia) (by rw[e3];exact hf)⟩))
  ·rw[if_neg (by simpa using e3)]
   by_cases e4:k=0
   ·rw[if_pos (by simpa using e4)]
    exact CN (q _ (.inl ⟨_,_,rfl,c.done hi' (by lia) (.inr e4)⟩))
   ·rw[if_neg (by simpa using e4)]
    exact qr c hi hi' (by lia) (by lia) hx d (by rw[FM,DN];lia) q
 ·rw[if_neg k0]
  have:k=j - 1:=by lia
  rw[this] at d
  exact qr f hi hi' (by lia) (by lia) hx d (by rw[DN];lia) q
theorem pX (K:Ask M A E s κ S r)(O:SOrd r){a b:Array Keyed}{st:SortSt}{Q:Array Keyed→SortSt→Prop}(T:A5 S r a b)(hk:kindOf st=κ)(na:0<a.size)(nb:0<b.size)(hf:∀y∈b.toList.take 1,∀x∈a.toList,r x y=false)
  (hl:∀x∈a.toList.drop (a.size - 1),∀y∈b.toList,r x y=false) (q:∀l st',SG st st'→iJ r a.toList b.toList l.toList→Q l st'):wpS M A E s (lX a b) Q st:=by
 rw[pJ]
 refine CL (wpS_lift (D8 ⟨rfl,?_⟩))
 obtain⟨x0,h0⟩:=de (a:=a) (i:=a.size - 1) (by lia)
 refine CL (bz h0.1 ?_)
 dsimp only
 have M0:MH r a.toList b.toList (#[]:Array Keyed).toList.reverse a.size b.size:=by
  have ea:a.toList.take a.size=a.toList:=EB (by simp)
  have eb:b.toList.take b.size=b.toList:=EB (by simp)
  exact⟨by rw[ea];simpa using T.sa,by rw[eb];simpa using T.sb,by rw[ea,eb];simp⟩
 have U:x0∈a.toList.drop (a.size - 1):=DD.mpr ⟨0,by rw[DS];exact h0.2⟩
 have M1:MH r a.toList b.toList #[x0].toList.reverse (a.size - 1) b.size:=M0.pushA na h0.2 fun y hy=>hl x0 U y (List.mem_of_mem_take hy)
 by_cases e1:a.size - 1=0
 ·rw[if_pos (by simpa using e1)]
  exact CN (q _ _ (SG.refl _) (M1.done (by lia) (by lia) (.inl e1)))
 rw[if_neg (by simpa using e1)]
 by_cases e2:b.size=1
 ·rw[if_pos (by simpa using e2)]
  exact CN (q _ _ (SG.refl _) (M1.first (by lia) (by lia) (by rw[e2];exact hf)))
 rw[if_neg (by simpa using e2)]
 refine CL (DX ?_)
 refine CL (Du (DE
  (I:=fun x c st'=>SG st st'∧∃f i j mg,c=(none,i,j,f,mg)∧MH r a.toList b.toList f.toList.reverse i j∧0<i∧i≤a.size∧1<j∧j≤b.size∧x+1≤f.size)
  (Q:=fun c st'=>SG st st'∧∃res bC,c=(some res,bC)∧iJ r a.toList b.toList res.toList) ?step ?fin ⟨SG.refl _,_,_,_,_,rfl,M1,by lia,by lia,by lia,by lia,by simp⟩) ?post)
 case fin=>
  rintro c st' ⟨_,f,i,j,mg,rfl,hM,hi,n,hj,d,ho⟩
  exfalso
  have:=hM.len (by rw[Di];lia) (by rw[Di];lia)
  rw[Fk,Di,Di,Di] at this
  lia
 case post=>
  rintro c st' ⟨sg,res,bC,rfl,g⟩
  exact CN (q _ _ sg g)
 case step=>
  rintro x c D _ hx ⟨sg,f,i,j,mg,rfl,hM,hi,n,hj,d,ho⟩
  dsimp only
  have L:kindOf D=κ:=sg.kind.trans hk
  refine CL (Du (DE
   (I:=fun x' c st'=>st'=D∧∃o i j ac bc,c=(none,i,j,o,ac,bc)∧MH r a.toList b.toList o.toList.reverse i j∧0<i∧i≤a.size∧1<j∧j≤b.size∧f.size+x'≤o.size)
   (Q:=fun c st'=>st'=D∧((∃res bC,c=(some res,bC)∧iJ r a.toList b.toList res.toList)∨∃o i j ac bc,c=(none,i,j,o,ac,bc)∧MH r a.toList b.toList o.toList.reverse i j∧0<i∧i≤a.size∧1<j∧j≤b.size∧f.size+1≤o.size)) ?s1 ?f1 ⟨rfl,f,i,j,0,0,rfl,hM,hi,n,hj,d,by lia⟩) ?p1)
  case f1=>
   rintro c st' ⟨rfl,o,i,j,ac,bc,rfl,hM,hi,n,hj,d,ho⟩
   exact⟨rfl,.inr ⟨o,i,j,ac,bc,rfl,hM,hi,n,hj,d,by lia⟩⟩
  case s1=>
   rintro x' c st' _ R ⟨rfl,o,i,j,ac,bc,rfl,hM,hi,n,hj,d,ho⟩
   dsimp only
   obtain⟨y,hy⟩:=de (a:=b) (i:=j - 1) (by lia)
   obtain⟨z,hz⟩:=de (a:=a) (i:=i - 1) (by lia)
   refine CL (bz hy.1 (CL (bz hz.1 (CL (K L (T.Sb y (C2 hy.2)) (T.Sa z (C2 hz.2)) ?_)))))
   have P:=iq T.sa O hi hz.2
   have C:=iq T.sb O (by lia) hy.2
   dsimp only
   cases hw:r y z with
   |true=>
    rw[if_pos rfl]
    refine CL (bz hz.1 ?_)
    have p:=hM.pushA hi hz.2 fun w hw'=>O.ntr (C w hw') (O.asym hw)
    by_cases e:i - 1=0
    ·rw[if_pos (by simpa using e)]
     exact CN ⟨rfl,.inl ⟨_,_,rfl,p.done (by lia) d (.inl e)⟩⟩
    ·rw[if_neg (by simpa using e)]
     split
     ·exact CN ⟨rfl,.inr ⟨_,_,_,_,_,rfl,p,by lia,by lia,hj,d,by rw[DN];lia⟩⟩
     ·exact CN ⟨rfl,_,_,_,_,_,rfl,p,by lia,by lia,hj,d,by rw[DN];lia⟩
   |false=>
    rw[if_neg (by simp)]
    refine CL (bz hy.1 ?_)
    have p:=hM.pushB (by lia) hy.2 fun w hw'=>O.ntr (P w hw') hw
    by_cases e:j - 1=1
    ·rw[if_pos (by simpa using e)]
     exact CN ⟨rfl,.inl ⟨_,_,rfl,p.first n (by lia) (by rw[e];exact hf)⟩⟩
    ·rw[if_neg (by simpa using e)]
     split
     ·exact CN ⟨rfl,.inr ⟨_,_,_,_,_,rfl,p,hi,n,by lia,by lia,by rw[DN];lia⟩⟩
     ·exact CN ⟨rfl,_,_,_,_,_,rfl,p,hi,n,by lia,by lia,by rw[DN];lia⟩
  case p1=>
   rintro c st' ⟨rfl,⟨res,bC,rfl,g⟩|⟨o,i,j,ac,bc,rfl,hM,hi,n,hj,d,ho⟩⟩
   ·exact CN ⟨sg,_,_,rfl,g⟩
   ·dsimp only
    refine CL (wpS_lift (D8 ⟨rfl,?_⟩))
    refine CL (Du (DE
     (I:=fun x' c u=>SG st u∧Lh r a b (f.size+1) c)
     (Q:=fun c u=>SG st u∧(Fh r a b c∨Lh r a b (f.size+1) c)) ?s2 ?f2 ⟨sg,_,_,_,_,_,_,rfl,hM,hi,n,hj,d,by lia⟩) ?p2)
    case f2=>
     rintro c u ⟨h1,h2⟩
     exact⟨h1,.inr h2⟩
    case p2=>
     rintro c u ⟨B,⟨res,bC,rfl,g⟩|⟨o,i,j,mg,ac,bc,rfl,hM,hi,n,hj,d,ho⟩⟩
     ·exact CN ⟨B,_,_,rfl,g⟩
     ·exact CL (fL fun st3 sg3=>CN ⟨B.trans sg3,_,_,_,_,rfl,hM,hi,n,hj,d,by show x+1+1≤o.size;lia⟩)
    case s2=>
     rintro x' c st2 _ R ⟨B,o,i,j,mg,ac,bc,rfl,hM,hi,n,hj,d,ho⟩
     dsimp only
     have J:∀mg:Nat,wpS M A E s (do
       cz mg
       let y←elem' b (j - 1)
       let g←cB false y a 0 i (i - 1)
       match g with
       |some k=>
        if i - k>0 then
         if (k==0)=true then pure (ForInStep.done ((some (a.extract 0 k++b.extract 0 j++(o++(a.extract k i).reverse).reverse),k,j,o++(a.extract k i).reverse,mg,i - k,bc):H7))
         else xU a b j mg (i - k) bc (o++(a.extract k i).reverse) k
        else xU a b j mg (i - k) bc o i
       |_=>pure (ForInStep.done ((some (a.extract 0 i++b.extract 0 j++o.reverse),i,j,o,mg,ac,bc):H7)))
       (fun res st'=>match res with| .done c=>SG st st'∧(Fh r a b c∨Lh r a b (f.size+1) c)| .yield c=>SG st st'∧Lh r a b (f.size+1) c) st2:=fun mg=>by
      refine CL (fL fun st3 sg3=>?_)
      have v:=B.trans sg3
      obtain⟨y,hy⟩:=de (a:=b) (i:=j - 1) (by lia)
      refine CL (bz hy.1 ?_)
      have fin:∀res,Br r a b (f.size+1) res→(match res with| .done c=>SG st st3∧(Fh r a b c∨Lh r a b (f.size+1) c)| .yield c=>SG st st3∧Lh r a b (f.size+1) c):=fun res h=>by
       cases res with
       |done c=>exact⟨v,h⟩
       |yield c=>exact⟨v,h⟩
      refine CL (nB K O (v.kind.trans hk) (T.Sb y (C2 hy.2)) T.Sa T.sa (by lia) (by lia) fun k L h1 h2=>?_)
      dsimp only
      have C:=iq T.sb O (by lia) hy.2
      have F:∀z∈a.toList.take k,r y z=false:=fun z hz=>h1 z (by simpa using hz)
      by_cases k0:i - k>0
      ·rw[if_pos k0]
       have H:=hM.takeA (k:=k) (by lia) fun w hw z hz=>by
        obtain⟨m,hm⟩:=DD.mp hz
        rw[DS] at hm
        have N:=(C7.mp hm).1
        rw[Dx] at N
        rw[D3 (by lia)] at hm
        exact O.ntr (C w hw) (O.asym (h2 _ (by lia) (by lia) z hm))
       rw[←vV _ _ _ _ (by lia)] at H
       by_cases e3:k=0
       ·rw[if_pos (by simpa using e3)]
        exact CN (fin (.done _) (Or.inl ⟨_,_,rfl,H.done (by lia) d (.inl e3)⟩))
       ·rw[if_neg (by simpa using e3)]
        exact qc K O T (v.kind.trans hk) hf H (by lia) (by lia) hj d hy F (by rw[FM];lia) fin
      ·rw[if_neg k0]
       have:k=i:=by lia
       rw[this] at F
       exact qc K O T (v.kind.trans hk) hf hM hi n hj d hy F ho fin
     by_cases hmg:mg>1
     ·rw[if_pos hmg]
      refine Du (J (mg - 1)) fun res st' h=>?_
      cases res<;>exact h
     ·rw[if_neg hmg]
      refine Du (J mg) fun res st' h=>?_
      cases res<;>exact h
end
noncomputable def Sl (r:Keyed→Keyed→Bool) (a:Array Keyed) (lo n:Nat):Prop:=∀m m' x x',lo≤m→m≤m'→m'<lo+n→a[m]?=some x→a[m']?=some x'→r x' x=false
noncomputable def Dn (r:Keyed→Keyed→Bool) (a:Array Keyed) (lo n:Nat):Prop:=∀m m' x x',lo≤m→m≤m'→m'<lo+n→a[m]?=some x→a[m']?=some x'→r x x'=false
structure Kp (lo hi:Nat) (a a':Array Keyed):Prop where
 pm:a'.Perm a
 out:∀k,k<lo∨hi≤k→a'[k]?=a[k]?
theorem Kp.refl {lo hi:Nat}(a:Array Keyed):Kp lo hi a a:=⟨Array.Perm.refl _,fun _ _=>rfl⟩
theorem Kp.trans {lo hi:Nat}{a b c:Array Keyed}(h:Kp lo hi a b)(g:Kp lo hi b c):Kp lo hi a c:=⟨g.pm.trans h.pm,fun k hk=>(g.out k hk).trans (h.out k hk)⟩
theorem Kp.size {lo hi:Nat}{a b:Array Keyed}(h:Kp lo hi a b):b.size=a.size:=h.pm.size_eq
theorem Kp.wide {lo hi lo' hi':Nat}{a b:Array Keyed}(h:Kp lo hi a b)(h1:lo'≤lo)(h2:hi≤hi'):Kp lo' hi' a b:=⟨h.pm,fun k hk=>h.out k (by lia)⟩
structure SA (lo hi:Nat) (st st':SortSt):Prop where
 kind:kindOf st'=kindOf st
 pend:pendingOf st'=pendingOf st
 fail:failedOf st'=failedOf st
 arr:Kp lo hi (arrOf st) (arrOf st')
theorem SA.refl {lo hi:Nat}(st:SortSt):SA lo hi st st:=⟨rfl,rfl,rfl,Kp.refl _⟩
theorem SA.trans {lo hi:Nat}{a b c:SortSt}(h:SA lo hi a b)(g:SA lo hi b c):SA lo hi a c:=⟨g.kind.trans h.kind,g.pend.trans h.pend,g.fail.trans h.fail,h.arr.trans g.arr⟩
section
variable {M:Model} {A:Around} {E:Value→Shared→Prop} {s:Shared} {κ:SortKind} {S:Keyed→Prop} {r:Keyed→Keyed→Bool}
theorem rr (O:SOrd r)(x:Keyed):r x x=false:=by
 cases q:r x x with
 |false=>rfl
 |true=>rw[O.asym q] at q;cases q
noncomputable def In (S:Keyed→Prop) (a:Array Keyed):Prop:=∀(k:Nat) (x:Keyed),a[k]?=some x→S x
theorem In.kp {a b:Array Keyed}{lo hi:Nat}(h:In S a)(k:Kp lo hi a b):In S b:=fun i x hx=>by
 have hi:=(Array.getElem?_eq_some_iff.mp hx).1
 have hm:x∈b:=Array.mem_of_getElem? hx
 have:=(k.pm.mem_iff).mp hm
 obtain⟨j,hj⟩:=Array.getElem?_of_mem this
 exact h j x hj
theorem iR (K:Ask M A E s κ S r){st:SortSt}{i j:Nat}{x y:Keyed}{Q:Option Bool→SortSt→Prop}(hk:kindOf st=κ)(hS:In S (arrOf st))(hx:(arrOf st)[i]?=some x)(hy:(arrOf st)[j]?=some y)(q:Q (some (r x y)) st):wpS M A E s (ltAt' i j) Q st:=by
 rw[ltAt'_eq]
 refine CL (DX (CL (bz hx (CL (bz hy ?_)))))
 exact K hk (hS i x hx) (hS j y hy) q
theorem dq {a:Array Keyed}{i:Nat}(h:i<a.size):∃x,a[i]?=some x:=⟨a[i],getElem?_pos a i h⟩
theorem kj{st:SortSt}{Q:Unit→SortSt→Prop}(hj:j≤(arrOf st).size)(q:∀st',SA i j st st'→(∀k,(arrOf st')[k]?=if i≤k∧k<j then (arrOf st)[i+j - 1 - k]? else (arrOf st)[k]?)→Q () st'):wpS M A E s (reverseSlice' i j) Q st:=by
 rw[reverseSlice'_eq]
 refine Ej (q _ ⟨rfl,rfl,rfl,mirror_perm _ _ _ _,fun k hk=>?_⟩ fun k=>getElem?_mirror_all hj k)
 show(mirror (arrOf st) i j ((j - i)/2))[k]?=_
 rw[getElem?_mirror_all hj,if_neg (by lia)]
noncomputable def xk (lo a nrem:Nat):StateT SortSt Sem AscSt:=
 forIn [a:nrem] ((none,a):AscSt) fun _ __s=>do
  let __x←ltAt' (lo+__s.snd) (lo+__s.snd - 1)
  match __x with
  |some smaller=>if smaller=true then pure (ForInStep.done (none,__s.snd)) else pure (ForInStep.yield (none,__s.snd+1))
  |_=>pure (ForInStep.done (some none,__s.snd))
theorem qx (K:Ask M A E s κ S r)(O:SOrd r){st:SortSt}{lo a nrem:Nat}{Q:AscSt→SortSt→Prop}(hk:kindOf st=κ)(hS:In S (arrOf st))(hn:lo+nrem≤(arrOf st).size)(ha:1≤a)(han:a≤nrem)(hs:Sl r (arrOf st) lo a)
  (q:∀n,a≤n→n≤nrem→Sl r (arrOf st) lo n→(n<nrem→∀x y,(arrOf st)[lo+n]?=some x→(arrOf st)[lo+n - 1]?=some y→r x y=true)→Q (none,n) st):wpS M A E s (xk lo a nrem) Q st:=by
 unfold xk
 refine DE (I:=fun x c d=>d=st∧c=(none,x)∧Sl r (arrOf st) lo x) ?_ ?_ ⟨rfl,rfl,hs⟩
 ·rintro n c d h1 h2 ⟨rfl,rfl,b⟩
  dsimp only
  obtain⟨x,hx⟩:=dq (a:=arrOf d) (i:=lo+n) (by lia)
  obtain⟨y,hy⟩:=dq (a:=arrOf d) (i:=lo+n - 1) (by lia)
  refine CL (iR K hk hS hx hy ?_)
  dsimp only
  cases hw:r x y with
  |true=>
   rw[if_pos rfl]
   exact CN (q n h1 (by lia) b fun _ x' y' e1 e2=>by rw[hx] at e1;rw[hy] at e2;cases e1;cases e2;exact hw)
  |false=>
   rw[if_neg (by simp)]
   refine CN ⟨rfl,rfl,fun m m' z z' b1 b2 b3 e1 e2=>?_⟩
   by_cases hm:m'<lo+n
   ·exact b m m' z z' b1 b2 hm e1 e2
   ·have e:m'=lo+n:=by lia
    subst e
    rw[hx] at e2;cases e2
    by_cases hmm:m=lo+n
    ·subst hmm;rw[hx] at e1;cases e1;exact rr O _
    ·exact O.ntr (b m (lo+n - 1) z y b1 (by lia) (by lia) e1 hy) hw
 ·rintro c d ⟨rfl,rfl,b⟩
  rw[show max a nrem=nrem by lia] at b⊢
  exact q nrem han (CM _) b fun h=>(DL _ h).elim
theorem rD (K:Ask M A E s κ S r)(O:SOrd r){st:SortSt}{lo n nrem:Nat}{Q:Option Nat→SortSt→Prop}{k:AscSt→StateT SortSt Sem (Option Nat)}(hkk:∀n,k (none,n)=pure (some n))(hk:kindOf st=κ)(hS:In S (arrOf st))(hn:lo+nrem≤(arrOf st).size)(h1:1≤n)(h2:n≤nrem)(hs:Dn r (arrOf st) lo n)
  (q:∀m st',SA lo (lo+nrem) st st'→1≤m→m≤nrem→Sl r (arrOf st') lo m→Q (some m) st'):wpS M A E s (reverseSlice' lo (lo+n)>>=fun _=>xk lo n nrem>>=fun c=>k c) Q st:=by
 refine CL (kj (by lia) fun st1 sa ge=>?_)
 have sz:=sa.arr.size
 refine CL (qx K O (sa.kind.trans hk) (hS.kp sa.arr) (by lia) h1 h2 (fun m m' x x' b1 b2 b3 e1 e2=>?_) fun m c1 c2 c3 _=>?_)
 ·rw[ge,if_pos (by lia)] at e1 e2
  exact hs _ _ x' x (by lia) (by lia) (by lia) e2 e1
 ·rw[hkk]
  exact CN (q m st1 ⟨sa.kind,sa.pend,sa.fail,sa.arr.wide (CM _) (by lia)⟩ (by lia) c2 c3)
noncomputable def v_ (lo n nrem:Nat):StateT SortSt Sem DescSt:=
 forIn [n:nrem] ((none,n,0):DescSt) fun _ __s=>do
  let __x←ltAt' (lo+__s.snd.fst) (lo+__s.snd.fst - 1)
  match __x with
  |some smaller=>
   if smaller=true then
    if __s.snd.snd>0 then do
     reverseSlice' (lo+__s.snd.fst - (__s.snd.snd+1)) (lo+__s.snd.fst)
     pure (ForInStep.yield (none,__s.snd.fst+1,0))
    else pure (ForInStep.yield (none,__s.snd.fst+1,0))
   else do
    let __x←ltAt' (lo+__s.snd.fst - 1) (lo+__s.snd.fst)
    match __x with
    |some larger=>
     if larger=true then pure (ForInStep.done (none,__s.snd.fst,__s.snd.snd))
     else pure (ForInStep.yield (none,__s.snd.fst+1,__s.snd.snd+1))
    |_=>pure (ForInStep.done (some none,__s.snd.fst,__s.snd.snd))
  |_=>pure (ForInStep.done (some none,__s.snd.fst,__s.snd.snd))
theorem wx {a a':Array Keyed}{lo n i:Nat}(hs:Dn r a lo n)(hi:lo≤i)(hin:i<lo+n)(eqv:∀m m' x x',i≤m→m<lo+n→i≤m'→m'<lo+n→a[m]?=some x→a[m']?=some x'→r x x'=false)
  (ge:∀k,a'[k]?=if i≤k∧k<lo+n then a[i+(lo+n) - 1 - k]? else a[k]?):Dn r a' lo n:=fun m m' x x' b1 b2 b3 e1 e2=>by
 rw[ge] at e1 e2
 by_cases c1:i≤m∧m<lo+n
 ·rw[if_pos c1] at e1
  rw[if_pos (by lia)] at e2
  exact eqv _ _ x x' (by lia) (by lia) (by lia) (by lia) e1 e2
 ·rw[if_neg c1] at e1
  by_cases c2:i≤m'∧m'<lo+n
  ·rw[if_pos c2] at e2
   exact hs m _ x x' b1 (by lia) (by lia) e1 e2
  ·rw[if_neg c2] at e2
   exact hs m m' x x' b1 b2 b3 e1 e2
noncomputable def zJ (r:Keyed→Keyed→Bool) (a:Array Keyed) (i e:Nat):Prop:=∀m m' x x',i≤m→m<e→i≤m'→m'<e→a[m]?=some x→a[m']?=some x'→r x x'=false
theorem tQ (K:Ask M A E s κ S r)(O:SOrd r){st:SortSt}{lo n nrem:Nat}{Q:DescSt→SortSt→Prop}(hk:kindOf st=κ)(hS:In S (arrOf st))(hn:lo+nrem≤(arrOf st).size)(h1:1≤n)(h2:n≤nrem)(hs:Dn r (arrOf st) lo n)
  (q:∀m neq st',SA lo (lo+nrem) st st'→n≤m→m≤nrem→neq+1≤m→Dn r (arrOf st') lo m→zJ r (arrOf st') (lo+m - (neq+1)) (lo+m)→Q (none,m,neq) st'):wpS M A E s (v_ lo n nrem) Q st:=by
 unfold v_
 refine DE (I:=fun x c st'=>∃neq,c=(none,x,neq)∧SA lo (lo+nrem) st st'∧neq+1≤x∧Dn r (arrOf st') lo x∧zJ r (arrOf st') (lo+x - (neq+1)) (lo+x)) ?_ ?_
  ⟨0,rfl,SA.refl _,by lia,hs,fun m m' x x' c1 c2 c3 c4 e1 e2=>?_⟩
 ·rintro x c f a1 a2 ⟨neq,rfl,sa,a3,hd,d⟩
  dsimp only
  have l:=sa.kind.trans hk
  have j:=hS.kp sa.arr
  have sz:=sa.arr.size
  obtain⟨y,hy⟩:=dq (a:=arrOf f) (i:=lo+x) (by lia)
  obtain⟨z,hz⟩:=dq (a:=arrOf f) (i:=lo+x - 1) (by lia)
  refine CL (iR K l j hy hz ?_)
  dsimp only
  have more:∀{b:Array Keyed},Dn r b lo x→(∀w,b[lo+x - 1]?=some w→r w y=false)→b[lo+x]?=some y→(∃w,b[lo+x - 1]?=some w)→Dn r b lo (x+1):=fun hd hl hy' ⟨w,hw⟩ m m' u u' b1 b2 b3 e1 e2=>by
   by_cases hm:m'<lo+x
   ·exact hd m m' u u' b1 b2 hm e1 e2
   ·have p:m'=lo+x:=by lia
    subst p
    rw[hy'] at e2;cases e2
    by_cases hmm:m=lo+x
    ·subst hmm;rw[hy'] at e1;cases e1;exact rr O _
    ·exact O.ntr (hl w hw) (hd m (lo+x - 1) u w b1 (by lia) (by lia) e1 hw)
  cases hw:r y z with
  |true=>
   rw[if_pos rfl]
   have g:∀b:Array Keyed,zJ r b (lo+(x+1) - (0+1)) (lo+(x+1)):=fun b m m' u u' c1 c2 c3 c4 e1 e2=>by
    have:m=m':=by lia
    subst this
    rw[e1] at e2;cases e2;exact rr O _
   by_cases hq:neq>0
   ·rw[if_pos hq]
    refine CL (kj (by lia) fun st2 sa2 ge=>?_)
    have o:Dn r (arrOf st2) lo x:=wx (i:=lo+x - (neq+1)) hd (by lia) (by lia) (fun m m' u u' c1 c2 c3 c4 e1 e2=>d m m' u u' c1 c2 c3 c4 e1 e2) ge
    refine CN ⟨0,rfl,sa.trans ⟨sa2.kind,sa2.pend,sa2.fail,sa2.arr.wide (by lia) (by lia)⟩,by lia,more o (fun w ew=>?_) ?_ (dq (by have:=sa2.arr.size;lia)),g _⟩
    ·rw[ge,if_pos (by lia)] at ew
     have l1:=d (lo+x - 1) _ z w (by lia) (by lia) (by lia) (by lia) hz ew
     have l2:=d _ (lo+x - 1) w z (by lia) (by lia) (by lia) (by lia) ew hz
     exact O.ntr (O.asym hw) l2
    ·rw[ge,if_neg (by lia)];exact hy
   ·rw[if_neg hq]
    exact CN ⟨0,rfl,sa,by lia,more hd (fun w ew=>by rw[hz] at ew;cases ew;exact O.asym hw) hy ⟨z,hz⟩,g _⟩
  |false=>
   rw[if_neg (by simp)]
   refine CL (iR K l j hz hy ?_)
   dsimp only
   cases hv:r z y with
   |true=>
    rw[if_pos rfl]
    exact CN (q x neq f sa a1 (by lia) a3 hd d)
   |false=>
    rw[if_neg (by simp)]
    refine CN ⟨neq+1,rfl,sa,by lia,more hd (fun w ew=>by rw[hz] at ew;cases ew;exact hv) hy ⟨z,hz⟩,fun m m' u u' c1 c2 c3 c4 e1 e2=>?_⟩
    have h:∀k w,lo+x - (neq+1)≤k→k<lo+x→(arrOf f)[k]?=some w→r w z=false∧r z w=false:=fun k w d1 d2 e=>⟨d k (lo+x - 1) w z d1 d2 (by lia) (by lia) e hz,d (lo+x - 1) k z w (by lia) (by lia) d1 d2 hz e⟩
    by_cases g1:m=lo+x
    ·subst g1
     rw[hy] at e1;cases e1
     by_cases g2:m'=lo+x
     ·subst g2;rw[hy] at e2;cases e2;exact rr O _
     ·exact O.ntr (h m' u' (by lia) (by lia) e2).2 hw
    ·by_cases g2:m'=lo+x
     ·subst g2
      rw[hy] at e2;cases e2
      exact O.ntr hv (h m u (by lia) (by lia) e1).1
     ·exact d m m' u u' (by lia) (by lia) (by lia) (by lia) e1 e2
 ·rintro c f ⟨neq,rfl,sa,a3,hd,d⟩
  rw[show max n nrem=nrem by lia] at*
  exact q nrem neq f sa h2 (CM _) a3 hd d
 ·have:m=m':=by lia
  subst this
  rw[e1] at e2;cases e2;exact rr O _
theorem lI (K:Ask M A E s κ S r)(O:SOrd r){st:SortSt}{lo n nrem:Nat}{Q:Option Nat→SortSt→Prop}{k2:DescSt→StateT SortSt Sem (Option Nat)}{T:Nat→StateT SortSt Sem (Option Nat)}(h:∀m neq,k2 (none,m,neq)=if neq>0 then (reverseSlice' (lo+m - (neq+1)) (lo+m)>>=fun _=>T m) else T m)
  (hk:kindOf st=κ) (hS:In S (arrOf st)) (hn:lo+nrem≤(arrOf st).size) (h1:1≤n) (h2:n<nrem) (hs:Dn r (arrOf st) lo (n+1))
  (hT:∀m st',SA lo (lo+nrem) st st'→n+1≤m→m≤nrem→Dn r (arrOf st') lo m→wpS M A E s (T m) Q st'):wpS M A E s ((liftM (rule "list.sort.descending-run"):StateT SortSt Sem Unit)>>=fun _=>v_ lo (n+1) nrem>>=fun c=>k2 c) Q st:=by
 refine CL (wpS_lift (D8 ⟨rfl,?_⟩))
 refine CL (tQ K O hk hS hn (by lia) h2 hs fun m neq st1 sa a1 a2 a3 hd hlk=>?_)
 rw[h]
 have sz:=sa.arr.size
 by_cases hq:neq>0
 ·rw[if_pos hq]
  refine CL (kj (by lia) fun st2 sa2 ge=>?_)
  exact hT m st2 (sa.trans ⟨sa2.kind,sa2.pend,sa2.fail,sa2.arr.wide (by lia) (by lia)⟩) a1 a2 (wx hd (by lia) (by lia) (fun m m' u u' c1 c2 c3 c4 e1 e2=>hlk m m' u u' c1 c2 c3 c4 e1 e2) ge)
 ·rw[if_neg hq]
  exact hT m st1 sa a1 a2 hd
theorem oQ (K:Ask M A E s κ S r)(O:SOrd r){st:SortSt}{lo nrem:Nat}{Q:Option Nat→SortSt→Prop}(hk:kindOf st=κ)(hS:In S (arrOf st))(hn:lo+nrem≤(arrOf st).size)(h1:1≤nrem)
  (q:∀m st',SA lo (lo+nrem) st st'→1≤m→m≤nrem→Sl r (arrOf st') lo m→Q (some m) st'):wpS M A E s (countRun' lo nrem) Q st:=by
 rw[countRun'_eq]
 have one:Sl r (arrOf st) lo 1:=fun m m' x x' b1 b2 b3 e1 e2=>by
  have:m=m':=by lia
  subst this
  rw[e1] at e2;cases e2;exact rr O _
 refine CL (qx (a:=1) K O hk hS hn (CM _) h1 one fun n a1 a2 hs fall=>?_)
 dsimp only
 by_cases e:n=nrem
 ·rw[if_pos (by simpa using e)]
  exact CN (q n st (SA.refl _) a1 a2 hs)
 rw[if_neg (by simpa using e)]
 have f:n<nrem:=by lia
 obtain⟨y,hy⟩:=dq (a:=arrOf st) (i:=lo+n) (by lia)
 obtain⟨z,hz⟩:=dq (a:=arrOf st) (i:=lo+n - 1) (by lia)
 have j:=fall f y z hy hz
 have h:∀st1 (k:AscSt→StateT SortSt Sem (Option Nat)),(∀n,k (none,n)=pure (some n))→SA lo (lo+nrem) st st1→∀m st2,SA lo (lo+nrem) st1 st2→n+1≤m→m≤nrem→Dn r (arrOf st2) lo m→wpS M A E s (reverseSlice' lo (lo+m)>>=fun _=>xk lo m nrem>>=fun c=>k c) Q st2:=fun st1 k hkk sa m st2 sa2 c1 c2 hd=>by
  have b:=sa.trans sa2
  have sz:=b.arr.size
  exact rD K O hkk (b.kind.trans hk) (hS.kp b.arr) (by lia) (by lia) c2 hd fun k st3 sa3 b1 b2 b3=>q k st3 (b.trans sa3) b1 b2 b3
 by_cases hn1:n>1
 ·rw[if_pos hn1]
  obtain⟨x,hx⟩:=dq (a:=arrOf st) (i:=lo) (by lia)
  refine CL (iR K hk hS hx hz ?_)
  dsimp only
  cases hw:r x z with
  |true=>
   rw[if_pos rfl]
   exact CN (q n st (SA.refl _) a1 a2 hs)
  |false=>
   rw[if_neg (by simp)]
   refine CL (kj (by lia) fun st1 sa ge=>?_)
   have d:∀m m' u u',lo≤m→m<lo+n→lo≤m'→m'<lo+n→(arrOf st)[m]?=some u→(arrOf st)[m']?=some u'→r u u'=false:=fun m m' u u' c1 c2 c3 c4 e1 e2=>by
    have g1:=hs m' (lo+n - 1) u' z c3 (by lia) (by lia) e2 hz
    have g2:=hs lo m x u (CM _) c1 (by lia) hx e1
    exact O.ntr (O.ntr g1 hw) g2
   have b:SA lo (lo+nrem) st st1:=⟨sa.kind,sa.pend,sa.fail,sa.arr.wide (CM _) (by lia)⟩
   have o:=b.arr.size
   refine lI (k2:=_) (T:=fun m=>_) K O (fun m neq=>rfl) (b.kind.trans hk) (hS.kp b.arr) (by lia) a1 f (fun m m' u u' b1 b2 b3 e1 e2=>?_) (h st1 _ (fun _=>rfl) b)
   rw[ge] at e1 e2
   by_cases c2:lo≤m'∧m'<lo+n
   ·rw[if_pos c2] at e2
    rw[if_pos (by lia)] at e1
    exact d _ _ u u' (by lia) (by lia) (by lia) (by lia) e1 e2
   ·have l:m'=lo+n:=by lia
    subst l
    rw[if_neg c2,hy] at e2
    cases e2
    by_cases c1:lo≤m∧m<lo+n
    ·rw[if_pos c1] at e1
     have g:=d (lo+n - 1) _ z u (by lia) (by lia) (by lia) (by lia) hz e1
     have g':=d _ (lo+n - 1) u z (by lia) (by lia) (by lia) (by lia) e1 hz
     exact O.ntr (O.asym j) g'
    ·have:m=lo+n:=by lia
     subst this
     rw[if_neg c1,hy] at e1
     cases e1
     exact rr O _
 ·rw[if_neg hn1]
  have n1:n=1:=by lia
  refine lI (k2:=_) (T:=fun m=>_) K O (fun m neq=>rfl) hk hS (by lia) a1 f (fun m m' u u' b1 b2 b3 e1 e2=>?_) (h st _ (fun _=>rfl) (SA.refl _))
  by_cases c1:m=m'
  ·subst c1;rw[e1] at e2;cases e2;exact rr O _
  ·have c2:m=lo+n - 1:=by lia
   have c3:m'=lo+n:=by lia
   rw[c2,hz] at e1
   rw[c3,hy] at e2
   cases e1;cases e2
   exact O.asym j
theorem pM (K:Ask M A E s κ S r)(O:SOrd r){st:SortSt}{lo n ok:Nat}{Q:Bool→SortSt→Prop}(hk:kindOf st=κ)(hS:In S (arrOf st))(hn:lo+n≤(arrOf st).size)(h1:1≤ok)(h2:ok≤n)(hs:Sl r (arrOf st) lo ok)
  (q:∀st',SA lo (lo+n) st st'→Sl r (arrOf st') lo n→Q true st'):wpS M A E s (binarySort' lo n ok) Q st:=by
 rw[binarySort'_eq]
 rw[show max ok 1=ok by lia]
 refine CL (Du (DE (I:=fun x c st'=>c=(none,())∧SA lo (lo+n) st st'∧Sl r (arrOf st') lo x) (Q:=fun c st'=>c=(none,())∧SA lo (lo+n) st st'∧Sl r (arrOf st') lo n) ?step ?fin ⟨rfl,SA.refl _,hs⟩) ?post)
 case fin=>
  rintro c st' ⟨rfl,sa,o⟩
  rw[show max ok n=n by lia] at o
  exact⟨rfl,sa,o⟩
 case post=>
  rintro c st' ⟨rfl,sa,o⟩
  exact CN (q st' sa o)
 case step=>
  rintro k c b a1 a2 ⟨rfl,sa,d⟩
  dsimp only
  have sz:=sa.arr.size
  have v:=sa.kind.trans hk
  have u:=hS.kp sa.arr
  obtain⟨p,hp⟩:=dq (a:=arrOf b) (i:=lo+k) (by lia)
  refine CL (Du (DE (I:=fun x c st'=>st'=b∧∃l h,c=(none,l,h)∧l≤h∧h≤k∧h - l≤k - x∧(∀i x,i<l→(arrOf b)[lo+i]?=some x→r p x=false)∧∀i x,h≤i→i<k→(arrOf b)[lo+i]?=some x→r p x=true)
   (Q:=fun c st'=>st'=b∧∃l,c=(none,l,l)∧l≤k∧(∀i x,i<l→(arrOf b)[lo+i]?=some x→r p x=false)∧∀i x,l≤i→i<k→(arrOf b)[lo+i]?=some x→r p x=true) ?s ?f ⟨rfl,0,k,rfl,by lia,by lia,by lia,(fun i x h=>by lia),fun i x h1 h2=>by lia⟩) ?pp)
  case s=>
   rintro x c st' _ hx ⟨rfl,l,h,rfl,b1,b2,b3,b4,b5⟩
   dsimp only
   by_cases e:l≥h
   ·rw[if_pos e]
    have:l=h:=by lia
    subst this
    exact CN ⟨rfl,l,rfl,b2,b4,b5⟩
   ·rw[if_neg e]
    obtain⟨y,hy⟩:=dq (a:=arrOf st') (i:=lo+(l+h)/2) (by lia)
    refine CL (iR K v u hp hy ?_)
    dsimp only
    cases hw:r p y with
    |true=>
     rw[if_pos rfl]
     refine CN ⟨rfl,_,_,rfl,by lia,by lia,by lia,b4,fun i z c1 c2 ez=>?_⟩
     have g:=d (lo+(l+h)/2) (lo+i) y z (by lia) (by lia) (by lia) hy ez
     cases hz:r p z with
     |true=>rfl
     |false=>exact absurd (O.ntr g hz) (by rw[hw];simp)
    |false=>
     rw[if_neg (by simp)]
     refine CN ⟨rfl,_,_,rfl,by lia,by lia,by lia,fun i z c1 ez=>?_,b5⟩
     exact O.ntr (d (lo+i) (lo+(l+h)/2) z y (by lia) (by lia) (by lia) ez hy) hw
  case f=>
   rintro c st' ⟨rfl,l,h,rfl,b1,b2,b3,b4,b5⟩
   have:l=h:=by lia
   subst this
   exact⟨rfl,l,rfl,b2,b4,b5⟩
  case pp=>
   rintro c st' ⟨rfl,l,rfl,b2,b4,b5⟩
   dsimp only
   rw[moveDown'_eq]
   have ge:=getElem?_bubble (xs:=arrOf st') (src:=lo+k) (by lia) (k - l) (by lia)
   have ed:lo+k - (lo+l)=k - l:=by lia
   refine CL (Ej (CN ⟨rfl,sa.trans ⟨rfl,rfl,rfl,?_,fun j hj=>?_⟩,fun m m' x x' c1 c2 c3 e1 e2=>?_⟩))
   ·exact bubble_perm _ _ _
   ·show(bubble (arrOf st') (lo+k) (lo+k - (lo+l)))[j]?=_
    rw[ed,ge,if_neg (by lia),if_neg (by lia)]
   ·have e1:(bubble (arrOf st') (lo+k) (lo+k - (lo+l)))[m]?=some x:=e1
    have e2:(bubble (arrOf st') (lo+k) (lo+k - (lo+l)))[m']?=some x':=e2
    rw[ed,ge,show lo+k - (k - l)=lo+l by lia] at e1 e2
    by_cases g1:m=lo+l
    ·rw[if_pos g1,hp] at e1
     cases e1
     by_cases g2:m'=lo+l
     ·rw[if_pos g2,hp] at e2;cases e2;exact rr O _
     ·rw[if_neg g2,if_pos (by lia)] at e2
      rw[show m' - 1=lo+(m' - 1 - lo) by lia] at e2
      exact O.asym (b5 _ x' (by lia) (by lia) e2)
    ·rw[if_neg g1] at e1
     by_cases g2:m'=lo+l
     ·rw[if_pos g2,hp] at e2
      cases e2
      rw[if_neg (by lia),show m=lo+(m - lo) by lia] at e1
      exact b4 _ x (by lia) e1
     ·rw[if_neg g2] at e2
      by_cases g3:lo+l<m∧m≤lo+k
      ·rw[if_pos g3] at e1
       rw[if_pos (by lia)] at e2
       exact d (m - 1) (m' - 1) x x' (by lia) (by lia) (by lia) e1 e2
      ·rw[if_neg g3] at e1
       by_cases g4:lo+l<m'∧m'≤lo+k
       ·rw[if_pos g4] at e2
        exact d m (m' - 1) x x' c1 (by lia) (by lia) e1 e2
       ·rw[if_neg g4] at e2
        exact d m m' x x' c1 c2 (by lia) e1 e2
end
section
variable {M:Model} {A:Around} {E:Value→Shared→Prop} {s:Shared} {κ:SortKind} {S:Keyed→Prop} {r:Keyed→Keyed→Bool}
theorem yL (K:Ask M A E s κ S r)(O:SOrd r){a:Array Keyed}{key:Keyed}{st:SortSt}{i n h:Nat}{Q:Option Nat→SortSt→Prop}(hk:kindOf st=κ)(hS:S key)(Sa:In S a)(sa:Sl r a i n)(hi:i+n≤a.size)(hh:h<n)
  (q:∀k,k≤n→(∀(m:Nat) x,i≤m→m<i+k→a[m]?=some x→r key x=false)→(∀(m:Nat) x,i+k≤m→m<i+n→a[m]?=some x→r key x=true)→Q (some k) st):wpS M A E s (cB false key a i n h) Q st:=by
 have b:∀m,m<n→∃x,a[i+m]?=some x:=fun m hm=>dq (by lia)
 refine fM K hk hS hh (fun m=>match a[i+m]? with|some x=>!(r key x)|none=>false) (fun m hm=>?_) (fun m m' h1 h2 h3=>?_) (fun k h1 h2 h3=>q k h1 (fun m x hm1 hm2 hx=>?_) fun m x hm1 hm2 hx=>?_)
 ·obtain⟨x,e⟩:=b m hm
  refine⟨x,e,Sa _ x e,?_⟩
  rw[e]
  rfl
 ·obtain⟨x,e⟩:=b m (by lia)
  obtain⟨x',e'⟩:=b m' h2
  rw[e'] at h3
  rw[e]
  dsimp only at h3⊢
  have q1:r key x'=false:=by simpa using h3
  rw[O.ntr (sa (i+m) (i+m') x x' (by lia) (by lia) (by lia) e e') q1]
  rfl
 ·have:=h2 (m - i) (by lia)
  rw[show i+(m - i)=m by lia,hx] at this
  simpa using this
 ·have:=h3 (m - i) (by lia) (by lia)
  rw[show i+(m - i)=m by lia,hx] at this
  simpa using this
theorem ya (K:Ask M A E s κ S r)(O:SOrd r){a:Array Keyed}{key:Keyed}{st:SortSt}{i n h:Nat}{Q:Option Nat→SortSt→Prop}(hk:kindOf st=κ)(hS:S key)(Sa:In S a)(sa:Sl r a i n)(hi:i+n≤a.size)(hh:h<n)
  (q:∀k,k≤n→(∀(m:Nat) x,i≤m→m<i+k→a[m]?=some x→r x key=true)→(∀(m:Nat) x,i+k≤m→m<i+n→a[m]?=some x→r x key=false)→Q (some k) st):wpS M A E s (cB true key a i n h) Q st:=by
 have b:∀m,m<n→∃x,a[i+m]?=some x:=fun m hm=>dq (by lia)
 refine fM K hk hS hh (fun m=>match a[i+m]? with|some x=>r x key|none=>false) (fun m hm=>?_) (fun m m' h1 h2 h3=>?_) (fun k h1 h2 h3=>q k h1 (fun m x hm1 hm2 hx=>?_) fun m x hm1 hm2 hx=>?_)
 ·obtain⟨x,e⟩:=b m hm
  refine⟨x,e,Sa _ x e,?_⟩
  rw[e]
  rfl
 ·obtain⟨x,e⟩:=b m (by lia)
  obtain⟨x',e'⟩:=b m' h2
  rw[e'] at h3
  rw[e]
  dsimp only at h3⊢
  cases qq:r x key with
  |true=>rfl
  |false=>rw[O.ntr qq (sa (i+m) (i+m') x x' (by lia) (by lia) (by lia) e e')] at h3;cases h3
 ·have:=h2 (m - i) (by lia)
  rw[show i+(m - i)=m by lia,hx] at this
  exact this
 ·have:=h3 (m - i) (by lia) (by lia)
  rw[show i+(m - i)=m by lia,hx] at this
  exact this
theorem s_:∀(ms:List Keyed) (k:Nat) (arr:Array Keyed) (P X R:List Keyed),arr.toList=P++X++R→X.length=ms.length→P.length=k0+k→
  ((ms.zipIdx k).foldl (fun a (p,j)=>a.setIfInBounds (k0+j) p) arr).toList=P++ms++R
 |[],k,arr,P,X,R,h1,h2,h3=>by
  cases X with
  |nil=>exact h1
  |cons _ _=>cases h2
 |m::ms,k,arr,P,X,R,h1,h2,h3=>by
  cases X with
  |nil=>cases h2
  |cons x X=>
   rw[List.zipIdx_cons,List.foldl_cons]
   have h2:X.length=ms.length:=by simpa using h2
   have:=s_ (k0:=k0) ms (k+1) (arr.setIfInBounds (k0+k) m) (P++[m]) X R (by
    rw[Array.toList_setIfInBounds,h1,←h3]
    simp[List.set_append]) h2 (by rw[C_,h3];rfl)
   rw[this]
   simp
theorem pD (i:Nat):mergeAt' i=(do
 let s←get
 let (some (sa,na,power),some (sb,nb,_)):=((pendingOf s)[i]?,(pendingOf s)[i+1]?)|unsupported "internal:list.sort.pending"
 set (setPending s (((pendingOf s).setIfInBounds i (sa,na+nb,power)).eraseIdxIfInBounds (i+1)))
 let some k←cB false (←elem' (arrOf s) sb) (arrOf s) sa na 0|return false
 let (sa,na):=(sa+k,na - k)
 if na==0 then return true
 let some nb←cB true (←elem' (arrOf s) (sa+na - 1)) (arrOf s) sb nb (nb - 1)|return false
 if nb==0 then return true
 let x:=(arrOf s).extract sa sb
 let y:=(arrOf s).extract sb (sb+nb)
 let merged←if na≤nb then lP x y else lX x y
 modify fun s=>setArr s (merged.toList.zipIdx.foldl (fun a (p,j)=>a.setIfInBounds (sa+j) p) (arrOf s))
 return (failedOf (←get)).isNone):=rfl
theorem yg{st:SortSt}{Q:PUnit→SortSt→Prop}(h:Q ⟨⟩ st'):wpS M A E s (set st':StateT SortSt Sem PUnit) Q st:=by
 unfold wpS;rw[StateT.run_set];exact CI ⟨rfl,h⟩
theorem jJ (a:Array Keyed){i j:Nat}(h:j≤a.size):(a.extract i j).toList=(a.toList.drop i).take (j - i):=by
 rw[FK,FL]
theorem iG {a:Array Keyed}{i j k:Nat}(hj:j≤a.size)(hk:k<j - i):((a.toList.drop i).take (j - i))[k]?=a[i+k]?:=by
 rw[D3 hk,DS,DU]
theorem gS {a:Array Keyed}{i j:Nat}{x:Keyed}(hj:j≤a.size)(h:x∈(a.extract i j).toList):∃m:Nat,i≤m∧m<j∧a[m]?=some x:=by
 rw[jJ a hj] at h
 obtain⟨k,hk⟩:=DD.mp h
 have b:=(C7.mp hk).1
 rw[Dx,EW,Di] at b
 rw[iG hj (by lia)] at hk
 exact⟨i+k,by lia,by lia,hk⟩
theorem sq {a:Array Keyed}{i j lo n:Nat}(hj:j≤a.size)(hs:Sl r a lo n)(h1:lo≤i)(h2:j≤lo+n):mq r (a.extract i j).toList:=by
 rw[jJ a hj]
 refine FN.mpr fun p q hp hq hpq=>?_
 have b:=hq
 rw[Dx,EW,Di] at b
 have e1:=iG (a:=a) (i:=i) (j:=j) (k:=p) hj (by lia)
 have e2:=iG (a:=a) (i:=i) (j:=j) (k:=q) hj (by lia)
 rw[Dd hp] at e1
 rw[Dd hq] at e2
 exact hs (i+p) (i+q) _ _ (by lia) (by lia) (by lia) e1.symm e2.symm
theorem pG (K:Ask M A E s κ S r)(O:SOrd r){st:SortSt}{i sa na p1 sb nb p2:Nat}{Q:Bool→SortSt→Prop}(hk:kindOf st=κ)(hS:In S (arrOf st))(hf:failedOf st=none)(h1:(pendingOf st)[i]?=some (sa,na,p1))(h2:(pendingOf st)[i+1]?=some (sb,nb,p2))
  (hab:sb=sa+na) (na0:0<na) (nb0:0<nb) (hz:sb+nb≤(arrOf st).size) (ha:Sl r (arrOf st) sa na) (hb:Sl r (arrOf st) sb nb)
  (q:∀st',kindOf st'=kindOf st→failedOf st'=none→pendingOf st'=((pendingOf st).setIfInBounds i (sa,na+nb,p1)).eraseIdxIfInBounds (i+1)→Kp sa (sb+nb) (arrOf st) (arrOf st')→Sl r (arrOf st') sa (na+nb)→Q true st'):wpS M A E s (mergeAt' i) Q st:=by
 rw[pD]
 refine CL (DX ?_)
 rw[h1,h2]
 dsimp only
 refine CL (yg ?_)
 obtain⟨b0,c⟩:=dq (a:=arrOf st) (i:=sb) (by lia)
 obtain⟨al,f⟩:=dq (a:=arrOf st) (i:=sb - 1) (by lia)
 refine CL (bz c ?_)
 have d:kindOf (setPending st (((pendingOf st).setIfInBounds i (sa,na+nb,p1)).eraseIdxIfInBounds (i+1)))=κ:=hk
 refine CL (yL K O d (hS _ _ c) hS ha (by lia) na0 fun k k1 g1 g2=>?_)
 dsimp only
 have b:∀(m:Nat) x,sb≤m→m<sb+nb→(arrOf st)[m]?=some x→r x b0=false:=fun m x c1 c2 e=>hb sb m b0 x (CM _) c1 c2 c e
 have p:∀(m:Nat) x,sa≤m→m<sb→(arrOf st)[m]?=some x→r al x=false:=fun m x c1 c2 e=>ha m (sb - 1) x al c1 (by lia) (by lia) e f
 by_cases e0:na - k=0
 ·rw[if_pos (by simpa using e0)]
  refine CN (q _ rfl hf rfl (Kp.refl _) fun m m' x x' c1 c2 c3 e1 e2=>?_)
  by_cases d1:m'<sb
  ·exact ha m m' x x' c1 c2 (by lia) e1 e2
  ·by_cases d2:m<sb
   ·exact O.ntr (g1 m x c1 (by lia) e1) (b m' x' (by lia) (by lia) e2)
   ·exact hb m m' x x' (by lia) c2 (by lia) e1 e2
 rw[if_neg (by simpa using e0)]
 have C:sa+k+(na - k) - 1=sb - 1:=by lia
 rw[C]
 refine CL (bz f ?_)
 refine CL (ya K O d (hS _ _ f) hS hb hz (by lia) fun nb' k2 g3 g4=>?_)
 dsimp only
 by_cases e5:nb'=0
 ·rw[if_pos (by simpa using e5)]
  refine CN (q _ rfl hf rfl (Kp.refl _) fun m m' x x' c1 c2 c3 e1 e2=>?_)
  by_cases d1:m'<sb
  ·exact ha m m' x x' c1 c2 (by lia) e1 e2
  ·by_cases d2:m<sb
   ·exact O.ntr (p m x c1 d2 e1) (g4 m' x' (by lia) (by lia) e2)
   ·exact hb m m' x x' (by lia) c2 (by lia) e1 e2
 rw[if_neg (by simpa using e5)]
 have T:A5 S r ((arrOf st).extract (sa+k) sb) ((arrOf st).extract sb (sb+nb')):=
  ⟨fun x hx=>by obtain⟨m,_,_,e⟩:=gS (by lia) hx;exact hS _ _ e,fun x hx=>by obtain⟨m,_,_,e⟩:=gS (by lia) hx;exact hS _ _ e,sq (by lia) ha (by lia) (by lia),sq (by lia) hb (by lia) (by lia)⟩
 have zx:((arrOf st).extract (sa+k) sb).size=sb - (sa+k):=by rw[Array.size_extract];lia
 have zy:((arrOf st).extract sb (sb+nb')).size=nb':=by rw[Array.size_extract];lia
 have o:∀y,((arrOf st).extract sb (sb+nb')).toList[0]?=some y→∀x∈((arrOf st).extract (sa+k) sb).toList,r x y=false:=fun y hy x hx=>by
  rw[jJ _ (by lia),iG (by lia) (by lia),Nat.add_zero,c] at hy
  cases hy
  obtain⟨m,d1,d2,e⟩:=gS (by lia) hx
  exact O.asym (g2 m x d1 (by lia) e)
 have n:∀x∈((arrOf st).extract (sa+k) sb).toList.drop (((arrOf st).extract (sa+k) sb).size - 1),∀y∈((arrOf st).extract sb (sb+nb')).toList,r x y=false:=fun x hx y hy=>by
  obtain⟨j,hj⟩:=DD.mp hx
  rw[DS,zx] at hj
  have g:=(C7.mp hj).1
  rw[Di,zx] at g
  rw[jJ _ (by lia),iG (by lia) (by lia),show sa+k+(sb - (sa+k) - 1+j)=sb - 1 by lia,f] at hj
  cases hj
  obtain⟨m,d1,d2,e⟩:=gS (by lia) hy
  exact O.asym (g3 m y d1 (by lia) e)
 have B:∀(l:Array Keyed) (st2:SortSt),SG (setPending st (((pendingOf st).setIfInBounds i (sa,na+nb,p1)).eraseIdxIfInBounds (i+1))) st2→iJ r ((arrOf st).extract (sa+k) sb).toList ((arrOf st).extract sb (sb+nb')).toList l.toList→
   wpS M A E s (do
    modify fun s=>setArr s (EN (fun a x=>a.setIfInBounds (sa+k+x.snd) x.fst) (arrOf s) l.toList.zipIdx)
    let z←get
    pure (failedOf z).isNone) Q st2:=fun l st2 sg ⟨sl,pl⟩=>by
  refine CL (Ej (CL (DX ?_)))
  have F:arrOf st2=arrOf st:=sg.arr
  have eX:((arrOf st).extract (sa+k) sb).toList++((arrOf st).extract sb (sb+nb')).toList=((arrOf st).toList.drop (sa+k)).take (sb+nb' - (sa+k)):=by
   rw[jJ _ (by lia),jJ _ (by lia),show sb+nb' - (sa+k)=(sb - (sa+k))+(sb+nb' - sb) by lia,List.take_add,List.drop_drop,show sa+k+(sb - (sa+k))=sb by lia]
  have el:(arrOf st).toList=(arrOf st).toList.take (sa+k)++((arrOf st).toList.drop (sa+k)).take (sb+nb' - (sa+k))++(arrOf st).toList.drop (sb+nb'):=by
   have t1:=(E6 (sa+k) (arrOf st).toList).symm
   have t2:=(E6 (sb+nb' - (sa+k)) ((arrOf st).toList.drop (sa+k))).symm
   rw[List.drop_drop,show sa+k+(sb+nb' - (sa+k))=sb+nb' by lia] at t2
   rw[Dt,←t2]
   exact t1
  have lm:(((arrOf st).toList.drop (sa+k)).take (sb+nb' - (sa+k))).length=l.toList.length:=by rw[←eX];exact pl.length_eq.symm
  have D:l.toList.length=sb+nb' - (sa+k):=by rw[←lm,Dx,EW,Di];lia
  have wb:=s_ (k0:=sa+k) l.toList 0 (arrOf st) ((arrOf st).toList.take (sa+k)) (((arrOf st).toList.drop (sa+k)).take (sb+nb' - (sa+k))) ((arrOf st).toList.drop (sb+nb')) el lm (by rw[Dx,Di];lia)
  rw[show(failedOf (setArr st2 (EN (fun a x=>a.setIfInBounds (sa+k+x.snd) x.fst) (arrOf st2) l.toList.zipIdx))).isNone=true by
   show(failedOf st2).isNone=true
   rw[sg.fail]
   show(failedOf st).isNone=true
   rw[hf];rfl]
  have eb:arrOf (setArr st2 (EN (fun a x=>a.setIfInBounds (sa+k+x.snd) x.fst) (arrOf st2) l.toList.zipIdx))=EN (fun a x=>a.setIfInBounds (sa+k+x.snd) x.fst) (arrOf st) l.toList.zipIdx:=by
   show EN (fun a x=>a.setIfInBounds (sa+k+x.snd) x.fst) (arrOf st2) l.toList.zipIdx=_
   rw[F]
  have v:(arrOf (setArr st2 (EN (fun a x=>a.setIfInBounds (sa+k+x.snd) x.fst) (arrOf st2) l.toList.zipIdx))).toList=(arrOf st).toList.take (sa+k)++l.toList++(arrOf st).toList.drop (sb+nb'):=by rw[eb];exact wb
  have ge:∀m:Nat,(arrOf (setArr st2 (EN (fun a x=>a.setIfInBounds (sa+k+x.snd) x.fst) (arrOf st2) l.toList.zipIdx)))[m]?=if m<sa+k then (arrOf st)[m]? else if m<sb+nb' then l.toList[m - (sa+k)]? else (arrOf st)[m]?:=fun m=>by
   rw[←DU,v]
   have lt:((arrOf st).toList.take (sa+k)).length=sa+k:=by rw[Dx,Di];lia
   by_cases d1:m<sa+k
   ·rw[if_pos d1,Dt,Ef (by lia),D3 d1,DU]
   ·rw[if_neg d1]
    by_cases d2:m<sb+nb'
    ·rw[if_pos d2,Ef (by rw[C_];lia),Ee (by lia),lt]
    ·rw[if_neg d2,Ee (by rw[C_];lia),C_,lt,D,DS,←DU]
     congr 1
     lia
  refine CN (q _ sg.kind ?_ sg.pend ⟨?_,fun j hj=>?_⟩ fun m m' x x' c1 c2 c3 e1 e2=>?_)
  ·show failedOf st2=none
   exact sg.fail.trans hf
  ·refine Array.perm_iff_toList_perm.mpr ?_
   rw[v]
   refine List.Perm.trans ?_ (List.Perm.of_eq el.symm)
   refine List.Perm.append_right _ (List.Perm.append_left _ ?_)
   rw[←eX]
   exact pl
  ·rw[ge]
   by_cases d1:j<sa+k
   ·rw[if_pos d1]
   ·rw[if_neg d1,if_neg (by lia)]
  ·rw[ge] at e1 e2
   have mid:∀{j:Nat} {y:Keyed},l.toList[j]?=some y→∃m0:Nat,sa+k≤m0∧m0<sb+nb'∧(arrOf st)[m0]?=some y:=fun{j y} h=>by
    have hm:=pl.mem_iff.mp (C2 h)
    rcases Dm.mp hm with h'|h'
    ·obtain⟨m0,d1,d2,e⟩:=gS (by lia) h'
     exact⟨m0,d1,by lia,e⟩
    ·obtain⟨m0,d1,d2,e⟩:=gS (by lia) h'
     exact⟨m0,by lia,d2,e⟩
   by_cases d1:m<sa+k
   ·rw[if_pos d1] at e1
    by_cases d2:m'<sa+k
    ·rw[if_pos d2] at e2
     exact ha m m' x x' c1 c2 (by lia) e1 e2
    ·rw[if_neg d2] at e2
     by_cases d3:m'<sb+nb'
     ·rw[if_pos d3] at e2
      obtain⟨m0,f1,f2,f3⟩:=mid e2
      by_cases d4:m0<sb
      ·exact ha m m0 x x' c1 (by lia) (by lia) e1 f3
      ·exact O.ntr (g1 m x c1 d1 e1) (b m0 x' (by lia) (by lia) f3)
     ·rw[if_neg d3] at e2
      exact O.ntr (g1 m x c1 d1 e1) (b m' x' (by lia) (by lia) e2)
   ·rw[if_neg d1] at e1
    rw[if_neg (by lia)] at e2
    by_cases d3:m<sb+nb'
    ·rw[if_pos d3] at e1
     by_cases d4:m'<sb+nb'
     ·rw[if_pos d4] at e2
      by_cases d5:m=m'
      ·subst d5;rw[e1] at e2;cases e2;exact rr O _
      ·have w:=(C7.mp e1)
       have u:=(C7.mp e2)
       have:=FN.mp sl (m - (sa+k)) (m' - (sa+k)) w.1 u.1 (by lia)
       rw[w.2,u.2] at this
       exact this
     ·rw[if_neg d4] at e2
      obtain⟨m0,f1,f2,f3⟩:=mid e1
      by_cases d5:m0<sb
      ·exact O.ntr (p m0 x (by lia) d5 f3) (g4 m' x' (by lia) (by lia) e2)
      ·exact hb m0 m' x x' (by lia) (by lia) (by lia) f3 e2
    ·rw[if_neg d3] at e1
     rw[if_neg (by lia)] at e2
     exact hb m m' x x' (by lia) c2 (by lia) e1 e2
 by_cases hle:na - k≤nb'
 ·rw[if_pos hle]
  exact CL (pE K O T d (by lia) (by lia) o n B)
 ·rw[if_neg hle]
  refine CL (pX K O T d (by lia) (by lia) (fun y hy x hx=>?_) n B)
  obtain⟨j,hj⟩:=DD.mp hy
  have g:=(C7.mp hj).1
  rw[Dx] at g
  have j0:j=0:=by lia
  subst j0
  rw[D3 (by lia)] at hj
  exact o y hj x hx
end
section
variable {M:Model} {A:Around} {E:Value→Shared→Prop} {s:Shared} {κ:SortKind} {S:Keyed→Prop} {r:Keyed→Keyed→Bool}
abbrev Rn:=Nat×Nat×Nat
noncomputable def me (r:Keyed→Keyed→Bool) (a:Array Keyed):List Rn→Nat→Nat→Prop
 |[],f,t=>f=t
 |x::ps,f,t=>x.1=f∧0<x.2.1∧Sl r a x.1 x.2.1∧me r a ps (f+x.2.1) t
theorem me.le:∀{ps:List Rn} {f t:Nat},me r a ps f t→f+ps.length≤t
 |[],f,t,h=>Nat.le_of_eq h
 |x::ps,f,t,⟨h1,h2,h3,h4⟩=>by have:=h4.le;rw[Dl];lia
theorem me.app:∀{ps qs:List Rn} {f m t:Nat},me r a ps f m→me r a qs m t→me r a (ps++qs) f t
 |[],_,_,_,_,h,g=>by cases h;exact g
 |_::_,_,_,_,_,⟨h1,h2,h3,h4⟩,g=>⟨h1,h2,h3,h4.app g⟩
theorem me.split:∀{ps qs:List Rn} {f t:Nat},me r a (ps++qs) f t→∃m,me r a ps f m∧me r a qs m t
 |[],_,f,_,h=>⟨f,rfl,h⟩
 |_::_,_,_,_,⟨h1,h2,h3,h4⟩=>by
  obtain⟨m,g1,g2⟩:=h4.split
  exact⟨m,⟨h1,h2,h3,g1⟩,g2⟩
theorem wX {a a':Array Keyed}{lo hi b n:Nat}(h:Sl r a b n)(k:Kp lo hi a a')(o:b+n≤lo∨hi≤b):Sl r a' b n:=fun m m' x x' c1 c2 c3 e1 e2=>by
 rw[k.out m (by lia)] at e1
 rw[k.out m' (by lia)] at e2
 exact h m m' x x' c1 c2 c3 e1 e2
theorem me.kp {a a':Array Keyed}{lo hi:Nat}(k:Kp lo hi a a'):∀{ps:List Rn} {f t:Nat},me r a ps f t→(t≤lo∨hi≤f)→me r a' ps f t
 |[],_,_,h,_=>h
 |x::ps,f,t,⟨h1,h2,h3,h4⟩,o=>by
  have:=h4.le
  exact⟨h1,h2,wX h3 k (by lia),h4.kp k (by lia)⟩
structure SI (κ:SortKind) (S:Keyed→Prop) (r:Keyed→Keyed→Bool) (a₀:Array Keyed) (lo:Nat) (st:SortSt):Prop where
 kind:kindOf st=κ
 fail:failedOf st=none
 pm:(arrOf st).Perm a₀
 ins:In S (arrOf st)
 cov:me r (arrOf st) (pendingOf st).toList 0 lo
theorem SI.size {a₀:Array Keyed}{lo:Nat}{st:SortSt}(h:SI κ S r a₀ lo st):(arrOf st).size=a₀.size:=h.pm.size_eq
theorem vD {ps:List Rn}(h:i+1<ps.length):∃p1 x y p2,ps=p1++x::y::p2∧p1.length=i:=by
 refine⟨ps.take i,ps[i],ps[i+1],ps.drop (i+2),?_,by rw[Dx];lia⟩
 have e1:=Ft (l:=ps) (i:=i) (by lia)
 have e2:=Ft (l:=ps) (i:=i+1) h
 rw[←e2,←e1]
 exact(E6 i ps).symm
theorem il (K:Ask M A E s κ S r)(O:SOrd r){st:SortSt}{a₀:Array Keyed}{i lo:Nat}{Q:Bool→SortSt→Prop}(h:SI κ S r a₀ lo st)(hlo:lo≤a₀.size)(hi:i+1<(pendingOf st).size)
  (q:∀st',SI κ S r a₀ lo st'→Kp 0 lo (arrOf st) (arrOf st')→(pendingOf st').size+1=(pendingOf st).size→Q true st'):wpS M A E s (mergeAt' i) Q st:=by
 obtain⟨p1,⟨sa,na,w1⟩,⟨sb,nb,w2⟩,p2,ep,el⟩:=vD (ps:=(pendingOf st).toList) (i:=i) (by rw[Di];exact hi)
 have cov:=h.cov
 rw[ep] at cov
 obtain⟨m,c1,⟨d1,d2,d3,⟨f1,f2,f3,f4⟩⟩⟩:=cov.split
 dsimp only at d1 d2 d3 f1 f2 f3 f4
 have a:=f4.le
 have g1:(pendingOf st)[i]?=some (sa,na,w1):=by rw[←DU,ep,←el];simp
 have g2:(pendingOf st)[i+1]?=some (sb,nb,w2):=by rw[←DU,ep,←el];simp
 have sz:=h.size
 refine pG K O h.kind h.ins h.fail g1 g2 (by lia) d2 f2 (by lia) d3 f3 fun st' k1 k2 k3 k4 k5=>?_
 have et:(pendingOf st').toList=p1++(sa,na+nb,w1)::p2:=by
  rw[k3]
  simp only[Array.toList_eraseIdxIfInBounds,Array.toList_setIfInBounds]
  rw[ep,←el]
  simp[List.set_append,List.eraseIdx_append]
  intro h;lia
 refine q st' ⟨k1.trans h.kind,k2,k4.pm.trans h.pm,h.ins.kp k4,?_⟩ (k4.wide (by lia) (by lia)) ?_
 ·rw[et]
  refine(c1.kp k4 (.inl (by lia))).app ⟨d1,by show 0<na+nb;lia,k5,?_⟩
  have:=f4.kp k4 (.inr (by lia))
  show me r (arrOf st') p2 (m+(na+nb)) lo
  rw[←Nat.add_assoc];exact this
 ·have l1:=congrArg List.length et
  have l2:=congrArg List.length ep
  rw[Di] at l1 l2
  simp only[C_,Dl] at l1 l2
  lia
theorem hV:∀{ps:List Rn} {f t k:Nat},me r a ps f t→me r a (ps.modify k fun x=>(x.1,x.2.1,pw)) f t
 |[],_,_,k,h=>by cases k<;>exact h
 |x::ps,f,t,0,⟨h1,h2,h3,h4⟩=>⟨h1,h2,h3,h4⟩
 |x::ps,f,t,k+1,⟨h1,h2,h3,h4⟩=>by
  rw[List.modify_succ_cons]
  exact⟨h1,h2,h3,hV h4⟩
theorem wpS_sortRunsT (K:Ask M A E s κ S r)(O:SOrd r){st:SortSt}{Q:Unit→SortSt→Prop}(hk:kindOf st=κ)(hS:In S (arrOf st))(hf:failedOf st=none)(hp:pendingOf st= #[])(h1:1≤(arrOf st).size)
  (q:∀st',failedOf st'=none→(arrOf st').Perm (arrOf st)→Sl r (arrOf st') 0 (arrOf st).size→Q () st'):wpS M A E s sortRuns' Q st:=by
 rw[sortRuns'_eq]
 refine CL (DX ?_)
 dsimp only
 obtain⟨a₀,ea⟩:∃a₀,arrOf st=a₀:=⟨_,rfl⟩
 rw[ea] at h1 q⊢
 have I0:SI κ S r a₀ 0 st:=⟨hk,hf,by rw[ea],hS,by rw[hp];rfl⟩
 refine CL (Du (DE (I:=fun x c st'=>∃lo,c=(none,lo)∧x≤lo∧lo≤a₀.size∧SI κ S r a₀ lo st') (Q:=fun c st'=>c=(none,a₀.size)∧SI κ S r a₀ a₀.size st') ?step ?fin ⟨0,rfl,CM _,C8 _,I0⟩) ?post)
 case fin=>
  rintro c st' ⟨lo,rfl,hx,o,hI⟩
  have:lo=a₀.size:=by lia
  subst this
  exact⟨rfl,hI⟩
 case step=>
  rintro x c k _ hx ⟨lo,rfl,v,o,hI⟩
  dsimp only
  by_cases hend:lo≥a₀.size
  ·rw[if_pos hend]
   have:lo=a₀.size:=by lia
   subst this
   exact CN ⟨rfl,hI⟩
  rw[if_neg hend]
  have sz:=hI.size
  refine CL (oQ K O hI.kind hI.ins (by lia) (by lia) fun found st2 sa2 f1 f2 hsl2=>?_)
  dsimp only
  have b:SI κ S r a₀ lo st2:=⟨sa2.kind.trans hI.kind,sa2.fail.trans hI.fail,sa2.arr.pm.trans hI.pm,hI.ins.kp sa2.arr,by rw[sa2.pend];exact hI.cov.kp sa2.arr (.inl (CM _))⟩
  have u:=b.size
  by_cases hmin:found<minRun' a₀.size a₀.size 0
  ·rw[if_pos hmin]
   refine CL (wpS_lift (D8 ⟨rfl,?_⟩))
   refine CL (pM K O b.kind b.ins (by lia) f1 (by lia) hsl2 fun st3 sa3 i=>?_)
   rw[if_neg (by simp)]
   have d:SI κ S r a₀ lo st3:=⟨sa3.kind.trans b.kind,sa3.fail.trans b.fail,sa3.arr.pm.trans b.pm,b.ins.kp sa3.arr,by rw[sa3.pend];exact b.cov.kp sa3.arr (.inl (CM _))⟩
   obtain⟨n,en⟩:∃n,min (a₀.size - lo) (minRun' a₀.size a₀.size 0)=n:=⟨_,rfl⟩
   rw[en] at i⊢
   have j:0<n:=by lia
   have l:lo+n≤a₀.size:=by lia
   clear en hsl2
   refine CL (DX ?_)
   cases hb:(pendingOf st3).back? with
   |none=>
    dsimp only
    refine CL (Ej (CN ⟨_,rfl,by lia,by lia,d.kind,d.fail,d.pm,d.ins,?_⟩))
    show me r (arrOf st3) ((pendingOf st3).push (lo,n,0)).toList 0 (lo+n)
    rw[EC]
    exact d.cov.app ⟨rfl,j,i,rfl⟩
   |some bk=>
    obtain⟨s1,n1,p⟩:=bk
    dsimp only
    refine CL (Du (DE (I:=fun _ c st'=>c=(none,())∧SI κ S r a₀ lo st'∧Sl r (arrOf st') lo n) (Q:=fun c st'=>c=(none,())∧SI κ S r a₀ lo st'∧Sl r (arrOf st') lo n) ?_ (fun _ _ h=>h) ⟨rfl,d,i⟩) ?_)
    ·rintro x' c f _ _ ⟨rfl,a,g⟩
     refine CL (DX ?_)
     by_cases hp:(pendingOf f).size>1
     ·rw[if_pos hp]
      obtain⟨⟨y1,y2,older⟩,hy⟩:∃y,(pendingOf f)[(pendingOf f).size - 2]?=some y:=⟨_,getElem?_pos _ _ (by lia)⟩
      rw[hy]
      dsimp only
      split
      ·exact CN ⟨rfl,a,g⟩
      ·refine CL (il K O a (by lia) (by lia) fun st5 hI5 k5 _=>?_)
       rw[if_neg (by simp)]
       exact CN ⟨rfl,hI5,wX g k5 (.inr (CM _))⟩
     ·rw[if_neg hp]
      exact CN ⟨rfl,a,g⟩
    ·rintro c f ⟨rfl,a,g⟩
     dsimp only
     refine CL (Ej (CL (Ej (CN ⟨_,rfl,by lia,by lia,a.kind,a.fail,a.pm,a.ins,?_⟩))))
     show me r (arrOf f) (((pendingOf f).modify ((pendingOf f).size - 1) fun x=>(x.1,x.2.1,_)).push (lo,n,0)).toList 0 (lo+n)
     rw[EC,Array.toList_modify]
     exact(hV a.cov).app ⟨rfl,j,g,rfl⟩
  ·rw[if_neg hmin]
   obtain⟨st3,e3⟩:∃st3,st3=st2:=⟨_,rfl⟩
   obtain⟨n,en⟩:∃n,n=found:=⟨_,rfl⟩
   have d:=b
   have i:=hsl2
   rw[←e3] at d i⊢
   rw[←en] at i⊢
   have j:0<n:=by lia
   have l:lo+n≤a₀.size:=by lia
   refine CL (DX ?_)
   cases hb:(pendingOf st3).back? with
   |none=>
    dsimp only
    refine CL (Ej (CN ⟨_,rfl,by lia,by lia,d.kind,d.fail,d.pm,d.ins,?_⟩))
    show me r (arrOf st3) ((pendingOf st3).push (lo,n,0)).toList 0 (lo+n)
    rw[EC]
    exact d.cov.app ⟨rfl,j,i,rfl⟩
   |some bk=>
    obtain⟨s1,n1,p⟩:=bk
    dsimp only
    refine CL (Du (DE (I:=fun _ c st'=>c=(none,())∧SI κ S r a₀ lo st'∧Sl r (arrOf st') lo n) (Q:=fun c st'=>c=(none,())∧SI κ S r a₀ lo st'∧Sl r (arrOf st') lo n) ?_ (fun _ _ h=>h) ⟨rfl,d,i⟩) ?_)
    ·rintro x' c f _ _ ⟨rfl,a,g⟩
     refine CL (DX ?_)
     by_cases hp:(pendingOf f).size>1
     ·rw[if_pos hp]
      obtain⟨⟨y1,y2,older⟩,hy⟩:∃y,(pendingOf f)[(pendingOf f).size - 2]?=some y:=⟨_,getElem?_pos _ _ (by lia)⟩
      rw[hy]
      dsimp only
      split
      ·exact CN ⟨rfl,a,g⟩
      ·refine CL (il K O a (by lia) (by lia) fun st5 hI5 k5 _=>?_)
       rw[if_neg (by simp)]
       exact CN ⟨rfl,hI5,wX g k5 (.inr (CM _))⟩
     ·rw[if_neg hp]
      exact CN ⟨rfl,a,g⟩
    ·rintro c f ⟨rfl,a,g⟩
     dsimp only
     refine CL (Ej (CL (Ej (CN ⟨_,rfl,by lia,by lia,a.kind,a.fail,a.pm,a.ins,?_⟩))))
     show me r (arrOf f) (((pendingOf f).modify ((pendingOf f).size - 1) fun x=>(x.1,x.2.1,_)).push (lo,n,0)).toList 0 (lo+n)
     rw[EC,Array.toList_modify]
     exact(hV a.cov).app ⟨rfl,j,g,rfl⟩
 case post=>
  rintro c k ⟨rfl,hI⟩
  dsimp only
  have cl:=hI.cov.le
  rw[Di] at cl
  refine CL (Du (DE (I:=fun x c st'=>c=(none,())∧SI κ S r a₀ a₀.size st'∧(pendingOf st').size+x≤a₀.size) (Q:=fun c st'=>c=(none,())∧SI κ S r a₀ a₀.size st'∧(pendingOf st').size≤1) ?_ ?_ ⟨rfl,hI,by lia⟩) ?_)
  ·rintro x c st2 _ hx ⟨rfl,b,hz⟩
   refine CL (DX ?_)
   by_cases hp1:(pendingOf st2).size≤1
   ·rw[if_pos hp1]
    exact CN ⟨rfl,b,hp1⟩
   rw[if_neg hp1]
   refine CL (il K O b (CM _) ?_ fun st3 d _ hs3=>?_)
   ·have m:∀(c:Prop) [Decidable c],(if c then (pendingOf st2).size - 2 - 1 else (pendingOf st2).size - 2)+1<(pendingOf st2).size:=fun c _=>by split<;>lia
    exact m _
   ·rw[if_neg (by simp)]
    exact CN ⟨rfl,d,by lia⟩
  ·rintro c st2 ⟨rfl,b,hz⟩
   exact⟨rfl,b,by lia⟩
  ·rintro c st2 ⟨rfl,b,hz⟩
   refine CN (q st2 b.fail b.pm ?_)
   have cov:=b.cov
   have hl:(pendingOf st2).toList.length≤1:=by rw[Di];exact hz
   match e:(pendingOf st2).toList,hl with
   |[],_=>
    rw[e] at cov
    have:0=a₀.size:=cov
    lia
   |[x],_=>
    rw[e] at cov
    obtain⟨c1,c2,c3,c4⟩:=cov
    have c4:0+x.2.1=a₀.size:=c4
    rw[c1,show x.2.1=a₀.size by lia] at c3
    exact c3
   |_::_::_,hl=>simp at hl
end
end TS
namespace L2
open PySem PySem.Spec PyProof.Rows
noncomputable def rK (f:Value→List Int) (x y:Keyed):Bool:=HT.lexLt (f x.1) (f y.1)
theorem vn (f:Value→List Int):TS.SOrd (rK f) where
 asym:=fun{x y} h=>by
  cases e:rK f y x with
  |false=>rfl
  |true=>
   have:=fu _ _ _ h e
   rw[bV] at this;cases this
 ntr:=fun{x y z} h1 h2=>by
  cases e:rK f z x with
  |false=>rfl
  |true=>
   rcases yT _ (f y.1) _ e with g|g
   ·exact absurd g (by rw[show HT.lexLt (f z.1) (f y.1)=false from h2];simp)
   ·exact absurd g (by rw[show HT.lexLt (f y.1) (f x.1)=false from h1];simp)
def sy (h:Heap) (f:Value→List Int) (b:Addr):Prop:=∃o xs k,h.get? b=some o∧o.cls=.type "tuple" ∧o.data=.seq xs k∧bh ((f (.ref b)).map V.int) xs.toList∧f (.ref b)≠[]
section
variable {prog:Program} {w:World} {A:Around} {E:Value→Shared→Prop} {s:Shared}
theorem pH{f:Value→List Int}:∀(as:List Addr),(∀b∈as,sy h f b)→∃fs:List Value,PySem.W.KatTups h (as.map Value.ref) fs∧fs.length=as.length∧∀v∈fs,∃i t,v=Value.int i t
 |[],_=>⟨[],PySem.W.KatTups.nil,rfl,fun _ h=>nomatch h⟩
 |b::as,ht=>by
  obtain⟨fs,h1,h2,h3⟩:=pH as fun c hc=>ht c (Dh _ hc)
  obtain⟨o,xs,k,e1,e2,e3,e4,e5⟩:=ht b Dk
  cases hf:f (.ref b) with
  |nil=>exact absurd hf e5
  |cons i r=>
   rw[hf,C5] at e4
   generalize hxs:xs.toList=l at e4
   cases e4 with
   |cons q rv=>
    obtain⟨t',rfl⟩:=q
    refine⟨.int i t'::fs,PySem.W.KatTups.cons e1 e2 e3 ?_ h1,by simp[h2],fun v hv=>?_⟩
    ·rw[←DU,hxs];rfl
    ·rcases CV.mp hv with rfl|hv
     ·exact⟨i,t',rfl⟩
     ·exact h3 v hv
theorem xn {f:Value→List Int}{b:Bool}{as:List Addr}(ht:∀c∈as,sy s.heap f c):TS.Ask (model prog w) A E s (tuples' b) (fun x=>x.1=x.2∧∃c∈as,x.1=.ref c) (rK f):=by
 rintro st ⟨x,x'⟩ ⟨y,y'⟩ Q hk ⟨_,c,hc,ex⟩ ⟨_,d,hd,ey⟩ q
 cases ex
 cases ey
 obtain⟨o1,g,k1,e1,_,e3,a,_⟩:=ht c hc
 obtain⟨o2,h,k2,g1,_,g3,e,_⟩:=ht d hd
 rw[lt'_eq]
 refine CL (DX ?_)
 rw[hk]
 refine CL (wpS_lift (D6 (PySem.W.kat_lt e1 e3 g1 g3 ?_)))
 have l1:=a.length
 have l2:=e.length
 rw[CK] at l1 l2
 exact jM _ _ _ _ 0 a e (by rw[l1,l2];simp) ⟨rfl,CN q⟩
def AZ (x:Keyed):Addr:=match x.1 with
 | .ref b=>b
 |_=>0
def Ac (b:Addr):Keyed:=(.ref b,.ref b)
theorem u9(h:l.Perm (as.map Ac)):∃bs:List Addr,bs.Perm as∧l=bs.map Ac:=by
 refine⟨l.map AZ,?_,?_⟩
 ·have:=h.map AZ
  rw[Dq] at this
  have e:as.map (AZ∘Ac)=as:=by
   have:(AZ∘Ac)=id:=rfl
   rw[this,List.map_id]
  rwa [e] at this
 ·rw[Dq]
  have:∀x∈l,(Ac∘AZ) x=x:=fun x hx=>by
   obtain⟨b,_,rfl⟩:=CU.mp (h.mem_iff.mp hx)
   rfl
  rw[Fo this]
  simp
theorem sZ {P:PySem.Fin→Shared→Prop}{f:Value→List Int}(ho:s.heap.get? a=some (seqObj "list" (as.map Value.ref).toArray n))(hz:as.length≤100000)
  (tp:∀b∈as,b≠a∧sy s.heap f b)
  (h:∀(bs:List Addr) (e:Nat) (h':Heap),bs.Perm as→bs.Pairwise (fun b c=>HT.lexLt (f (.ref c)) (f (.ref b))=false)→(∀b o,b≠a→s.heap.get? b=some o→h'.get? b=some o)→h'.get? a=some (seqObj "list" (bs.map Value.ref).toArray e)→P (.done (.ret .none)) {s with heap:=h'}):
  wpAny (model prog w) A (Builtin.«list.sort» ⟨[.ref a],[]⟩) P E s:=by
 have ha:a<s.heap.objs.size:=CS ho
 have s1:=Heap.SameBut.update s.heap a (Obj.mapSeq fun _=>(#[]:Array Value))
 obtain⟨e1,y⟩:∃e1,(s.heap.update a (Obj.mapSeq fun _=>(#[]:Array Value))).get? a=some (seqObj "list" #[] e1):=⟨_,get?_update_seq ho fun _=> #[]⟩
 have hl:(as.map Value.ref).length=as.length:=CK ..
 rw[list_sort_plain]
 refine CH (listItems_at ho rfl ?_)
 refine CH (listUpdate_at ho rfl ?_ (by rw[De,hl,sizeLine_eq];lia) (C8 _))
 refine CH (seqEpoch_at y rfl ?_)
 refine CH (wpAny_newTuple ?_ (by show(as.map Value.ref).length≤_;rw[hl,sizeLine_eq];lia))
 refine CH (wpAny_newList ?_ (C8 _))
 refine Dz ?_
 show wpAny (model prog w) A _ P E {s with heap:=((s.heap.update a (Obj.mapSeq fun _=>(#[]:Array Value))).push (seqObj "tuple" (as.map Value.ref).toArray 0)).push (seqObj "list" #[] 0)}
 have keep:∀b o,b≠a→s.heap.get? b=some o→(((s.heap.update a (Obj.mapSeq fun _=>(#[]:Array Value))).push (seqObj "tuple" (as.map Value.ref).toArray 0)).push (seqObj "list" #[] 0)).get? b=some o:=fun b o hb e=>CO _ (CO _ ((s1.2 b hb).trans e))
 have d:(((s.heap.update a (Obj.mapSeq fun _=>(#[]:Array Value))).push (seqObj "tuple" (as.map Value.ref).toArray 0)).push (seqObj "list" #[] 0)).get? a=some (seqObj "list" #[] e1):=CO _ (CO _ y)
 revert keep d
 generalize ((s.heap.update a (Obj.mapSeq fun _=>(#[]:Array Value))).push (seqObj "tuple" (as.map Value.ref).toArray 0)).push (seqObj "list" #[] 0)=h3
 intro keep d
 dsimp only
 have ez:((as.map Value.ref).toArray.zip (as.map Value.ref).toArray).toList=as.map Ac:=by
  rw[Array.toList_zip]
  show(as.map Value.ref).zip (as.map Value.ref)=_
  rw[List.zip_map',]
  rfl
 by_cases hn1:as.length<2
 ·have m:(as.map Value.ref).toArray.size<2:=by rw[De,hl];exact hn1
  rw[if_pos m,if_pos m]
  refine CH (CI ?_)
  rw[StateT.run_pure]
  refine CH (CI ?_)
  dsimp only
  have l:((as.map Value.ref).toArray.zip (as.map Value.ref).toArray).map (·.2)=(as.map Value.ref).toArray:=by
   apply Array.toList_inj.mp
   rw[Array.toList_map,ez,Dq]
   rfl
  rw[l]
  have s2:=Heap.SameBut.update h3 a (Obj.mapSeq fun _=>(as.map Value.ref).toArray)
  obtain⟨c2,p⟩:∃c2,(h3.update a (Obj.mapSeq fun _=>(as.map Value.ref).toArray)).get? a=some (seqObj "list" (as.map Value.ref).toArray c2):=⟨_,get?_update_seq d fun _=>(as.map Value.ref).toArray⟩
  refine CH (seqEpoch_at d rfl ?_)
  refine CH (listUpdate_at d rfl ?_ (C8 _) (by rw[De,hl,sizeLine_eq];lia))
  simp only[bne_self_eq_false,Eh,if_false]
  refine CI (h as c2 _ (List.Perm.refl _) ?_ (fun b o hb e=>(s2.2 b hb).trans (keep b o hb e)) p)
  exact FN.mpr fun i j hi hj hij=>by lia
 have h2:2≤as.length:=by lia
 have q:¬(as.map Value.ref).toArray.size<2:=by rw[De,hl];lia
 rw[if_neg q,if_neg q]
 have u:∀b∈as,sy h3 f b:=fun b hb=>by
  obtain⟨nb,o,xs,k,e1,r⟩:=tp b hb
  exact⟨o,xs,k,keep b o nb e1,r⟩
 obtain⟨fs,kt,F,B⟩:=pH as u
 refine CH (PySem.W.kat_kind (s:={s with heap:=h3}) (T:=.type "int") kt (by lia) (fun v hv=>?_) rfl ?_)
 ·obtain⟨i,t,rfl⟩:=B v hv
  exact .now
 have K:TS.Ask (model prog w) A E {s with heap:=h3} (tuples' (Value.type "int" !=Value.type "tuple")) (fun x=>x.1=x.2∧∃c∈as,x.1=.ref c) (rK f):=xn (s:={s with heap:=h3}) u
 have zs:((as.map Value.ref).toArray.zip (as.map Value.ref).toArray).size=as.length:=by rw[←Di,ez,CK]
 have C:TS.In (fun x=>x.1=x.2∧∃c∈as,x.1=.ref c) ((as.map Value.ref).toArray.zip (as.map Value.ref).toArray):=fun k x hx=>by
  rw[←DU,ez] at hx
  obtain⟨b,hb,rfl⟩:=CU.mp (C2 hx)
  exact⟨rfl,b,hb,rfl⟩
 have D:=TS.wpS_sortRunsT K (vn f) (st:=SortSt.mk' (tuples' (Value.type "int" !=Value.type "tuple")) ((as.map Value.ref).toArray.zip (as.map Value.ref).toArray) #[] 7 none) (Q:=fun _ st'=>failedOf st'=none∧(arrOf st').Perm ((as.map Value.ref).toArray.zip (as.map Value.ref).toArray)∧TS.Sl (rK f) (arrOf st') 0 as.length) rfl C rfl rfl (by show 1≤((as.map Value.ref).toArray.zip (as.map Value.ref).toArray).size;rw[zs];lia) (fun st' b1 b2 b3=>⟨b1,b2,by have b3:TS.Sl (rK f) (arrOf st') 0 ((as.map Value.ref).toArray.zip (as.map Value.ref).toArray).size:=b3;rwa [zs] at b3⟩)
 refine CH (Dy D ?_ fun _ _ e=>e)
 rintro⟨⟨⟩,st'⟩ s' ⟨rfl,hf,pm,sl⟩
 dsimp only
 have z:=Array.perm_iff_toList_perm.mp pm
 rw[ez] at z
 obtain⟨bs,pb,eb⟩:=u9 z
 have l:(arrOf st').map (·.2)=(bs.map Value.ref).toArray:=by
  apply Array.toList_inj.mp
  rw[Array.toList_map,eb,Dq]
  rfl
 have lb:bs.length=as.length:=pb.length_eq
 rw[l]
 have s2:=Heap.SameBut.update h3 a (Obj.mapSeq fun _=>(bs.map Value.ref).toArray)
 obtain⟨c2,p⟩:∃c2,(h3.update a (Obj.mapSeq fun _=>(bs.map Value.ref).toArray)).get? a=some (seqObj "list" (bs.map Value.ref).toArray c2):=⟨_,get?_update_seq d fun _=>(bs.map Value.ref).toArray⟩
 refine CH (seqEpoch_at d rfl ?_)
 refine CH (listUpdate_at d rfl ?_ (C8 _) (by rw[De,CK,lb,sizeLine_eq];lia))
 rw[hf]
 simp only[bne_self_eq_false,Eh,if_false]
 refine CI (h bs c2 _ pb ?_ (fun b o hb e=>(s2.2 b hb).trans (keep b o hb e)) p)
 refine FN.mpr fun i j hi hj hij=>?_
 have g:∀(k:Nat) (hk:k<bs.length),(arrOf st')[k]?=some (Ac bs[k]):=fun k hk=>by
  rw[←DU,eb,CW,Dd hk];rfl
 exact sl i j _ _ (C8 _) (Nat.le_of_lt hij) (by lia) (g i hi) (g j hj)
end
section
variable {X:Cx}
noncomputable def tH (as:List Addr) (cs:List (List Int)) (v:Value):List Int:=match v with
 | .ref a=>((as.zip cs).lookup a).getD []
 |_=>[]
theorem rM{cs:List (List Int)}(ht:bN H as cs):∀b∈as,H b=some (.tup ((tH as cs (.ref b)).map V.int))∧tH as cs (.ref b)∈cs:=fun b hb=>by
 unfold tH
 have key:∀{as:List Addr} {cs:List (List Int)},bN H as cs→b∈as→∃c,(as.zip cs).lookup b=some c∧H b=some (.tup (c.map V.int))∧c∈cs:=by
  intro as cs ht
  induction ht with
  |nil=>intro h;cases h
  | @cons a c as cs h t ih=>
   intro hb
   rw[EH,DF]
   by_cases e:b=a
   ·subst e
    exact⟨c,by simp,h,Dk⟩
   ·have:(b==a)=false:=by simpa using e
    rw[this]
    rcases CV.mp hb with z|z
    ·exact absurd z e
    ·obtain⟨c',h1,h2,h3⟩:=ih z
     exact⟨c',h1,h2,Dh _ h3⟩
 obtain⟨c,h1,h2,h3⟩:=key ht hb
 dsimp only
 rw[h1]
 exact⟨h2,h3⟩
theorem tj{cs:List (List Int)}(ht:bN H as cs):as.map (fun b=>tH as cs (.ref b))=cs:=by
 have d:=rM ht
 generalize tH as cs=g at d
 induction ht with
 |nil=>rfl
 | @cons a c as cs h t ih=>
  have e:=(d a Dk).1
  rw[h] at e
  have:c=g (.ref a):=dM (by injection e with e;injection e)
  rw[C5,←this]
  congr 1
  refine ih fun b hb=>⟨(d b (Dh _ hb)).1,?_⟩
  have e2:=(d b (Dh _ hb)).1
  obtain⟨i,hi⟩:=DD.mp hb
  obtain⟨c',ec,g'⟩:=bN.at t hi
  rw[g'] at e2
  have:c'=g (.ref b):=dM (by injection e2 with e2;injection e2)
  rw[←this]
  exact C2 ec
theorem qY{g:Value→List Int}:∀{bs:List Addr},(∀b∈bs,H b=some (.tup ((g (.ref b)).map V.int)))→bN H bs (bs.map fun b=>g (.ref b))
 |[],_=> .nil
 |b::bs,h=> .cons (h b Dk) (qY fun c hc=>h c (Dh _ hc))
theorem oK (hcm:X.calm=true):dO X (.builtin "sorted") (fun xs H Q=>∃(p:Addr) (kvs:List (List cK×V)) (cs:List (List Int)),xs=[.ref p]∧H p=some (.dT kvs)∧kvs.map (·.1)=cs.map (fun c=>c.map Sum.inl)∧(∀c∈cs,c≠[])∧cs.length≤1000∧
  ∀l bs ds,H l=none→bN H bs ds→ds.Perm cs→ds.Pairwise (fun c d=>HT.lexLt d c=false)→Q (.ref l) (upd H l (.lst (bs.map V.ref)))):=by
 intro pins s σ H xs us Q I r h
 obtain⟨p,kvs,cs,rfl,e,hk,E,L,q⟩:=h
 obtain⟨u,rfl,rx⟩:=iZ r
 cases rx
 obtain⟨o,I1,W⟩:=I.freeze e trivial
 obtain⟨hS,F,hc,es,ep,J,hz,A⟩:=eF I1.hok ag trivial
 have M:kvs.length=cs.length:=by have:=congrArg List.length hk;simpa using this
 have w:es.size=cs.length:=by rw[←M];exact hz
 obtain⟨m,hm,_⟩:=id I.loc
 refine PySem.W.kdu_sorted (vC hS) (I.ok.hd hcm) (Att.fr_all hm) vG ⟨o,F,hc,J⟩ (by rw[w,sizeLine_eq];lia) fun D h' tk vs F' N' hD hlen hP=>?_
 obtain⟨as,rfl,ht⟩:∃as:List Addr,vs=as.map Value.ref∧bN H as cs:=by
  refine sT (by rw[hlen,w]) fun i v c hv hcv=>?_
  obtain⟨hi,rfl⟩:=hP i v hv
  obtain⟨x,y,B,r1,r2⟩:=A i hi
  obtain⟨kk,a,h1,h2,h3⟩:=B
  have h4:(kvs.map (·.1))[i]?=some kk:=by rw[CW,h1];rfl
  rw[hk,CW,hcv] at h4
  have h5:=Option.some.inj h4
  subst h2
  refine⟨a,r1,?_⟩
  have R:a≠p:=fun z=>by rw[z,ag] at h3;cases h3
  rw[aj R,←h5,eM] at h3
  exact h3
 have T:as.length=cs.length:=Paired.length ht
 have k0:∀b u,b≠X.env.locals→s.heap.get? b=some u→h'.get? b=some u:=fun b u hb e=>(N' (b,u) (Dh _ (jO hb (Att.noObjs_get _ _) e))).1
 have nD:=N' (D,_) Dk
 have j:s.heap.get? D=none:=by
  cases e:s.heap.get? D with
  |none=>rfl
  |some u=>exact absurd (hD (D,u) (jO nD.2.1 (Att.noObjs_get _ _) e)) (DL _)
 have fa:=rM ht
 refine Dr PyProof.Rows.slot_list_sort ⟨_,nD.1,rfl⟩ PyProof.Rows.entry_list_sort (sZ (s:={s with heap:=h',toks:=tk}) (as:=as) (f:=tH as cs) nD.1 (by lia) (fun b hb=>?_) fun bs e1 h2 pb pw kp hD2=>?_) (PyProof.Rows.args_list_sort _)
 ·have g:=(fa b hb).1
  have P:b≠X.env.locals:=fun z=>by rw[z,I.free] at g;cases g
  obtain⟨_,K,rv,ob,k,C,n,O⟩:=(show bL X.prog X.w H s.heap b (.tup ((tH as cs (.ref b)).map V.int)) from I.hok b _ g)
  have S:b≠D:=fun z=>by rw[z,j] at k;cases k
  refine⟨S,ob,K.toArray,n,k0 b ob P k,C,O,by simpa using rv,E _ (fa b hb).2⟩
 ·refine⟨_,rfl,?_⟩
  have I':aL X pins σ (upd H D (.lst (bs.map V.ref))) {s with heap:=h2,toks:=tk}:=by
   refine I.laidN (fun b u hb e=>?_) (fun m' hm'=>?_) j ?_
   ·exact kp b u (fun z=>by rw[z,j] at e;cases e) (k0 b u hb e)
   ·have:m'=m:=zO hm' hm
    rw[this]
    obtain⟨oL,N,U,e',r'⟩:=F'.ns
    exact⟨oL,N,U,kp _ _ nD.2.1.symm e',r'⟩
   ·refine⟨?_,_,_,fE _,hD2⟩
    rw[CK,pb.length_eq,T]
    exact Df L (by decide)
  have tb:∀b∈bs,H b=some (.tup ((tH as cs (.ref b)).map V.int)):=fun b hb=>(fa b (pb.mem_iff.mp hb)).1
  refine⟨.ref D,_,I',rfl,q D bs _ (I.hok.none_of j) (qY tb) ?_ ?_⟩
  ·have:=pb.map fun b=>tH as cs (.ref b)
   rwa [tj ht] at this
  ·exact E7.mpr pw
end
section
variable {X:Cx}
theorem iw:dO X (.builtin "sorted") (fun xs H Q=>∃(p:Addr) (as:List Addr) (cs:List (List Int)),xs=[.ref p]∧bg X.K H p (as.map V.ref)∧bN H as cs∧(∀c∈cs,c≠[])∧as.length≤1000∧
  ∀l bs ds,H l=none→bN H bs ds→ds.Perm cs→ds.Pairwise (fun c d=>HT.lexLt d c=false)→Q (.ref l) (upd H l (.lst (bs.map V.ref)))):=by
 intro pins s σ H xs us Q I r h
 obtain⟨p,as,cs,rfl,hp,ht,A,C,q⟩:=h
 obtain⟨u,rfl,rx⟩:=iZ r
 cases rx
 obtain⟨k,rv,pl,hz⟩:=I.list hp
 have v:k=as.map Value.ref:=fk rv
 subst v
 have E:as.length=cs.length:=Paired.length ht
 have F:(as.map Value.ref).length=as.length:=CK ..
 obtain⟨m,hm,_⟩:=id I.loc
 apply Calls.call_function_entry kind_sorted plain_sorted entry_sorted (args_sorted1 _)
 unfold Builtin.«sorted»
 refine CH (m:=checkCount "sorted" 1 1 _) ?_
 apply CI
 apply CH
 refine collect_list pl.isList ?_ (by rw[sizeLine_eq];simp;lia)
 apply CH
 refine wpAny_newList ?_ (by rw[sizeLine_eq];simp;lia)
 have z:((s.heap.push (seqObj "list" #[] 0)).update s.heap.objs.size (Obj.mapSeq (· ++(as.map Value.ref).toArray))).objs.size=s.heap.objs.size+1:=(Heap.size_update ..).trans (size_push' ..)
 have gD:(((s.heap.push (seqObj "list" #[] 0)).update s.heap.objs.size (Obj.mapSeq (· ++(as.map Value.ref).toArray))).push (seqObj "list" (as.map Value.ref).toArray 0)).get? (s.heap.objs.size+1)=some (seqObj "list" (as.map Value.ref).toArray 0):=z▸C4 _ rfl
 have i:∀b o,s.heap.get? b=some o→(((s.heap.push (seqObj "list" #[] 0)).update s.heap.objs.size (Obj.mapSeq (· ++(as.map Value.ref).toArray))).push (seqObj "list" (as.map Value.ref).toArray 0)).get? b=some o:=fun b o e=>
  CO _ ((Er _ _ (DY (CS e))).trans (CO _ e))
 show wpAny _ _ _ _ _ ({s with heap:=((s.heap.push (seqObj "list" #[] 0)).update s.heap.objs.size (Obj.mapSeq (· ++(as.map Value.ref).toArray))).push (seqObj "list" (as.map Value.ref).toArray 0)}:Shared)
 rw[z]
 apply CH
 apply Dz
 have a:s.heap.get? (s.heap.objs.size+1)=none:=El (Nat.le_succ _)
 have fa:=rM ht
 revert gD i
 generalize ((s.heap.push (seqObj "list" #[] 0)).update s.heap.objs.size (Obj.mapSeq (· ++(as.map Value.ref).toArray))).push (seqObj "list" (as.map Value.ref).toArray 0)=h1
 intro gD i
 refine Dr slot_list_sort ⟨_,gD,rfl⟩ entry_list_sort (sZ (s:={s with heap:=h1}) (as:=as) (f:=tH as cs) gD (by lia) (fun b hb=>?_) fun bs e1 h2 pb pw kp hD2=>?_) (args_list_sort _)
 ·have g:=(fa b hb).1
  obtain⟨_,k,rv,ob,j,B,n,w⟩:=(show bL X.prog X.w H s.heap b (.tup ((tH as cs (.ref b)).map V.int)) from I.hok b _ g)
  have y:b≠s.heap.objs.size+1:=fun z=>by rw[z,a] at j;cases j
  refine⟨y,ob,k.toArray,n,i b ob j,B,w,by simpa using rv,A _ (fa b hb).2⟩
 ·refine⟨_,rfl,CI ⟨_,rfl,?_⟩⟩
  have I':aL X pins σ (upd H (s.heap.objs.size+1) (.lst (bs.map V.ref))) {s with heap:=h2}:=by
   refine I.laidN (t':=s.toks) (fun b u hb e=>?_) (fun m' hm'=>?_) a ?_
   ·exact kp b u (fun z=>by rw[z,a] at e;cases e) (i b u e)
   ·obtain⟨oL,x,D,e',r'⟩:=hm'
    exact⟨oL,x,D,kp _ _ (fun z=>by rw[z,a] at e';cases e') (i _ _ e'),r'⟩
   ·refine⟨?_,_,_,fE _,hD2⟩
    rw[CK,pb.length_eq]
    exact Df C (by decide)
  have tb:∀b∈bs,H b=some (.tup ((tH as cs (.ref b)).map V.int)):=fun b hb=>(fa b (pb.mem_iff.mp hb)).1
  refine⟨.ref _,_,I',rfl,q _ bs _ (I.hok.none_of a) (qY tb) ?_ ?_⟩
  ·have:=pb.map fun b=>tH as cs (.ref b)
   rwa [tj ht] at this
  ·exact E7.mpr pw
end
end L2
set_option linter.all false
namespace Dj
abbrev Far:=Nat→Option Int
abbrev Back:=Nat→Option (Option Nat)
noncomputable def put {α:Type} (f:Nat→Option α) (k:Nat) (x:α):Nat→Option α:=fun j=>if j=k then some x else f j
theorem dh {α:Type}{f:Nat→Option α}{x:α}:put f k x k=some x:=if_pos rfl
theorem dD {α:Type}{f:Nat→Option α}{x:α}(h:j≠k):put f k x j=f j:=if_neg h
structure G where
 rows:Nat→List (Nat×Int)
 starts:List (Nat×Int)
 nn:∀m,∀a∈rows m,0≤a.2
structure Mid (g:G) (far:Far) (back:Back) (hp:List (Int×Nat)) (dn:List Nat) (cur:Int) (x:Option (Nat×List (Nat×Int))):Prop where
 here:∀m p,far m=some p→m∈dn∨(p,m)∈hp
 low:∀p m,(p,m)∈hp→∃q,far m=some q∧q≤p
 dom:∀m,(back m).isSome=(far m).isSome
 was:∀m∈dn,∃p,far m=some p∧p≤cur
 arcs:∀m∈dn,∀p,far m=some p→(∀pre,x≠some (m,pre))→∀a∈g.rows m,∃q,far a.1=some q∧q≤p+a.2
 part:∀m pre,x=some (m,pre)→m∈dn∧far m=some cur∧∀a∈pre,a∈g.rows m∧∃q,far a.1=some q∧q≤cur+a.2
 top:∀p m,(p,m)∈hp→cur≤p
 bn:∀m p,far m=some p→back m=some none→(m,p)∈g.starts
 bs:∀m p b,far m=some p→back m=some (some b)→b∈dn∧(m,p)∉g.starts∧∃q,far b=some q∧(m,p - q)∈g.rows b
 sta:∀a∈g.starts,∃q,far a.1=some q∧q≤a.2
 ord:∀l m r b,dn=l++m::r→back m=some (some b)→b∈r
 nd:dn.Nodup
section
variable {g:G} {far:Far} {back:Back} {hp:List (Int×Nat)} {dn:List Nat} {cur:Int} {m:Nat} {pre:List (Nat×Int)}
theorem Mid.skip (M:Mid g far back hp dn cur (some (m,pre))){o:Nat}{w q:Int}(ha:(o,w)∈g.rows m)(hf:far o=some q)(hq:¬cur+w<q):Mid g far back hp dn cur (some (m,pre++[(o,w)])):=by
 obtain⟨h1,h2,h3⟩:=M.part m pre rfl
 refine{M with arcs:=fun k hk p hp' hx=>M.arcs k hk p hp' fun pr z=>?_,part:=fun k pr z=>?_}
 ·injection z with z;injection z with z1 z2;exact hx (pre++[(o,w)]) (by rw[z1])
 ·injection z with z;injection z with z1 z2
  subst z1 z2
  refine⟨h1,h2,fun a h=>?_⟩
  rcases Dm.mp h with h|h
  ·exact h3 a h
  ·rw[CP.mp h];exact⟨ha,q,hf,by show q≤cur+w;lia⟩
theorem Mid.more (M:Mid g far back hp dn cur (some (m,pre))){o:Nat}{w:Int}(ha:(o,w)∈g.rows m)(hq:∀q,far o=some q→cur+w<q){hp':List (Int×Nat)}(hh:∀z,z∈hp'↔z=(cur+w,o)∨z∈hp):
  Mid g (put far o (cur+w)) (put back o (some m)) hp' dn cur (some (m,pre++[(o,w)])):=by
 obtain⟨h1,h2,h3⟩:=M.part m pre rfl
 have hw:=g.nn m _ ha
 have hw:0≤w:=hw
 have od:o∉dn:=fun h=>by
  obtain⟨p,c,d⟩:=M.was o h
  have:=hq p c;lia
 have le:∀k q,far k=some q→∃q',put far o (cur+w) k=some q'∧q'≤q:=fun k q h=>by
  by_cases e:k=o
  ·subst e;exact⟨_,dh,by have:=hq q h;lia⟩
  ·exact⟨q,by rw[dD e];exact h,Ea _⟩
 have keep:∀k∈dn,put far o (cur+w) k=far k:=fun k hk=>dD fun e=>od (e▸hk)
 refine⟨fun k p h=>?_,fun p k h=>?_,fun k=>?_,fun k hk=>?_,fun k hk p c hx a h=>?_,fun k pr z=>?_,fun p k h=>?_,fun k p h hb=>?_,fun k p b h hb=>?_,fun a h=>?_,fun l k r b e hb=>?_,M.nd⟩
 ·by_cases e:k=o
  ·subst e;rw[dh] at h;cases h
   exact .inr ((hh _).mpr (.inl rfl))
  ·rw[dD e] at h
   rcases M.here k p h with z|z
   ·exact .inl z
   ·exact .inr ((hh _).mpr (.inr z))
 ·rcases(hh _).mp h with z|z
  ·cases z;exact⟨_,dh,Ea _⟩
  ·obtain⟨q,h1,h2⟩:=M.low p k z
   obtain⟨q',h3,h4⟩:=le k q h1
   exact⟨q',h3,by lia⟩
 ·by_cases e:k=o
  ·subst e;rw[dh,dh];rfl
  ·rw[dD e,dD e];exact M.dom k
 ·rw[keep k hk];exact M.was k hk
 ·rw[keep k hk] at c
  obtain⟨q,h4,h5⟩:=M.arcs k hk p c (fun pr z=>by injection z with z;injection z with z1 z2;exact hx (pre++[(o,w)]) (by rw[z1])) a h
  obtain⟨q',h6,h7⟩:=le _ q h4
  exact⟨q',h6,by lia⟩
 ·injection z with z;injection z with z1 z2
  subst z1 z2
  refine⟨h1,by rw[keep _ h1];exact h2,fun a h=>?_⟩
  rcases Dm.mp h with h|h
  ·obtain⟨h4,q,h5,h6⟩:=h3 a h
   obtain⟨q',h7,h8⟩:=le _ q h5
   exact⟨h4,q',h7,by lia⟩
  ·rw[CP.mp h];exact⟨ha,_,dh,Ea _⟩
 ·rcases(hh _).mp h with z|z
  ·cases z;lia
  ·exact M.top p k z
 ·by_cases e:k=o
  ·subst e;rw[dh] at hb;cases hb
  ·rw[dD e] at h hb;exact M.bn k p h hb
 ·by_cases e:k=o
  ·subst e;rw[dh] at h hb;cases h;cases hb
   refine⟨h1,fun z=>?_,cur,by rw[keep _ h1];exact h2,by rw[show cur+w - cur=w by lia];exact ha⟩
   obtain⟨q,h4,h5⟩:=M.sta _ z
   have:=hq q h4
   have h5:q≤cur+w:=h5
   lia
  ·rw[dD e] at h hb
   obtain⟨h4,h5,q,h6,h7⟩:=M.bs k p b h hb
   exact⟨h4,h5,q,by rw[keep b h4];exact h6,h7⟩
 ·obtain⟨q,h4,h5⟩:=M.sta a h
  obtain⟨q',h6,h7⟩:=le _ q h4
  exact⟨q',h6,by lia⟩
 ·have hk:k∈dn:=by rw[e];simp
  rw[dD fun(z:k=o)=>od (z▸hk)] at hb
  exact M.ord l k r b e hb
theorem Mid.end (M:Mid g far back hp dn cur (some (m,g.rows m))):Mid g far back hp dn cur none:=by
 obtain⟨h1,h2,h3⟩:=M.part m _ rfl
 refine{M with arcs:=fun k hk p hp' _ a ha=>?_,part:=fun _ _ z=>nomatch z}
 by_cases e:k=m
 ·subst e;rw[h2] at hp';cases hp';exact(h3 a ha).2
 ·exact M.arcs k hk p hp' (fun pr z=>by injection z with z;injection z with z1 _;exact e z1.symm) a ha
theorem Mid.drop (M:Mid g far back hp dn cur none){p:Int}{hp':List (Int×Nat)}(hh:∀z,z∈hp↔z=(p,m)∨z∈hp')(hl:∀z∈hp',p≤z.1)(h:far m≠some p∨m∈dn):Mid g far back hp' dn p none:=by
 have hc:cur≤p:=M.top p m ((hh _).mpr (.inl rfl))
 refine{M with here:=fun k q hk=>?_,low:=fun q k hk=>M.low q k ((hh _).mpr (.inr hk)),was:=fun k hk=>?_,top:=fun q k hk=>hl _ hk,part:=fun _ _ z=>nomatch z}
 ·rcases M.here k q hk with z|z
  ·exact .inl z
  ·rcases(hh _).mp z with z|z
   ·cases z
    rcases h with h|h
    ·exact absurd hk h
    ·exact .inl h
   ·exact .inr z
 ·obtain⟨q,h1,h2⟩:=M.was k hk
  exact⟨q,h1,by lia⟩
theorem Mid.take (M:Mid g far back hp dn cur none){p:Int}{hp':List (Int×Nat)}(hh:∀z,z∈hp↔z=(p,m)∨z∈hp')(hl:∀z∈hp',p≤z.1)(h:far m=some p)(hn:m∉dn):Mid g far back hp' (m::dn) p (some (m,[])):=by
 have hc:cur≤p:=M.top p m ((hh _).mpr (.inl rfl))
 refine⟨fun k q hk=>?_,fun q k hk=>M.low q k ((hh _).mpr (.inr hk)),M.dom,fun k hk=>?_,fun k hk q hq hx a ha=>?_,fun k pr z=>?_,fun q k hk=>hl _ hk,M.bn,fun k q b hk hb=>?_,M.sta,fun l k r b e hb=>?_,Ds.mpr ⟨hn,M.nd⟩⟩
 ·rcases M.here k q hk with z|z
  ·exact .inl (Dh _ z)
  ·rcases(hh _).mp z with z|z
   ·cases z;exact .inl Dk
   ·exact .inr z
 ·rcases CV.mp hk with z|z
  ·subst z;exact⟨p,h,Ea _⟩
  ·obtain⟨q,h1,h2⟩:=M.was k z
   exact⟨q,h1,by lia⟩
 ·rcases CV.mp hk with z|z
  ·subst z;exact absurd rfl (hx [])
  ·exact M.arcs k z q hq (fun _ y=>nomatch y) a ha
 ·injection z with z;injection z with z1 z2
  subst z1 z2
  exact⟨Dk,h,fun a ha=>nomatch ha⟩
 ·obtain⟨h1,h2⟩:=M.bs k q b hk hb
  exact⟨Dh _ h1,h2⟩
 ·cases l with
  |nil=>
   injection e with e1 e2
   subst e1 e2
   exact(M.bs m p b h hb).1
  |cons z l'=>
   injection e with e1 e2
   exact M.ord l' k r b e2 hb
structure St (ss:List (Nat×Int)) (far:Far) (back:Back) (hp:List (Int×Nat)):Prop where
 here:∀m p,far m=some p→(p,m)∈hp∧(m,p)∈ss
 low:∀p m,(p,m)∈hp→∃q,far m=some q∧q≤p
 dom:∀m,(back m).isSome=(far m).isSome
 bn:∀m b,back m=some b→b=none
 sta:∀a∈ss,∃q,far a.1=some q∧q≤a.2
theorem St.skip {ss:List (Nat×Int)}(S:St ss far back hp){o:Nat}{w q:Int}(hf:far o=some q)(hq:¬w<q):St (ss++[(o,w)]) far back hp:=by
 refine{S with here:=fun k p h=>⟨(S.here k p h).1,Dm.mpr (.inl (S.here k p h).2)⟩,sta:=fun a h=>?_}
 rcases Dm.mp h with h|h
 ·exact S.sta a h
 ·rw[CP.mp h];exact⟨q,hf,by show q≤w;lia⟩
theorem St.more {ss:List (Nat×Int)}(S:St ss far back hp){o:Nat}{w:Int}(hq:∀q,far o=some q→w<q){hp':List (Int×Nat)}(hh:∀z,z∈hp'↔z=(w,o)∨z∈hp):St (ss++[(o,w)]) (put far o w) (put back o none) hp':=by
 have le:∀k q,far k=some q→∃q',put far o w k=some q'∧q'≤q:=fun k q h=>by
  by_cases e:k=o
  ·subst e;exact⟨_,dh,by have:=hq q h;lia⟩
  ·exact⟨q,by rw[dD e];exact h,Ea _⟩
 refine⟨fun k p h=>?_,fun p k h=>?_,fun k=>?_,fun k b h=>?_,fun a h=>?_⟩
 ·by_cases e:k=o
  ·subst e;rw[dh] at h;cases h
   exact⟨(hh _).mpr (.inl rfl),by simp⟩
  ·rw[dD e] at h
   exact⟨(hh _).mpr (.inr (S.here k p h).1),Dm.mpr (.inl (S.here k p h).2)⟩
 ·rcases(hh _).mp h with z|z
  ·cases z;exact⟨_,dh,Ea _⟩
  ·obtain⟨q,h1,h2⟩:=S.low p k z
   obtain⟨q',h3,h4⟩:=le k q h1
   exact⟨q',h3,by lia⟩
 ·by_cases e:k=o
  ·subst e;rw[dh,dh];rfl
  ·rw[dD e,dD e];exact S.dom k
 ·by_cases e:k=o
  ·subst e;rw[dh] at h;exact(Option.some.inj h).symm
  ·rw[dD e] at h;exact S.bn k b h
 ·rcases Dm.mp h with h|h
  ·obtain⟨q,h1,h2⟩:=S.sta a h
   obtain⟨q',h3,h4⟩:=le _ q h1
   exact⟨q',h3,by lia⟩
  ·rw[CP.mp h];exact⟨_,dh,Ea _⟩
theorem mG:∀(hp:List (Int×Nat)),∃c:Int,∀z∈hp,c≤z.1
 |[]=>⟨0,fun _ h=>nomatch h⟩
 |a::r=>by
  obtain⟨c,h⟩:=mG r
  refine⟨min a.1 c,fun z hz=>?_⟩
  rcases CV.mp hz with e|hz
  ·subst e;lia
  ·have:=h z hz;lia
theorem St.mid (S:St g.starts far back hp):∃c,Mid g far back hp [] c none:=by
 obtain⟨c,hc⟩:=mG hp
 refine⟨c,fun m p h=> .inr (S.here m p h).1,S.low,S.dom,(fun _ h=>nomatch h),(fun _ h=>nomatch h),(fun _ _ z=>nomatch z),fun p m h=>hc _ h,fun m p h _=>(S.here m p h).2,(fun m p b _ hb=>by have:=S.bn m _ hb;cases this),S.sta,fun l m r b e=>?_,EI⟩
 cases l<;>cases e
structure Told (g:G) (far:Far) (back:Back):Prop where
 dom:∀m,(back m).isSome=(far m).isSome
 arcs:∀m p,far m=some p→∀a∈g.rows m,∃q,far a.1=some q∧q≤p+a.2
 bn:∀m p,far m=some p→back m=some none→(m,p)∈g.starts
 bs:∀m p b,far m=some p→back m=some (some b)→(m,p)∉g.starts∧∃q,far b=some q∧(m,p - q)∈g.rows b
 sta:∀a∈g.starts,∃q,far a.1=some q∧q≤a.2
 ord:∃dn:List Nat,dn.Nodup∧(∀m,m∈dn↔(far m).isSome=true)∧∀l m r b,dn=l++m::r→back m=some (some b)→b∈r
theorem Mid.told (M:Mid g far back [] dn cur none):Told g far back:=by
 have all:∀m p,far m=some p→m∈dn:=fun m p h=>by
  rcases M.here m p h with z|z
  ·exact z
  ·cases z
 refine⟨M.dom,fun m p h a ha=>M.arcs m (all m p h) p h (fun _ z=>nomatch z) a ha,M.bn,fun m p b h hb=>(M.bs m p b h hb).2,M.sta,dn,M.nd,fun m=>⟨fun h=>?_,fun h=>?_⟩,M.ord⟩
 ·obtain⟨p,h1,_⟩:=M.was m h;rw[h1];rfl
 ·obtain⟨p,h1⟩:=Ey.mp h;exact all m p h1
end
def sumF (f:Nat→Nat) (l:List Nat):Nat:=(l.map f).sum
theorem qp (f:Nat→Nat)(dn:List Nat)(m:Nat)(hn:m∉dn):∀(l:List Nat),l.Nodup→m∈l→sumF f (l.filter fun k=>decide (k∉m::dn))+f m=sumF f (l.filter fun k=>decide (k∉dn))
 |[],_,h=>nomatch h
 |a::r,nd,h=>by
  rw[Ds] at nd
  by_cases e:a=m
  ·subst e
   have e1:(r.filter fun k=>decide (k∉a::dn))=r.filter fun k=>decide (k∉dn):=by
    refine List.filter_congr fun k hk=>?_
    have:k≠a:=fun z=>nd.1 (z▸hk)
    simp[this]
   rw[DK (by simp),e1,DJ (by simpa using hn)]
   unfold sumF
   rw[C5,List.sum_cons];lia
  ·have hm:m∈r:=by
    rcases CV.mp h with z|z
    ·exact absurd z.symm e
    ·exact z
   have ih:=qp f dn m hn r nd.2 hm
   by_cases ha:a∈dn
   ·rw[DK (by simp[ha]),DK (by simp[ha])];exact ih
   ·rw[DJ (by simp[ha,e]),DJ (by simp[ha])]
    unfold sumF at ih⊢
    rw[C5,List.sum_cons,C5,List.sum_cons];lia
noncomputable def bud (g:G) (n:Nat) (dn:List Nat):Nat:=sumF (fun k=>(g.rows k).length) ((List.range n).filter fun k=>decide (k∉dn))
theorem bud_cons {g:G}(hm:m<n)(hn:m∉dn):bud g n (m::dn)+(g.rows m).length=bud g n dn:=
 qp _ dn m hn _ List.nodup_range (Ew.mpr hm)
end Dj
namespace Hp
abbrev par (i:Nat):Nat:=(i - 1)/2
section
variable {α:Type} (lt:α→α→Bool)
structure Ord:Prop where
 irr:∀a,lt a a=false
 tot:∀a b,lt a b=false→lt b a=false→a=b
 trans:∀a b c,lt a b=true→lt b c=true→lt a c=true
variable {lt} (O:Ord lt)
include O
theorem Ord.asym {a b:α}(h:lt a b=true):lt b a=false:=by
 cases e:lt b a with
 |false=>rfl
 |true=>have:=O.trans _ _ _ h e;rw[O.irr] at this;cases this
theorem Ord.le_trans {a b c:α}(h1:lt b a=false)(h2:lt c b=false):lt c a=false:=by
 cases e:lt c a with
 |false=>rfl
 |true=>
  cases e2:lt a b with
  |true=>have:=O.trans _ _ _ e e2;rw[h2] at this;cases this
  |false=>
   have:=O.tot a b e2 h1
   subst this
   rw[h2] at e;cases e
end
section
variable {α:Type} {lt:α→α→Bool} {d:α}
theorem get_set {l:List α}{a:α}(hi:i<l.length):(l.set i a).getD j d=if i=j then a else l.getD j d:=by
 rw[Dc,List.getElem?_set]
 by_cases h:i=j
 ·subst h;simp[hi]
 ·simp[h]
def Hpy (lt:α→α→Bool) (d:α) (ks:List α):Prop:=∀i,0<i→i<ks.length→lt (ks.getD i d) (ks.getD (par i) d)=false
theorem Hpy.least (O:Ord lt){ks:List α}(h:Hpy lt d ks):∀i,i<ks.length→lt (ks.getD i d) (ks.getD 0 d)=false:=by
 intro i
 induction i using Nat.strongRecOn with
 |_ i ih=>
  intro hi
  by_cases h0:i=0
  ·subst h0;exact O.irr _
  ·exact O.le_trans (ih (par i) (by first|lia|(simp only[par] at*;lia)) (by first|lia|(simp only[par] at*;lia))) (h i (by first|lia|(simp only[par] at*;lia)) hi)
structure Up (lt:α→α→Bool) (d:α) (ks:List α) (p:Nat) (x:α):Prop where
 at':p<ks.length
 ok:∀i,0<i→i<ks.length→i≠p→lt ((ks.set p x).getD i d) ((ks.set p x).getD (par i) d)=false
 over:0<p→∀c,0<c→c<ks.length→par c=p→lt ((ks.set p x).getD c d) ((ks.set p x).getD (par p) d)=false
theorem Up.start {ks:List α}(h:Hpy lt d ks)(x:α):Up lt d (ks++[x]) ks.length x:=by
 have e:(ks++[x]).set ks.length x=ks++[x]:=by simp
 refine⟨by simp,fun i h0 hi hp=>?_,fun h0 c c0 hc hp=>?_⟩
 ·have a:i<ks.length:=by simp at hi;first|lia|(simp only[par] at*;lia)
  rw[e]
  have b:par i<ks.length:=by first|lia|(simp only[par] at*;lia)
  have h1:(ks++[x]).getD i d=ks.getD i d:=by simp[Dc,Ef a]
  have h2:(ks++[x]).getD (par i) d=ks.getD (par i) d:=by simp[Dc,Ef b]
  rw[h1,h2]
  exact h i h0 a
 ·simp at hc;simp only[par] at hp;lia
theorem Up.step (O:Ord lt){ks:List α}{p:Nat}{x:α}(h:Up lt d ks p x)(hp:0<p)(hx:lt x (ks.getD (par p) d)=true):Up lt d (ks.set p (ks.getD (par p) d)) (par p) x:=by
 obtain⟨ha,ok,ov⟩:=h
 have hq:par p<p:=by simp only[par];lia
 have hl:(ks.set p (ks.getD (par p) d)).length=ks.length:=by simp
 have g1:∀j,(ks.set p x).getD j d=if p=j then x else ks.getD j d:=fun j=>get_set ha
 have g2:∀j,((ks.set p (ks.getD (par p) d)).set (par p) x).getD j d=if par p=j then x else if p=j then ks.getD (par p) d else ks.getD j d:=fun j=>by
  rw[get_set (by rw[hl];first|lia|(simp only[par] at*;lia)),get_set ha]
 refine⟨by rw[hl];lia,fun i h0 hi hip=>?_,fun h0 c c0 hc hcp=>?_⟩
 ·rw[hl] at hi
  rw[g2,g2,if_neg (CQ hip)]
  have o:=ok i h0 hi
  rw[g1,g1] at o
  by_cases hi1:p=i
  ·subst hi1
   rw[if_pos rfl,if_pos rfl]
   exact O.asym hx
  ·rw[if_neg hi1]
   have o:=o (CQ hi1)
   rw[if_neg hi1] at o
   by_cases hi2:par p=par i
   ·rw[if_pos hi2]
    rw[if_neg (by first|lia|(simp only[par] at*;lia)),←hi2] at o
    exact O.le_trans (O.asym hx) o
   ·rw[if_neg hi2]
    by_cases hi3:p=par i
    ·rw[if_pos hi3]
     have v:=ov hp i h0 hi hi3.symm
     rw[g1,g1,if_neg hi1,if_neg (by first|lia|(simp only[par] at*;lia))] at v
     exact v
    ·rw[if_neg hi3]
     rw[if_neg hi3] at o
     exact o
 ·rw[hl] at hc
  have a:par (par p)<par p:=by simp only[par] at h0⊢;lia
  have n1:par p≠c:=by first|lia|(simp only[par] at*;lia)
  have n2:par p≠par (par p):=by lia
  have n3:p≠par (par p):=by lia
  rw[g2,g2,if_neg n1,if_neg n2,if_neg n3]
  have o1:=ok (par p) h0 (by first|lia|(simp only[par] at*;lia)) (by first|lia|(simp only[par] at*;lia))
  rw[g1,g1,if_neg (by first|lia|(simp only[par] at*;lia)),if_neg (by first|lia|(simp only[par] at*;lia))] at o1
  by_cases hcq:p=c
  ·rw[if_pos hcq];exact o1
  ·rw[if_neg hcq]
   have o2:=ok c c0 hc (CQ hcq)
   rw[g1,g1,if_neg hcq,hcp,if_neg (by first|lia|(simp only[par] at*;lia))] at o2
   exact O.le_trans o1 o2
theorem Up.done {ks:List α}{x:α}(h:Up lt d ks p x)(hx:p=0∨lt x (ks.getD (par p) d)=false):Hpy lt d (ks.set p x):=by
 obtain⟨ha,ok,ov⟩:=h
 intro i h0 hi
 rw[Es] at hi
 by_cases hip:i=p
 ·subst hip
  rw[get_set ha,get_set ha,if_pos rfl,if_neg (by simp only[par];first|lia|(simp only[par] at*;lia))]
  rcases hx with hx|hx
  ·lia
  ·exact hx
 ·exact ok i h0 hi hip
theorem up_perm {ks:List α}{x:α}(hp:p<ks.length)(hq:q<ks.length)(hne:q≠p):((ks.set p (ks.getD q d)).set q x).Perm (ks.set p x):=by
 have a:p<(ks.set p x).length:=by rw[Es];exact hp
 have b:q<(ks.set p x).length:=by rw[Es];exact hq
 have e1:(ks.set p x)[p]=x:=by simp
 have e2:(ks.set p x)[q]=ks.getD q d:=by
  rw[List.getElem_set_ne (CQ hne)]
  simp[Dc,hq]
 have:=List.set_set_perm (as:=ks.set p x) a b
 rw[e1,e2,List.set_set] at this
 exact this
structure Dn (lt:α→α→Bool) (d:α) (ks:List α) (p:Nat) (x:α):Prop where
 at':p<ks.length
 ok:∀i,0<i→i<ks.length→par i≠p→lt ((ks.set p x).getD i d) ((ks.set p x).getD (par i) d)=false
 over:0<p→∀c,0<c→c<ks.length→par c=p→lt ((ks.set p x).getD c d) ((ks.set p x).getD (par p) d)=false
theorem Dn.start {ks:List α}(h:Hpy lt d ks)(h0:0<ks.length)(x:α):Dn lt d ks 0 x:=by
 refine⟨h0,fun i i0 hi hp=>?_,fun z=>absurd z (DL _)⟩
 rw[get_set h0,get_set h0,if_neg (by first|lia|(simp only[par] at*;lia)),if_neg (CQ hp)]
 exact h i i0 hi
def Least (lt:α→α→Bool) (d:α) (ks:List α) (p c:Nat):Prop:=par c=p∧0<c∧c<ks.length∧∀e,0<e→e<ks.length→par e=p→lt (ks.getD e d) (ks.getD c d)=false
theorem Dn.step (O:Ord lt){ks:List α}{p c:Nat}{x:α}(h:Dn lt d ks p x)(hc:Least lt d ks p c)(hx:lt (ks.getD c d) x=true):Dn lt d (ks.set p (ks.getD c d)) c x:=by
 obtain⟨ha,ok,ov⟩:=h
 obtain⟨cp,c0,cl,cm⟩:=hc
 have a:p<c:=by simp only[par] at cp;lia
 have hl:(ks.set p (ks.getD c d)).length=ks.length:=by simp
 have g1:∀j,(ks.set p x).getD j d=if p=j then x else ks.getD j d:=fun j=>get_set ha
 have g2:∀j,((ks.set p (ks.getD c d)).set c x).getD j d=if c=j then x else if p=j then ks.getD c d else ks.getD j d:=fun j=>by
  rw[get_set (by rw[hl];exact cl),get_set ha]
 refine⟨by rw[hl];exact cl,fun i h0 hi hip=>?_,fun _ e e0 he ep=>?_⟩
 ·rw[hl] at hi
  rw[g2,g2,if_neg (CQ hip)]
  by_cases h1:par i=p
  ·rw[if_pos h1.symm]
   have f:p<i:=by simp only[par] at h1;lia
   by_cases h2:c=i
   ·rw[if_pos h2];exact O.asym hx
   ·rw[if_neg h2,if_neg (by first|lia|(simp only[par] at*;lia))]
    exact cm i h0 hi h1
  ·have h2:c≠i:=fun z=>h1 (by rw[←z];exact cp)
   rw[if_neg h2,if_neg (CQ h1)]
   by_cases h3:p=i
   ·rw[if_pos h3]
    have v:=ov (by first|lia|(simp only[par] at*;lia)) c c0 cl cp
    rw[g1,g1,if_neg (by first|lia|(simp only[par] at*;lia)),h3,if_neg (by simp only[par];first|lia|(simp only[par] at*;lia))] at v
    exact v
   ·rw[if_neg h3]
    have o:=ok i h0 hi h1
    rw[g1,g1,if_neg h3,if_neg (CQ h1)] at o
    exact o
 ·rw[hl] at he
  have b:c<e:=by simp only[par] at ep;lia
  rw[g2,g2,if_neg (by first|lia|(simp only[par] at*;lia)),if_neg (by first|lia|(simp only[par] at*;lia)),cp,if_neg (by first|lia|(simp only[par] at*;lia)),if_pos rfl]
  have o:=ok e e0 he (by rw[ep];first|lia|(simp only[par] at*;lia))
  rw[g1,g1,if_neg (by first|lia|(simp only[par] at*;lia)),ep,if_neg (by first|lia|(simp only[par] at*;lia))] at o
  exact o
theorem Dn.done {ks:List α}{x:α}(h:Dn lt d ks p x)(hx:∀c,0<c→c<ks.length→par c=p→lt (ks.getD c d) x=false):Hpy lt d (ks.set p x):=by
 obtain⟨ha,ok,ov⟩:=h
 intro i h0 hi
 rw[Es] at hi
 by_cases hip:par i=p
 ·have a:p<i:=by simp only[par] at hip;lia
  rw[get_set ha,get_set ha,if_neg (by first|lia|(simp only[par] at*;lia)),if_pos hip.symm]
  exact hx i h0 hi hip
 ·exact ok i h0 hi hip
end
end Hp
namespace K25
open PySem L2
abbrev T3:=List Int
def iK (x:T3):List cK:=x.map Sum.inl
theorem oh(h:iK x=iK y):x=y:=by
 have:=congrArg (List.map kV) h
 unfold iK at this
 rw[eM,eM] at this
 exact dM this
theorem f_ {H:Hp}{b:Addr}{x:T3}(h:H b=some (.tup (x.map V.int))):H b=some (.tup ((iK x).map kV)):=by unfold iK;rw[eM];exact h
theorem dg{kvs:List (List cK×V)}(hd:Rd H d (.dT kvs))(hb:H b=some (.tup (x.map V.int))):hZ H d (.ref b) (aR kvs (iK x)):=.inr ⟨kvs,iK x,b,hd,rfl,f_ hb,rfl⟩
theorem dA {α:Type} [DecidableEq α]:∀{xs ys:List α},xs.Nodup→(∀x∈xs,x∈ys)→xs.length≤ys.length
 |[],_,_,_=>C8 _
 |x::xs,ys,nd,h=>by
  rw[Ds] at nd
  have:=dA (ys:=ys.erase x) nd.2 fun y hy=>(List.mem_erase_of_ne (fun z=>nd.1 (by rw[←z];exact hy))).mpr (h y (Dh _ hy))
  have e:=List.length_erase_of_mem (h x Dk)
  have p:0<ys.length:=List.length_pos_of_mem (h x Dk)
  rw[Dl]
  lia
theorem js:∀a b:List Int,HT.lexLt a b=true→HT.lexLt b a=false
 |[],[],h=>by rw[bV] at h;cases h
 |[],_::_,_=>rfl
 |_::_,[],h=>by cases h
 |x::r,y::t,h=>by
  rw[HT.lexLt_cons] at h⊢
  by_cases e:x=y
  ·rw[if_pos e] at h;rw[if_pos e.symm];exact js r t h
  ·rw[if_neg e] at h;rw[if_neg (CQ e)]
   have:=of_decide_eq_true h
   exact decide_eq_false (by lia)
structure j_ (L R C:Int):Prop where
 l0:1≤L
 l1:L≤4
 r0:1≤R
 r1:R≤16
 c0:1≤C
 c1:C≤16
def kR (L R C l r c:Int):Prop:=0≤l∧l<L∧0≤r∧r<R∧0≤c∧c<C
instance {L R C l r c : Int} : Decidable (kR L R C l r c) := by unfold kR; infer_instance
theorem AO:(decide (0≤l)&&decide (l<L)&&(decide (0≤r)&&decide (r<R)&&(decide (0≤c)&&decide (c<C))))=decide (kR L R C l r c):=by
 rw[Em]
 simp only[EA,decide_eq_true_eq]
 unfold kR
 constructor<;>intro h<;>lia
noncomputable def sN (R C:Int) (n:Nat):T3:=[(n:Int)/C/R,(n:Int)/C%R,(n:Int)%C]
section
variable {L R C:Int}
theorem jF (S:j_ L R C){n:Nat}(h:(n:Int)<L*R*C):kR L R C ((n:Int)/C/R) ((n:Int)/C%R) ((n:Int)%C):=by
 have:=S.r0
 have:=S.c0
 have hn:(0:Int)≤(n:Int):=Int.natCast_nonneg n
 have h1:(n:Int)/C<L*R:=Int.ediv_lt_of_lt_mul (by lia) h
 exact⟨Int.ediv_nonneg (Int.ediv_nonneg hn (by lia)) (by lia),Int.ediv_lt_of_lt_mul (by lia) h1,ED _ (by lia),EE _ (by lia),ED _ (by lia),EE _ (by lia)⟩
theorem u5 (S:j_ L R C){n m:Nat}(h:n<m):HT.lexLt (sN R C n) (sN R C m)=true:=by
 have r0:=S.r0
 have c0:=S.c0
 have e1:=FO (n:Int) C
 have e2:=FO (m:Int) C
 have e3:=FO ((n:Int)/C) R
 have e4:=FO ((m:Int)/C) R
 have a:(n:Int)/C≤(m:Int)/C:=Int.ediv_le_ediv (by lia) (by lia)
 have b:(n:Int)/C/R≤(m:Int)/C/R:=Int.ediv_le_ediv (by lia) a
 unfold sN
 rw[HT.lexLt_cons]
 by_cases g1:(n:Int)/C/R=(m:Int)/C/R
 ·rw[if_pos g1,HT.lexLt_cons]
  by_cases g2:(n:Int)/C%R=(m:Int)/C%R
  ·rw[if_pos g2,HT.lexLt_cons]
   rw[g1,g2,e4] at e3
   rw[←e3] at e1
   rw[if_neg (by intro g3;rw[g3] at e1;lia)]
   exact decide_eq_true (by lia)
  ·rw[if_neg g2]
   refine decide_eq_true ?_
   rw[g1] at e3
   lia
 ·rw[if_neg g1]
  exact decide_eq_true (by lia)
theorem gj (S:j_ L R C){n m:Nat}(h:sN R C n=sN R C m):n=m:=by
 rcases Nat.lt_trichotomy n m with g|g|g
 ·have:=u5 S g;rw[h,bV] at this;cases this
 ·exact g
 ·have:=u5 S g;rw[h,bV] at this;cases this
noncomputable def aX (R C:Int) (ps:List (Nat×V)):List (List cK×V):=ps.map fun p=>(iK (sN R C p.1),p.2)
theorem cJ (S:j_ L R C)(n:Nat):∀ps:List (Nat×V),aR (aX R C ps) (iK (sN R C n))=aR ps n
 |[]=>rfl
 |p::r=>by
  have ih:=cJ S n r
  unfold aX at ih⊢
  rw[C5]
  by_cases e:p.1=n
  ·rw[bY e]
   exact bY (p:=(iK (sN R C p.1),p.2)) (by rw[e])
  ·rw[bZ e,←ih]
   exact bZ (p:=(iK (sN R C p.1),p.2)) (fun z=>e (gj S (oh z)))
theorem ef (S:j_ L R C)(ps:List (Nat×V))(n:Nat)(v:V):bF (aX R C ps) (iK (sN R C n)) v=aX R C (bF ps n v):=by
 unfold bF
 rw[dc,dc,cJ S]
 by_cases h:(aR ps n).isSome=true
 ·rw[if_pos h,if_pos h]
  unfold aX
  rw[Dq,Dq]
  refine Fo fun p _=>?_
  show(if iK (sN R C p.1)=iK (sN R C n) then _ else _)=(iK (sN R C (if p.1=n then (p.1,v) else p).1),(if p.1=n then (p.1,v) else p).2)
  by_cases e:p.1=n
  ·rw[if_pos (by rw[e]),if_pos e]
  ·rw[if_neg (fun z=>e (gj S (oh z))),if_neg e]
 ·rw[if_neg h,if_neg h]
  unfold aX
  rw[C3];rfl
theorem mL {κ:Type} [DecidableEq κ](kvs:List (κ×V))(k:κ)(v:V):(bF kvs k v).map (·.1)=if (aR kvs k).isSome=true then kvs.map (·.1) else kvs.map (·.1)++[k]:=by
 unfold bF
 rw[dc]
 by_cases h:(aR kvs k).isSome=true
 ·rw[if_pos h,if_pos h,Dq]
  refine Fo fun p _=>?_
  show(if p.1=k then (p.1,v) else p).1=p.1
  split<;>rfl
 ·rw[if_neg h,if_neg h,C3];rfl
theorem cb {κ:Type} [DecidableEq κ]{kvs:List (κ×V)}{k:κ}:(aR kvs k).isSome=true↔k∈kvs.map (·.1):=by
 rw[←dc]
 simp[List.any_eq_true]
theorem gI {κ:Type} [DecidableEq κ]{kvs:List (κ×V)}{k:κ}{v:V}(h:aR kvs k=some v):(k,v)∈kvs:=by
 unfold aR at h
 obtain⟨p,h1,h2⟩:=Do.mp h
 have h3:=List.find?_some h1
 have h4:=List.mem_of_find?_eq_some h1
 have:p.1=k:=of_decide_eq_true h3
 subst this h2
 exact h4
structure Tb (M:Nat) (ps:List (Nat×V)):Prop where
 nd:(ps.map (·.1)).Nodup
 lt:∀p∈ps,p.1<M
theorem Tb.nil:Tb M []:=⟨EI,fun _ h=>nomatch h⟩
theorem Tb.put{ps:List (Nat×V)}(h:Tb M ps)(hn:n<M):Tb M (bF ps n v):=by
 have hk:=mL ps n v
 refine⟨?_,fun p hp=>?_⟩
 ·rw[hk]
  split
  ·exact h.nd
  ·rename_i g
   refine FJ.mpr ⟨h.nd,Ds.mpr ⟨by simp,EI⟩,?_⟩
   intro a ha b hb e
   rw[CP.mp hb] at e
   exact g (cb.mpr (e▸ha))
 ·have:=DG (f:=(·.1)) hp
  rw[hk] at this
  split at this
  ·obtain⟨q,hq,e⟩:=CU.mp this
   have e:q.1=p.1:=e
   rw[←e];exact h.lt q hq
  ·rcases Dm.mp this with t|t
   ·obtain⟨q,hq,e⟩:=CU.mp t
    have e:q.1=p.1:=e
    rw[←e];exact h.lt q hq
   ·rw[CP.mp t];exact hn
theorem Tb.few{ps:List (Nat×V)}(h:Tb M ps):ps.length≤M:=by
 have:(ps.map (·.1)).length≤(List.range M).length:=dA h.nd fun n hn=>by
  obtain⟨p,hp,rfl⟩:=CU.mp hn
  exact Ew.mpr (h.lt p hp)
 simpa using this
noncomputable def rk (rs:List Nat):List (Nat×V):=rs.foldl (fun acc n=>bF acc n (.bl true)) []
theorem sf (rs:List Nat)(n:Nat):rk (rs++[n])=bF (rk rs) n (.bl true):=by unfold rk;rw[List.foldl_append];rfl
theorem md {α:Type}{P:List α→Prop}(h0:P [])(h1:∀xs x,P xs→P (xs++[x]))(l:List α):P l:=by
 have:∀n (xs:List α),xs.length=n→P xs:=by
  intro n
  induction n with
  |zero=>intro xs e;rw[List.length_eq_zero_iff.mp e];exact h0
  |succ n ih=>
   intro xs e
   have a:xs≠[]:=fun z=>by rw[z] at e;simp at e
   rw[(E8 a).symm]
   exact h1 _ _ (ih _ (by simp[e]))
 exact this _ l rfl
theorem zE (n:Nat)(rs:List Nat):(aR (rk rs) n).isSome=decide (n∈rs):=by
 induction rs using md with
 |h0=>simp[rk,iW]
 |h1 xs x ih=>
  rw[sf,fg]
  by_cases e:n=x
  ·simp[e]
  ·rw[if_neg e,ih];simp[e]
theorem Al (S:j_ L R C)(rs:List Nat):w8 (rs.map fun n=>(iK (sN R C n),V.bl true))=aX R C (rk rs):=by
 induction rs using md with
 |h0=>rfl
 |h1 xs x ih=>rw[C3,FQ,l_,ih,sf];exact ef S _ _ _
noncomputable def mw (R C:Int) (M:Nat):List T3:=(List.range M).map (sN R C)
noncomputable def fS (R C:Int) (M:Nat) (f:Nat→Bool):List T3:=((List.range M).filter f).map (sN R C)
theorem vz (M:Nat):(List.range M).Pairwise (· < ·):=List.pairwise_lt_range
theorem yu (S:j_ L R C)(M:Nat)(f:Nat→Bool):(fS R C M f).Pairwise (fun c d=>HT.lexLt d c=false):=by
 unfold fS
 rw[E7]
 refine((vz M).filter f).imp fun{n m} h=>?_
 cases e:HT.lexLt (sN R C m) (sN R C n) with
 |false=>rfl
 |true=>
  have:=u5 S h
  rw[js _ _ e] at this
  cases this
theorem jV (S:j_ L R C){M:Nat}{ps:List (Nat×V)}(h:Tb M ps){ds:List T3}(p:ds.Perm ((ps.map (·.1)).map (sN R C)))(o:ds.Pairwise (fun c d=>HT.lexLt d c=false)):ds=fS R C M fun n=>(aR ps n).isSome:=by
 refine List.Perm.eq_of_pairwise (le:=fun c d=>HT.lexLt d c=false) (fun a b _ _ h1 h2=>fw a b h2 h1) o (yu S M _) (p.trans ?_)
 unfold fS
 refine List.Perm.map _ ((List.perm_ext_iff_of_nodup h.nd ((List.nodup_range).filter _)).mpr fun n=>?_)
 rw[DO,Ew,cb]
 constructor
 ·intro hn
  obtain⟨q,hq,rfl⟩:=CU.mp hn
  exact⟨h.lt q hq,hn⟩
 ·exact fun z=>z.2
theorem ij {a:Nat}(h:a<16):hashInt (a:Int)=a:=by
 have:∀a<16,hashInt ((a:Nat):Int)=a:=by decide+kernel
 exact this a h
theorem zK (l r c:Nat)(hr:r<16)(hc:c<16):uN (256*l+16*r+c)=reduceHash (Builtin.Tuple.tupleHashOf [(l:Int),(r:Int),(c:Int)]):=by
 have e1:(256*l+16*r+c)/256=l:=by lia
 have e2:(256*l+16*r+c)/16%16=r:=by lia
 have e3:(256*l+16*r+c)%16=c:=by lia
 unfold uN
 rw[e1,e2,e3]
theorem yO(x:List Int):tupleKeyHash (aW P w) (iK x)=reduceHash (Builtin.Tuple.tupleHashOf (x.map hashInt)):=by
 unfold tupleKeyHash iK
 rw[Dq]
 rfl
theorem A6(l r c:Nat)(hl:l<16)(hr:r<16)(hc:c<16):tupleKeyHash (aW P w) (iK [(l:Int),(r:Int),(c:Int)])=uN (256*l+16*r+c):=by
 rw[yO,zK l r c hr hc,C5,C5,C5,List.map_nil,ij hl,ij hr,ij hc]
theorem sL (S:j_ L R C){n:Nat}(h:(n:Int)<L*R*C){P:Program}{w:World}:∃k:Nat,k<1024∧tupleKeyHash (aW P w) (iK (sN R C n))=uN k∧(k:Int)=256*((n:Int)/C/R)+16*((n:Int)/C%R)+(n:Int)%C:=by
 obtain⟨a1,a2,a3,a4,a5,a6⟩:=jF S h
 have:=S.l1
 have:=S.r1
 have:=S.c1
 unfold sN
 revert a1 a2 a3 a4 a5 a6
 generalize (n:Int)/C/R=l
 generalize (n:Int)/C%R=r
 generalize (n:Int)%C=c
 intro a1 a2 a3 a4 a5 a6
 obtain⟨l,rfl⟩:=Eb a1
 obtain⟨r,rfl⟩:=Eb a3
 obtain⟨c,rfl⟩:=Eb a5
 exact⟨256*l+16*r+c,by lia,A6 l r c (by lia) (by lia) (by lia),by lia⟩
theorem xE (S:j_ L R C){P:Program}{w:World}{n m:Nat}(hn:(n:Int)<L*R*C)(hm:(m:Int)<L*R*C)(e:tupleKeyHash (aW P w) (iK (sN R C n))=tupleKeyHash (aW P w) (iK (sN R C m))):n=m:=by
 obtain⟨k,k1,k2,k3⟩:=sL S hn (P:=P) (w:=w)
 obtain⟨j,j1,j2,j3⟩:=sL S hm (P:=P) (w:=w)
 have e:=yx k1 j1 (k2.symm.trans (e.trans j2))
 obtain⟨a1,a2,a3,a4,a5,a6⟩:=jF S hn
 obtain⟨b1,b2,b3,b4,b5,b6⟩:=jF S hm
 have:=S.r1
 have:=S.c1
 refine gj S ?_
 unfold sN
 rw[show(n:Int)/C/R=(m:Int)/C/R by lia,show(n:Int)/C%R=(m:Int)/C%R by lia,show(n:Int)%C=(m:Int)%C by lia]
theorem rH {α β:Type}{f:α→β}:∀{xs:List α},xs.Nodup→(∀a∈xs,∀b∈xs,f a=f b→a=b)→(xs.map f).Nodup
 |[],_,_=>EI
 |x::xs,nd,h=>by
  rw[Ds] at nd
  rw[C5,Ds]
  refine⟨fun z=>?_,rH nd.2 fun a ha b hb=>h a (Dh _ ha) b (Dh _ hb)⟩
  obtain⟨y,hy,e⟩:=CU.mp z
  exact nd.1 ((h y (Dh _ hy) x Dk e)▸hy)
theorem mH{P:Program}{w:World}(g:List cK→Int):∀ps:List (Nat×V),(aX R C ps).map (fun p=>g p.1)=(ps.map (·.1)).map fun n=>g (iK (sN R C n))
 |[]=>rfl
 |p::r=>by
  have:=mH (P:=P) (w:=w) g r
  unfold aX at this⊢
  rw[C5,C5,C5,C5,this]
theorem kf (S:j_ L R C){M:Nat}(hM:(M:Int)=L*R*C){ps:List (Nat×V)}(h:Tb M ps){P:Program}{w:World}:oz P w (aX R C ps):=by
 have a:=mH (P:=P) (w:=w) (R:=R) (C:=C) (tupleKeyHash (aW P w)) ps
 unfold oz
 rw[a]
 refine rH h.nd fun n hn m hm e=>?_
 obtain⟨p,hp,rfl⟩:=CU.mp hn
 obtain⟨q,hq,rfl⟩:=CU.mp hm
 have l1:=h.lt p hp
 have l2:=h.lt q hq
 exact xE S (by lia) (by lia) e
theorem sj {ps:List (Nat×V)}:xo (aX R C ps):=fun p hp=>by
 obtain⟨q,_,rfl⟩:=CU.mp hp
 exact⟨_,rfl⟩
theorem Aj (S:j_ L R C){M:Nat}{ps:List (Nat×V)}(h:Tb M ps):((aX R C ps).map (·.1)).Nodup:=by
 unfold aX
 rw[Dq]
 exact E7.mpr ((E7.mp h.nd).imp fun ne e=>ne (gj S (oh e)))
theorem qg {ps:List (Nat×V)}:(aX R C ps).map (·.1)=((ps.map (·.1)).map (sN R C)).map fun c=>c.map Sum.inl:=by
 unfold aX
 rw[Dq,Dq,Dq];rfl
theorem b_ {ps:List (Nat×V)}:(aX R C ps).length=ps.length:=by unfold aX;rw[CK]
end
theorem bT(s:ax H0 H')(nD:H0 D=none):ax H0 (upd H' D y):=fun b u e=>by
 rw[aj (ak e nD)];exact s _ _ e
section
variable {tc:TT} {t u:TS} {te ta tb td ty:TE} {D:eK} {σ:St} {H:Hp} {a d:Addr} {y v:V} {o:Option V} {K:CJ}
theorem cW (ha:Ev ty σ H y)(hb:Ev td σ H (.ref a))(g:hZ H a y o):Ev (r_ ty td) σ H (.bl (!o.isSome)):=fun _ q=>ha _ (hb _ ⟨a,o,rfl,g,q⟩)
theorem cE(h:ja tc σ H b)(e:b=c):ja tc σ H c:=e▸h
theorem g9(h:Ev te σ H v)(e:v=c):Ev te σ H c:=e▸h
theorem ir(hv:Ev tv σ H v)(hd:Ev td σ H (.ref a))(hy:Ev ty σ H y)(p:fh H a y v H4)(q:u D σ H4):dk (iB td ty tv) u D σ H:=hv _ (hd _ (hy _ ⟨a,H4,rfl,p,q⟩))
theorem rZ(hv:Ev tv σ H v)(hd:Ev td σ H (.ref a))(hy:Ev ty σ H y)(p:fh H a y v H4)(q:D.nx σ H4):iB td ty tv D σ H:=hv _ (hd _ (hy _ ⟨a,H4,rfl,p,q⟩))
theorem kW(h:o6 tl σ H vs)(hz:vs.length≤sizeLine)(q:∀p,H p=none→Q (.ref p) (upd H p (.tup vs))):tu tl σ H Q:=h _ ⟨hz,q⟩
theorem ie(h:o6 tl σ H vs)(hz:vs.length≤sizeLine)(q:∀p,H p=none→Q (.ref p) (upd H p (.lst vs))):qJ tl σ H Q:=h _ ⟨hz,q⟩
theorem oC(h:o6 tl σ H vs)(hz:vs.length≤sizeLine)(q:∀p,H p=none→D.rt (.ref p) (upd H p (.tup vs))):wU (tu tl) D σ H:=h _ ⟨hz,q⟩
theorem cH(h:o6 tl σ H vs)(q:sp vs H Q E0):fT sp [] E0 tl σ H Q:=h _ (by rw[Dw];exact q)
theorem gC (W:Nat→St→Hp→Prop)(h0:∃m,W m σ H)(hs:∀m σ H,W m σ H→∃b,ja tc σ H b∧(b=true→∀N:St→Hp→Prop,(∀m' σ' H',m'<m→W m' σ' H'→N σ' H')→t {D with nx:=N,ct:=N,bk:=u D} σ H)∧(b=false→u D σ H)):
  dk (rC tc t) u D σ H:=wO (D:={D with nx:=u D}) W h0 hs
theorem ki {kvs:List (List cK×V)}(h1:Ev td σ H (.ref d))(h2:Ev ty σ H y)(h3:Ev tz σ H z)(hd:H d=some (.dT kvs))(g:hZ H d y o):Ev (BN K "dict" ve td (cL ty (cL tz fc))) σ H (o.getD z):=
 fun _ q=>h1 _ ⟨.inr (.inr (.inl ⟨rfl,.inr ⟨_,hd⟩⟩)),h2 _ (h3 _ ⟨_,_,_,_,rfl,rfl,g,q⟩)⟩
end
theorem cU:∀{as bs:List Addr} {cs ds:List T3},bN H as cs→bN H bs ds→bN H (as++bs) (cs++ds)
 |_,_,_,_,.nil,t=>t
 |_,_,_,_,.cons h s,t=> .cons h (cU s t)
theorem jg:∀{as:List Addr} {cs:List T3},bN H as cs→∀m,bN H (as.take m) (cs.take m)
 |_,_,.nil,m=>by rw[List.take_nil,List.take_nil];exact .nil
 |_,_,.cons h s,0=> .nil
 |_,_,.cons h s,m+1=> .cons h (jg s m)
theorem sV(ha:Ev ta σ H x)(hb:Ev tb σ H .non):Ev (fb (fun x y H Q=>y=.non∧Q (.bl (!decide (x=.non))) H) ta tb) σ H (.bl (!decide (x=.non))):=fun _ z=>ha _ (hb _ ⟨rfl,z⟩)
theorem yq(h:fT sp [] E0 tl σ H (fun v H1=>tr σ H1 fun vs H2=>sp2 ((v::vs)++[]) H2 Q E0)):fT sp2 [] E0 (cL (fT sp [] E0 tl) tr) σ H Q:=h
theorem iO(h:o6 ta σ H [.int j])(h1: -(2^62)≤j)(h2:j<2^62)(q:jH (fun _ H R=>R (tK 0 j.toNat) H) g tb {D with nx:=u D} σ H):dk (jH (pA ta) g tb) u D σ H:=h _ ⟨j,rfl,h1,h2,q⟩
theorem rW(h:o6 ta σ H [.int j])(h1: -(2^62)≤j)(h2:j<2^62)(q:jH (fun _ H R=>R (tK 0 j.toNat) H) g tb D σ H):jH (pA ta) g tb D σ H:=h _ ⟨j,rfl,h1,h2,q⟩
theorem tm(h:o6 ta σ H [.int i,.int j])(h1: -(2^62)≤i∧i<2^62∧ -(2^62)≤j∧j<2^62)(q:jH (fun _ H R=>R (tK i (j - i).toNat) H) g tb {D with nx:=u D} σ H):dk (jH (zj ta) g tb) u D σ H:=h _ ⟨i,j,rfl,h1,q⟩
theorem y7(h:o6 tl σ H vs)(q:sp vs H (fun x H1=>∃a,x=.ref a∧(∃xs,bg K H1 a xs)∧jH (fun _ H R=>R (uM K a) H) g tb {D with nx:=u D} σ H1) E0):dk (jH (nR K (fT sp [] E0 tl)) g tb) u D σ H:=h _ (by rw[Dw];exact q)
theorem yD(h:o6 tl σ H vs)(q:sp vs H (fun x H1=>∃a,x=.ref a∧(∃xs,bg K H1 a xs)∧jH (fun _ H R=>R (uM K a) H) g tb D σ H1) E0):jH (nR K (fT sp [] E0 tl)) g tb D σ H:=h _ (by rw[Dw];exact q)
theorem jc(h:o6 tl σ H vs)(q:∀Q:VK,Q v H→sp vs H Q E0):Ev (fT sp [] E0 tl) σ H v:=fun Q z=>h _ (by rw[Dw];exact q Q z)
theorem mO(h:ta σ H fun x H1=>tb σ H1 fun y H2=>r x y H2 Q):fb r ta tb σ H Q:=h
def Sb (l:Addr) (H H':Hp):Prop:=∀b o,b≠l→H b=some o→H' b=some o
theorem Sb.refl (l:Addr)(H:Hp):Sb l H H:=fun _ _ _ h=>h
theorem Sb.trans(a:Sb l H H1)(b:Sb l H1 H2):Sb l H H2:=fun c o n h=>b c o n (a c o n h)
theorem Sb.of(s:ax H H'):Sb l H H':=fun b o _ h=>s b o h
theorem Sb.set(s:Sb l H H'):Sb l H (upd H' l y):=fun b o n h=>by rw[aj n];exact s b o n h
theorem AC {xs:List Int}{i:Nat}{x:V}(h:(xs.map V.int)[i]?=some x):∃j,x=.int j∧xs[i]?=some j:=by
 rw[CW] at h
 cases e:xs[i]? with
 |none=>rw[e] at h;cases h
 |some j=>rw[e] at h;exact⟨j,(Option.some.inj h).symm,rfl⟩
theorem bE {α:Type}{xs:List α}{x:α}(h:xs[i]?=some x):xs.take (i+1)=xs.take i++[x]:=by rw[List.take_succ,h];rfl
theorem ip {α β:Type}{F:α→β→Prop}:∀{as bs:List α} {cs ds:List β},Paired F as cs→Paired F bs ds→Paired F (as++bs) (cs++ds)
 |_,_,_,_,.nil,t=>t
 |_,_,_,_,.cons h s,t=> .cons h (ip s t)
theorem AX{Q:Bool→Hp→Prop}(h:ja t σ H a)(e:a=false)(q:u σ H Q):Bl t u σ H Q:=by
 subst e
 exact h _ q
theorem lQ(he:H e=some u){H2:Hp}(s:ax (upd H e (.frz o u)) H2):ax H (upd H2 e u):=fun b w eb=>by
 by_cases hb:b=e
 ·subst hb;rw[he] at eb;cases eb;exact ag
 ·rw[aj hb];exact s _ _ (by rw[aj hb];exact eb)
theorem nS {cs:List T3}:(PyData.list (cs.map fun c=>PyData.tuple (c.map PyData.int))).depth≤60:=by
 have:PyData.depthAll (cs.map fun c=>PyData.tuple (c.map PyData.int))≤1:=gi fun d hd=>by
  obtain⟨c,_,rfl⟩:=CU.mp hd
  exact eP c
 simp only[PyData.depth]
 lia
theorem Ar(h:ja t σ H true)(q:ta σ H Q):BE t ta tb σ H Q:=h _ (lG q)
theorem z_(h:ja t σ H false)(q:tb σ H Q):BE t ta tb σ H Q:=h _ (hU q)
theorem jn(e:H d=some u):ax H (upd (upd H d (.frz o u)) d u):=fun b v z=>by
 by_cases hb:b=d
 ·subst hb;rw[ag,←e,z]
 ·rw[aj hb,aj hb];exact z
theorem eR(h:ja t1 σ H false)(h2:ja t2 σ H b):ja (Bl t1 t2) σ H b:=fun Q q=>h _ (hU (h2 _ q))
theorem eo(h:ja tc σ H true):ja (Bi tc) σ H false:=fun _ q=>h _ q
theorem ku{fs:List (Str×V)}(h:Ev ta σ H (.ref p))(e:H p=some (.ins C dx fs))(c:rG K C)(n:dE K C f)(l:fs.lookup f=some v):Ev (vm K ta f) σ H v:=fun _ q=>h _ ⟨p,C,dx,fs,v,rfl,e,c,n,l,q⟩
theorem tR(np:H p=none)(ndx:H dx=none):ax H (upd (upd H dx (.own p)) p (.ins C dx [])):=fun b o e=>by
 rw[aj (ak e np),aj (ak e ndx)];exact e
theorem cC {as:List Addr}{i:Nat}{x:V}(h:(as.map V.ref)[i]?=some x):∃a,as[i]?=some a∧x=.ref a:=by
 rw[CW] at h
 obtain⟨a,e,z⟩:=Do.mp h
 exact⟨a,e,z.symm⟩
theorem xB{cs ds:List (List cK×V)}(h:si H as cs)(g:si H bs ds):si H (as++bs) (cs++ds):=by
 induction h with
 |nil=>exact g
 |cons r _ ih=>exact .cons r ih
theorem si.mono{cs:List (List cK×V)}(h:si H as cs)(s:∀b xs,H b=some (.tup xs)→H' b=some (.tup xs)):si H' as cs:=Paired.mapP h fun a c ⟨b,e1,e2⟩=>⟨b,s _ _ e1,s _ _ e2⟩
theorem oU(ha:Ev ty σ H y)(hb:Ev td σ H (.ref a))(g:hZ H a y o):Ev (AS ty td) σ H (.bl o.isSome):=fun _ q=>ha _ (hb _ ⟨a,o,rfl,g,q⟩)
def fW (H H':Hp) (p:Addr):Prop:=∀b o,b≠p→H b=some o→H' b=some o
theorem fW.same(s:ax H H1)(n:H p=none)(b:fW H1 H2 p):ax H H2:=fun a o e=>b a o (ak e n) (s a o e)
theorem fW.st(b:fW H H1 p)(s:ax H1 H2):fW H H2 p:=fun a o n e=>s _ _ (b a o n e)
theorem fW.up(b:fW H H1 p):fW H (upd H1 p o) p:=fun a u n e=>by rw[aj n];exact b a u n e
theorem fW.of(s:ax H H1):fW H H1 p:=fun a o _ e=>s _ _ e
theorem cc(h:bN H as cs):∀{i:Nat} {a:Addr},as[i]?=some a→∃c,cs[i]?=some c∧H a=some (.tup (c.map V.int)):=by
 induction h with
 |nil=>intro i a e;simp at e
 |cons r _ ih=>
  intro i a e
  cases i with
  |zero=>simp at e;subst e;exact⟨_,by simp,r⟩
  |succ i=>simp at e;obtain⟨p,h1,h2⟩:=ih e;exact⟨p,by simpa using h1,h2⟩
theorem x_ {x y w a b c:Int}(x0:0≤x)(x1:x≤a)(y0:0≤y)(y1:y≤b)(w0:0≤w)(w1:w≤c)(h:a*b*c≤128):x*y*w≤128:=
 Int.le_trans (Int.mul_le_mul (Int.mul_le_mul x1 y1 y0 (by lia)) w1 w0 (Int.mul_nonneg (by lia) (by lia))) h
theorem pq(h:te σ H D.rt):wU te D σ H:=h
theorem c_(s:ax H H')(n:H' t=none):H t=none:=by
 cases e:H t with
 |none=>rfl
 |some o=>rw[s _ _ e] at n;cases n
section
variable {K:CJ} {σ σ0:St} {H H1:Hp} {D a:Addr} {g:TG} {tt:TT} {te t0:TE} {ta:TA} {n:Nat} {ix:List Nat} {as:List Addr} {cs:List T3}
theorem uW(h:Ev t0 σ H (.ref a))(ha:bg K H a xs)(q:∀D,H D=none→vU (qA n ix σ) g tt te (uM K a) H D fun H'=>Q (.ref D) H'):Bm (nR K t0) n ix g tt te σ H Q:=h _ ⟨a,rfl,⟨_,ha⟩,q⟩
theorem bX(hD:H' D=some (.lst zs))(nt:H' t=none):∀b xs,H' b=some (.tup xs)→upd (upd H' t o) D (.lst y) b=some (.tup xs):=fun b xs e=>by
 rw[aj (cN e hD (fun z=>nomatch z)),aj (ak e nt)];exact e
theorem bU(hD:H' D=some (.lst zs)):∀b xs,H' b=some (.tup xs)→upd H' D (.lst y) b=some (.tup xs):=fun b xs e=>by
 rw[aj (cN e hD (fun z=>nomatch z))];exact e
theorem aB(h:bN H as cs)(s:∀b xs,H b=some (.tup xs)→H' b=some (.tup xs)):bN H' as cs:=Paired.mapP h fun a c e=>s _ _ e
def wt (H:Hp) (q:Addr) (x:T3×Int):Prop:=∃b,H q=some (.tup [.ref b,.int x.2])∧H b=some (.tup (x.1.map V.int))
theorem cQ{xs:List (T3×Int)}(h:Paired (wt H) qs xs)(s:∀b ys,H b=some (.tup ys)→H' b=some (.tup ys)):Paired (wt H') qs xs:=Paired.mapP h fun _ _ ⟨b,e1,e2⟩=>⟨b,s _ _ e1,s _ _ e2⟩
theorem pB(f:T3→Bool)(v:T3→Int)(bC:List (Option V))(nD:H1 D=none)(hm:∀H',ax H1 H'→bg K H' a (as.map V.ref))(ht:bN H1 as cs)(hz:as.length≤1000)
  (hc:∀b c H',c∈cs→H1 b=some (.tup (c.map V.int))→ax H1 H'→ja tt (some (.ref b)::bC) H' (f c)∧(f c=true→Ev tv (some (.ref b)::bC) H' (.int (v c))))
  (q:∀H' bs,ax H1 H'→H' D=some (.lst (bs.map V.ref))→Paired (wt H') bs ((cs.filter f).map fun c=>(c,v c))→Q H'):vU (none::bC) (eL 0) tt (tu (cL (bQ 0) (cL tv fc))) (uM K a) H1 D Q:=by
 have len:as.length=cs.length:=Paired.length ht
 have k:sizeLine=2^24:=rfl
 refine dN (K:=K) (xs:=as.map V.ref) (fun i τ H'=>∃(x0:Option V) (bs:List Addr),τ=x0::bC∧ax H1 H'∧H' D=some (.lst (bs.map V.ref))∧Paired (wt H') bs (((cs.take i).filter f).map fun c=>(c,v c))∧bs.length≤i) ⟨none,[],rfl,(ax.refl H1).upd nD,ag,.nil,CM _⟩ (fun i τ H' _ ⟨_,_,_,s,_⟩=>hm _ s) ?_ ?_
 ·rintro i x τ H' hx ⟨x0,bs,rfl,s,hD,d,hl⟩
  obtain⟨b,hb,rfl⟩:=cC hx
  obtain⟨c,g,e⟩:=cc ht hb
  have hi:i<as.length:=(C7.mp hb).1
  obtain⟨ev,j⟩:=hc b c H' (C2 g) e s
  refine gn (ev _ ?_)
  cases hf:f c with
  |true=>
   refine lG ?_
   refine kW (vs:=[.ref b,.int (v c)]) (ah (ae rfl) (ah (j hf) ay)) (by show 2≤sizeLine;decide) fun t nt=>?_
   have h:t≠D:=CQ (ak hD nt)
   refine⟨bs.map V.ref,by rw[aj (CQ h)];exact hD,by rw[CK];lia,_,bs++[t],rfl,bT (s.upd nt) nD,by rw[ag,C3];rfl,?_,by rw[C_];show bs.length+1≤_;lia⟩
   rw[bE g,DH,DJ hf,C3]
   exact ip (cQ d (bX hD nt)) (.cons ⟨b,by rw[aj h,ag],bX hD nt _ _ (s _ _ e)⟩ .nil)
  |false=>
   refine hU ⟨_,bs,rfl,s,hD,?_,by lia⟩
   rw[bE g,DH,DK (by rw[hf];decide),EF,Dw]
   exact d
 ·rintro τ H' ⟨x0,bs,rfl,s,hD,d,hl⟩
  rw[CK,len,DR] at d
  exact q H' bs s hD d
theorem qQ(h:o6 ta σ H [.int j])(h1: -(2^62)≤j)(h2:j<2^62)(q:∀D,H D=none→vU (qA n ix σ) g tt te (tK 0 j.toNat) H D fun H'=>u E (σ.set i (some (.ref D))) H'):dk (qZ (pA ta) n ix g tt te i) u E σ H:=h _ ⟨j,rfl,h1,h2,q⟩
end
theorem sX(P:V→Hp→Prop)(h:∀Q:VK,(∀v H1,P v H1→Q v H1)→te σ H Q)(q:∀v H1,P v H1→u D (σ.set n (some v)) H1):dk (iI te (eL n)) u D σ H:=h _ q
theorem pU(h:tv σ H fun v H1=>td σ H1 fun x H2=>ty σ H2 fun y H3=>∃a H4,x=.ref a∧fh H3 a y v H4∧D.nx σ H4):iB td ty tv D σ H:=h
theorem iE {κ:Type} [DecidableEq κ]{kvs:List (κ×V)}{k:κ}{v:V}{p:κ×V}(h:p∈bF kvs k v):p∈kvs∨p=(k,v):=by
 cases e:aR kvs k with
 |none=>rw[kD _ e] at h;exact(Dm.mp h).imp id CP.mp
 |some w=>
  have:(kvs.any fun kv=>decide (kv.1=k))=true:=by rw[dc,e];rfl
  unfold bF at h
  rw[if_pos this] at h
  obtain⟨q,hq,rfl⟩:=CU.mp h
  by_cases z:q.1=k
  ·rw[if_pos z];right;rw[z]
  ·rw[if_neg z];exact .inl hq
theorem AB(ha:Ev ta σ H x)(hb:Ev tb σ H x)(s:yB x x=true):Ev (fb BV ta tb) σ H (.bl false):=fun Q q=>ha _ (hb _ ⟨s,by rw[decide_eq_true rfl];exact q⟩)
theorem wH (ns:List Int):(PyData.tuple (ns.map PyData.int)).depth≤60:=Df (eP ns) (by decide)
def Bt (ls:List Addr) (H H':Hp):Prop:=∀b o,b∉ls→H b=some o→H' b=some o
theorem Bt.refl (ls:List Addr)(H:Hp):Bt ls H H:=fun _ _ _ h=>h
theorem Bt.same(h:Bt ls H H1)(s:ax H1 H2):Bt ls H H2:=fun b o n e=>s _ _ (h b o n e)
theorem Bt.set(h:Bt ls H H')(m:l∈ls):Bt ls H (upd H' l y):=fun b o n e=>by
 have nb:b≠l:=fun z=>n (by rw[z];exact m)
 rw[aj nb];exact h b o n e
theorem wI(h:tv σ H fun v H1=>td σ H1 fun x H2=>ty σ H2 fun y H3=>∃a H4,x=.ref a∧fh H3 a y v H4∧u D σ H4):dk (iB td ty tv) u D σ H:=h
theorem eS{Q:List V→Hp→Prop}(h:o6 tl σ H vs)(hz:vs.length≤sizeLine)(q:∀p,H p=none→tr σ (upd H p (.tup vs)) fun xs H2=>Q (.ref p::xs) H2):cL (tu tl) tr σ H Q:=h _ ⟨hz,q⟩
theorem yG(h:ta σ H fun xs H1=>xs.length≤sizeLine∧∀p,H1 p=none→D.rt (.ref p) (upd H1 p (.lst xs))):wU (qJ ta) D σ H:=h
theorem zm (i j:Int):(if j<i then j else i)=min i j:=by simp only[Int.min_def];split<;>split<;>lia
theorem eh {α β:Type}{F:α→β→Prop}{as:List α}{cs:List β}(h:Paired F as cs):∀{i:Nat} {a:α},as[i]?=some a→∃c,cs[i]?=some c∧F a c:=by
 induction h with
 |nil=>intro i a e;simp at e
 |cons r _ ih=>
  intro i a e
  cases i with
  |zero=>simp at e;subst e;exact⟨_,by simp,r⟩
  |succ i=>simp at e;obtain⟨p,h1,h2⟩:=ih e;exact⟨p,by simpa using h1,h2⟩
theorem oI {α:Type}:∀{l:List α} {i:Nat} {a:α},l.Nodup→l[i]?=some a→a∉l.take i
 |[],_,_,_,h=>by simp at h
 |x::l,0,a,_,_=>by simp
 |x::l,i+1,a,nd,h=>by
  rw[Ds] at nd
  have h':l[i]?=some a:=by simpa using h
  rw[List.take_succ_cons,CV]
  rintro(e|m)
  ·exact nd.1 (e▸C2 h')
  ·exact oI nd.2 h' m
theorem xl(h:Ev te σ H v)(q:g v σ H (u D)):dk (iI te g) u D σ H:=h _ q
theorem yk(h:Ev te σ H v)(q:g v σ H D.nx):iI te g D σ H:=h _ q
theorem om {cs:List Int}{i:Int}(h0:0≤i)(h1:i<cs.length):∃c,je (cs.map V.int) i=some (.int c)∧sO (cs.map V.int).length i=some i.toNat:=by
 obtain⟨n,rfl⟩:=Eb h0
 have hi:n<cs.length:=by lia
 refine⟨cs[n],cA ?_,?_⟩
 ·rw[CW,Dd hi];rfl
 ·unfold sO
  rw[if_pos h0,if_pos (by rw[CK];exact h1)]
theorem xW {r c i j k:Nat}(hj:j<r)(hk:k<c):sN (r:Int) (c:Int) (i*(r*c)+j*c+k)=[(i:Int),(j:Int),(k:Int)]:=by
 have e0:i*(r*c)+j*c+k=k+c*(j+r*i):=by
  rw[Nat.mul_add,Nat.mul_comm c j,←Nat.mul_assoc c r i,Nat.mul_comm c r,Nat.mul_comm (r*c) i];lia
 have e1:(i*(r*c)+j*c+k)/c=j+r*i:=by
  rw[e0,Nat.add_mul_div_left _ _ (by lia),Nat.div_eq_of_lt hk,Nat.zero_add]
 have e2:(i*(r*c)+j*c+k)%c=k:=by
  rw[e0,Nat.add_mul_mod_self_left,Nat.mod_eq_of_lt hk]
 have e3:(j+r*i)/r=i:=by rw[Nat.add_mul_div_left _ _ (by lia),Nat.div_eq_of_lt hj,Nat.zero_add]
 have e4:(j+r*i)%r=j:=by rw[Nat.add_mul_mod_self_left,Nat.mod_eq_of_lt hj]
 unfold sN
 rw[←Int.natCast_ediv,←Int.natCast_ediv,←Int.natCast_emod,←Int.natCast_emod,e1,e2,e3,e4]
theorem wV(h:te σ H fun x H1=>∃j:Int,[x]=[.int j]∧ -(2^62)≤j∧j<2^62∧jH (fun _ H R=>R (tK 0 j.toNat) H) g tb {D with nx:=u D} σ H1):dk (jH (pA (cL te fc)) g tb) u D σ H:=h
theorem pV(h:te σ H fun v H1=>tr σ H1 fun vs H2=>sp ((v::vs)++[]) H2 Q E0):fT sp [] E0 (cL te tr) σ H Q:=h
noncomputable def top (i:Nat):Stmt:=PySem.Challenge.pw_wirefloor_k25_whole_cheapest.main.body.getD i (.Pass ⟨0,0,0,0⟩)
abbrev gJ:Stmt:=top 17
abbrev gT:Stmt:=top 21
abbrev gF:Stmt:=top 22
abbrev eZ:Stmt:=top 23
abbrev eW:Stmt:=top 24
abbrev jq:Stmt:=top 25
abbrev df:Stmt:=dG (top 26) 0
abbrev gW:Stmt:=dG (top 26) 5
abbrev gK:Stmt:=dG (top 26) 7
abbrev gM:Stmt:=dG (top 26) 9
abbrev jh:Stmt:=dG (top 26) 10
abbrev fv:Stmt:=top 13
abbrev fG:Stmt:=top 14
abbrev mK:Stmt:=dG (top 8) 0
abbrev nj:Stmt:=dG (top 8) 1
abbrev uf:Stmt:=dG (top 8) 2
abbrev nq:Stmt:=dG (top 8) 4
abbrev mF:Stmt:=dG (top 8) 3
abbrev gH:Stmt:=top 10
abbrev tW:Stmt:=top 11
abbrev jm:Stmt:=top 15
abbrev mQ:Stmt:=top 28
abbrev gO:Stmt:=top 29
abbrev jv:Stmt:=top 30
abbrev jt:Stmt:=top 31
abbrev jG:Stmt:=top 32
abbrev gE:Stmt:=top 33
abbrev gR:Stmt:=top 34
abbrev ny:Stmt:=top 35
abbrev nO:Stmt:=top 36
abbrev gU:Stmt:=top 37
abbrev mE:Stmt:=top 38
abbrev m9:Stmt:=top 39
abbrev gZ:Stmt:=top 40
abbrev fj:Stmt:=top 41
abbrev jB:Stmt:=top 42
abbrev nC:Stmt:=top 43
abbrev jb:Stmt:=top 44
abbrev ly:Stmt:=top 45
structure eV (K:CJ) (mg:Str→Option Value) (cFloor cHeap cMS:Addr):Prop where
 len_:mg "len" =none
 range_:mg "range" =none
 isinstance_:mg "isinstance" =none
 int_:mg "int" =none
 bool_:mg "bool" =none
 tuple_:mg "tuple" =none
 list_:mg "list" =none
 dict_:mg "dict" =none
 sorted_:mg "sorted" =none
 zip_:mg "zip" =none
 min_:mg "min" =none
 max_:mg "max" =none
 abs_:mg "abs" =none
 sum_:mg "sum" =none
 reversed_:mg "reversed" =none
 any_:mg "any" =none
 cl_Floor:rG K cFloor
 mg_Floor:mg "Floor" =some (.ref cFloor)
 na_Floor_sizes:dE K cFloor "sizes"
 na_Floor_prices:dE K cFloor "prices"
 na_Floor_vias:dE K cFloor "vias"
 na_Floor_rocks:dE K cFloor "rocks"
 na_Floor_tolls:dE K cFloor "tolls"
 cl_Heap:rG K cHeap
 mg_Heap:mg "Heap" =some (.ref cHeap)
 na_Heap_pairs:dE K cHeap "pairs"
 g_MOST_PRICE:∃u,mg "MOST_PRICE" =some u∧aT (.int 1000000000000) u
 g_MOST_SIZES:∃u,mg "MOST_SIZES" =some u∧aT (.ref cMS) u
 t_MOST_SIZES:∀H:Hp,bH K H cMS [.int 4,.int 16,.int 16]
 ii:DT K (.type "int") (.type "int")=some true
 ib:DT K (.type "int") (.type "bool")=some false
 ll:DT K (.type "list") (.type "list")=some true
 tt:DT K (.type "tuple") (.type "tuple")=some true
 dd:DT K (.type "dict") (.type "dict")=some true
noncomputable def Cq (ts:List (Nat×V)) (n:Nat):Int:=match aR ts n with
 |some (.int i)=>i
 |_=>0
structure Gd where
 L:Int
 R:Int
 C:Int
 M:Nat
 ps:List T3
 vs:List Int
 rs:List Nat
 ts:List (Nat×V)
def TV (ts:List (Nat×V)):Prop:=∀p∈ts,∃i:Int,p.2=.int i∧0≤i∧i≤1000000000000
def PP (ps:List T3):Prop:=∀c∈ps,∃a b:Int,c=[a,b]∧1≤a∧a≤1000000000000∧1≤b∧b≤1000000000000
structure cX (g:Gd):Prop where
 S:j_ g.L g.R g.C
 M:(g.M:Int)=g.L*g.R*g.C
 m:g.M≤128
 pl:(g.ps.length:Int)=g.L
 pp:PP g.ps
 vl:(g.vs.length:Int)=g.L - 1
 vv:∀v∈g.vs,1≤v∧v≤1000000000000
 rl:g.rs.length≤63
 rr:∀n∈g.rs,n<g.M
 tt:Tb g.M g.ts
 tv:TV g.ts
def lL (H:Hp) (b:Addr) (x y w:Int):Prop:=H b=some (.tup [.int x,.int y,.int w])
def eQ (H:Hp) (l:Addr) (cs:List T3):Prop:=∃as:List Addr,H l=some (.lst (as.map V.ref))∧bN H as cs
theorem uv(h:bN H as cs)(s:∀b xs,H b=some (.tup xs)→H' b=some (.tup xs)):bN H' as cs:=Paired.mapP h fun a c e=>s _ _ e
theorem eQ.same(h:eQ H l cs)(s:ax H H'):eQ H' l cs:=by
 obtain⟨as,h1,h2⟩:=h
 exact⟨as,s _ _ h1,uv h2 fun b xs e=>s _ _ e⟩
structure zC (H:Hp) (z pr vi ro td:Addr) (g:Gd):Prop where
 z:lL H z g.L g.R g.C
 pr:eQ H pr g.ps
 vi:H vi=some (.lst (g.vs.map V.int))
 ro:eQ H ro (g.rs.map (sN g.R g.C))
 td:H td=some (.dT (aX g.R g.C g.ts))
theorem zC.same {H H':Hp}{z pr vi ro td:Addr}{g:Gd}(h:zC H z pr vi ro td g)(s:ax H H'):zC H' z pr vi ro td g:=⟨s _ _ h.z,h.pr.same s,s _ _ h.vi,h.ro.same s,s _ _ h.td⟩
noncomputable def fF (z pr vi rd td:Addr):List (Str×V):=[("sizes",.ref z),("prices",.ref pr),("vias",.ref vi),("rocks",.ref rd),("tolls",.ref td)]
section
variable {z pr vi rd td:Addr}
theorem Cg:(fF z pr vi rd td).lookup ("sizes" :Str)=some (.ref z):=by kernel_rfl
theorem Cr:(fF z pr vi rd td).lookup ("prices" :Str)=some (.ref pr):=by kernel_rfl
theorem CC:(fF z pr vi rd td).lookup ("vias" :Str)=some (.ref vi):=by kernel_rfl
theorem B_:(fF z pr vi rd td).lookup ("rocks" :Str)=some (.ref rd):=by kernel_rfl
theorem Ca:(fF z pr vi rd td).lookup ("tolls" :Str)=some (.ref td):=by kernel_rfl
theorem Co:(fF z pr vi rd td).lookup ("is_rock" :Str)=none:=by kernel_rfl
theorem CG:(fF z pr vi rd td).lookup ("steps" :Str)=none:=by kernel_rfl
theorem CA:(fF z pr vi rd td).lookup ("is_open" :Str)=none:=by kernel_rfl
theorem BL:(fF z pr vi rd td).lookup ("priced" :Str)=none:=by kernel_rfl
theorem CB:eT "sizes" v []=[(("sizes" :Str),v)]:=by kernel_rfl
theorem CD:eT "prices" v [("sizes",u)]=[(("sizes" :Str),u),("prices",v)]:=by kernel_rfl
theorem Ct:eT "vias" w [("sizes",u),("prices",v)]=[(("sizes" :Str),u),("prices",v),("vias",w)]:=by kernel_rfl
theorem Cu:eT "rocks" x [("sizes",u),("prices",v),("vias",w)]=[(("sizes" :Str),u),("prices",v),("vias",w),("rocks",x)]:=by kernel_rfl
theorem Cn:eT "tolls" y [("sizes",u),("prices",v),("vias",w),("rocks",x)]=[(("sizes" :Str),u),("prices",v),("vias",w),("rocks",x),("tolls",y)]:=by kernel_rfl
end
structure FA (cF:Addr) (H:Hp) (p pr vi rd td:Addr) (g:Gd):Prop where
 ex:∃dx z,H p=some (.ins cF dx (fF z pr vi rd td))∧lL H z g.L g.R g.C
 pr:eQ H pr g.ps
 vi:H vi=some (.lst (g.vs.map V.int))
 rd:H rd=some (.dT (aX g.R g.C (rk g.rs)))
 td:H td=some (.dT (aX g.R g.C g.ts))
theorem FA.same {cF:Addr}{H H':Hp}{p pr vi rd td:Addr}{g:Gd}(h:FA cF H p pr vi rd td g)(s:ax H H'):FA cF H' p pr vi rd td g:=by
 obtain⟨dx,z,h1,h2⟩:=h.ex
 exact⟨⟨dx,z,s _ _ h1,s _ _ h2⟩,h.pr.same s,s _ _ h.vi,s _ _ h.rd,s _ _ h.td⟩
noncomputable def eO (R C:Int) (ts:List (Nat×V)) (c:T3):Int:=match aR (aX R C ts) (iK c) with
 |some (.int i)=>i
 |_=>0
theorem zz(S:j_ L R C){rs:List Nat}{n:Nat}:sN R C n∈rs.map (sN R C)↔n∈rs:=by
 constructor
 ·intro h
  obtain⟨m,hm,e⟩:=CU.mp h
  exact(gj S e)▸hm
 ·exact fun h=>DG h
theorem oR:(mw R C M).length=M:=by unfold mw;rw[CK,FR]
theorem vx{f:Nat→Bool}(h:c∈fS R C M f):∃n,n<M∧f n=true∧c=sN R C n:=by
 obtain⟨n,hn,e⟩:=CU.mp h
 obtain⟨h1,h2⟩:=DO.mp hn
 exact⟨n,Ew.mp h1,h2,e.symm⟩
def wu (H:Hp) (l:Addr) (xs:List (T3×Int)):Prop:=∃qs:List Addr,H l=some (.lst (qs.map V.ref))∧Paired (wt H) qs xs
theorem wu.same{xs:List (T3×Int)}(h:wu H l xs)(s:ax H H'):wu H' l xs:=by
 obtain⟨qs,h1,h2⟩:=h
 exact⟨qs,s _ _ h1,cQ h2 fun b ys e=>s _ _ e⟩
theorem zC.bt {ls:List Addr}{H H':Hp}{z pr vi ro td:Addr}{g:Gd}(h:zC H z pr vi ro td g)(b:Bt ls H H')(hl:∀l∈ls,∀xs,H l≠some (.tup xs))(n1:pr∉ls)(n2:vi∉ls)(n3:ro∉ls)(n4:td∉ls):zC H' z pr vi ro td g:=by
 have kt:∀a xs,H a=some (.tup xs)→H' a=some (.tup xs):=fun a xs e=>b a _ (fun m=>hl a m _ e) e
 obtain⟨as,e1,e2⟩:=h.pr
 obtain⟨bs,e3,e4⟩:=h.ro
 exact⟨kt _ _ h.z,⟨as,b _ _ n1 e1,aB e2 kt⟩,b _ _ n2 h.vi,⟨bs,b _ _ n3 e3,aB e4 kt⟩,b _ _ n4 h.td⟩
theorem FA.bt {cF:Addr}{ls:List Addr}{H H':Hp}{p pr vi rd td:Addr}{g:Gd}(h:FA cF H p pr vi rd td g)(b:Bt ls H H')(hl:∀l∈ls,(∀xs,H l≠some (.tup xs))∧∀C dx fs,H l≠some (.ins C dx fs))(n1:pr∉ls)(n2:vi∉ls)(n3:rd∉ls)(n4:td∉ls):FA cF H' p pr vi rd td g:=by
 have kt:∀a xs,H a=some (.tup xs)→H' a=some (.tup xs):=fun a xs e=>b a _ (fun m=>(hl a m).1 _ e) e
 obtain⟨dx,z,h1,h2⟩:=h.ex
 obtain⟨as,e1,e2⟩:=h.pr
 exact⟨⟨dx,z,b _ _ (fun m=>(hl p m).2 _ _ _ h1) h1,kt _ _ h2⟩,⟨as,b _ _ n1 e1,aB e2 kt⟩,b _ _ n2 h.vi,b _ _ n3 h.rd,b _ _ n4 h.td⟩
def Bd (x y w:Int):Prop:=(-10000000000000≤x∧x≤10000000000000)∧(-10000000000000≤y∧y≤10000000000000)∧(-10000000000000≤w∧w≤10000000000000)
def iY:Sp:=fun vs H Q _=>∃(a b:Addr) (L R C l r c:Int),vs=[.ref a,.ref b]∧lL H a L R C∧lL H b l r c∧Q (.bl (decide (kR L R C l r c))) H
def lZ:Sp:=fun vs H Q _=>∃(z pr vi:Addr) (L R C:Int) (xs ys:List V),vs=[.ref z,.ref pr,.ref vi]∧lL H z L R C∧j_ L R C∧H pr=some (.lst xs)∧(xs.length:Int)=L∧H vi=some (.lst ys)∧(ys.length:Int)=L - 1∧∀H',ax H H'→Q .non H'
def lz:Sp:=fun vs H Q _=>∃x m:Int,vs=[.int x,.int m]∧m≤x∧x≤1000000000000∧Q .non H
def jr:Sp:=fun vs H Q _=>∃(pr vi d:Addr) (ps:List T3) (ws:List Int) (kvs:List (List cK×V)),vs=[.ref pr,.ref vi,.ref d]∧eQ H pr ps∧PP ps∧H vi=some (.lst (ws.map V.int))∧(∀v∈ws,1≤v∧v≤1000000000000)∧H d=some (.dT kvs)∧
 (∀p∈kvs,∃i:Int,p.2=.int i∧0≤i∧i≤1000000000000)∧∀H',ax H H'→Q .non H'
def BZ (H:Hp) (r:V) (g:Gd):Prop:=(r=.non∧g.rs=[])∨∃ro,r=.ref ro∧eQ H ro (g.rs.map (sN g.R g.C))
def Bp (H:Hp) (t:V) (g:Gd):Prop:=(t=.non∧g.ts=[])∨∃td,t=.ref td∧H td=some (.dT (aX g.R g.C g.ts))
def oH (cF:Addr):Sp:=fun vs H Q _=>∃(p dx z pr vi:Addr) (r t:V) (g:Gd),vs=[.ref p,.ref z,.ref pr,.ref vi,r,t]∧H p=some (.ins cF dx [])∧cX g∧lL H z g.L g.R g.C∧eQ H pr g.ps∧H vi=some (.lst (g.vs.map V.int))∧BZ H r g∧Bp H t g∧
 ∀(H':Hp) (pr' vi' rd' td':Addr),fW H H' p→H pr'=none→H vi'=none→H rd'=none→H td'=none→FA cF H' p pr' vi' rd' td' g→Q .non H'
def gX:Sp:=fun vs H Q _=>∃(a b:Addr) (L R C l r c:Int),vs=[.ref a,.ref b]∧lL H a L R C∧lL H b l r c∧kR L R C l r c∧Q .non H
noncomputable def nV (x y w:Int):List T3:=[[x - 1,y,w],[x,y - 1,w],[x,y,w - 1],[x,y,w+1],[x,y+1,w],[x+1,y,w]]
noncomputable def gB (x y w:Int):List T3:=[[x+1,y,w],[x - 1,y,w],[x,y+1,w],[x,y - 1,w],[x,y,w+1],[x,y,w - 1]]
noncomputable def eg (g:Gd) (c:T3):Bool:=decide (kR g.L g.R g.C (c.getD 0 0) (c.getD 1 0) (c.getD 2 0))
def qD (g:Gd) (c:T3):Bool:=decide (c∈g.rs.map (sN g.R g.C))
theorem lN(ps:List (Nat×V))(c:T3):(aR (aX R C ps) (iK c)).isSome=decide (c∈(ps.map (·.1)).map (sN R C)):=by
 rw[Em,cb,qg,decide_eq_true_eq]
 constructor
 ·intro h
  obtain⟨d,hd,e⟩:=CU.mp h
  exact(oh (show iK d=iK c from e))▸hd
 ·intro h
  exact CU.mpr ⟨c,h,rfl⟩
theorem tq:n∈(rk rs).map (·.1)↔n∈rs:=by
 rw[←cb,zE,decide_eq_true_eq]
theorem zo(_:j_ L R C)(rs:List Nat)(c:T3):(aR (aX R C (rk rs)) (iK c)).isSome=decide (c∈rs.map (sN R C)):=by
 rw[lN]
 refine decide_eq_decide.mpr ⟨fun h=>?_,fun h=>?_⟩
 ·obtain⟨n,hn,e⟩:=CU.mp h
  exact CU.mpr ⟨n,tq.mp hn,e⟩
 ·obtain⟨n,hn,e⟩:=CU.mp h
  exact CU.mpr ⟨n,tq.mpr hn,e⟩
theorem gY{ts:List (Nat×V)}(h:TV ts)(c:T3):(aR (aX R C ts) (iK c)).getD (.int 0)=.int (eO R C ts c):=by
 unfold eO
 cases e:aR (aX R C ts) (iK c) with
 |none=>rfl
 |some v=>
  obtain⟨p,hp,e2⟩:=CU.mp (gI e)
  obtain⟨i,e3,_⟩:=h p hp
  have e4:p.2=v:=congrArg Prod.snd e2
  rw[←e4,e3];rfl
def w9 (g:Gd) (c:T3):Bool:=eg g c&&!qD g c
theorem zF (x y w:Int):(nV x y w).Pairwise (fun c d=>HT.lexLt d c=false):=by
 have lt:∀{c d:T3},HT.lexLt c d=true→HT.lexLt d c=false:=fun h=>js _ _ h
 have l3:∀{a b c a' b' c':Int},(a<a'∨a=a'∧(b<b'∨b=b'∧c<c'))→HT.lexLt [a,b,c] [a',b',c']=true:=fun{a b c a' b' c'} h=>by
  rw[HT.lexLt_cons]
  by_cases e:a=a'
  ·rw[if_pos e,HT.lexLt_cons]
   by_cases e2:b=b'
   ·rw[if_pos e2,HT.lexLt_cons,if_neg (by lia)];exact decide_eq_true (by lia)
   ·rw[if_neg e2];exact decide_eq_true (by lia)
  ·rw[if_neg e];exact decide_eq_true (by lia)
 unfold nV
 simp only[List.pairwise_cons,CV,D9,or_false,forall_eq_or_imp,forall_eq,List.Pairwise.nil,and_true,false_implies,implies_true]
 refine⟨⟨?_,?_,?_,?_,?_⟩,⟨?_,?_,?_,?_⟩,⟨?_,?_,?_⟩,⟨?_,?_⟩,?_⟩<;>exact lt (l3 (by lia))
theorem wq {α:Type} [DecidableEq α](a b c d e f:α):[a,b,c,d,e,f].Perm [b,d,f,e,c,a]:=List.perm_iff_count.mpr fun x=>by
 simp only[List.count_cons,List.count_nil]
 ac_rfl
theorem tE (x y w:Int):(gB x y w).Perm (nV x y w):=wq _ _ _ _ _ _
theorem pf{f:T3→Bool}(p:ds.Perm ((gB x y w).filter f))(o:ds.Pairwise (fun c d=>HT.lexLt d c=false)):ds=(nV x y w).filter f:=
 List.Perm.eq_of_pairwise (le:=fun c d=>HT.lexLt d c=false) (fun a b _ _ h1 h2=>fw a b h2 h1) o ((zF x y w).filter f) (p.trans ((tE x y w).filter f))
noncomputable def bare (g:Gd) (c d:T3):Int:=if c.getD 0 0≠d.getD 0 0 then g.vs.getD (min (c.getD 0 0) (d.getD 0 0)).toNat 0 else if c.getD 1 0=d.getD 1 0 then (g.ps.getD (c.getD 0 0).toNat []).getD 0 0 else (g.ps.getD (c.getD 0 0).toNat []).getD 1 0
noncomputable def dv (g:Gd) (c d:T3):Int:=eO g.R g.C g.ts c+eO g.R g.C g.ts d+bare g c d
noncomputable def ig (c:T3):List T3:=nV (c.getD 0 0) (c.getD 1 0) (c.getD 2 0)
noncomputable def dS (g:Gd) (c:T3):List (T3×Int):=if qD g c=true then [] else ((ig c).filter (w9 g)).map fun d=>(d,dv g c d)
noncomputable def jN (R C:Int) (F:List (Nat×V)) (c:T3):Bool:=(aR (aX R C F) (iK c)).isSome
noncomputable def iT (g:Gd) (F:List (Nat×V)) (c:T3):List (T3×Int):=(dS g c).filter fun x=>jN g.R g.C F x.1
noncomputable def fJ (g:Gd) (F:List (Nat×V)) (c:T3):List (T3×Int):=if jN g.R g.C F c=true then iT g F c else []
def ou:Sp:=fun vs H Q _=>∃(b:Addr) (x y w:Int),vs=[.ref b]∧lL H b x y w∧∀(H':Hp) (l:Addr),ax H H'→H l=none→eQ H' l (nV x y w)→Q (.ref l) H'
def kz (cF:Addr):Sp:=fun vs H Q _=>∃(p pr vi rd td b:Addr) (g:Gd) (x y w:Int),vs=[.ref p,.ref b]∧FA cF H p pr vi rd td g∧cX g∧lL H b x y w∧kR g.L g.R g.C x y w∧Q (.bl (qD g [x,y,w])) H
def kM (cF:Addr):Sp:=fun vs H Q _=>∃(p pr vi rd td b:Addr) (g:Gd) (x y w:Int),vs=[.ref p,.ref b]∧FA cF H p pr vi rd td g∧cX g∧lL H b x y w∧Q (.bl (w9 g [x,y,w])) H
def oG (x y w x' y' w':Int):Prop:=[x',y',w']∈nV x y w
def lO (cF:Addr):Sp:=fun vs H Q _=>∃(p pr vi rd td a b:Addr) (g:Gd) (x y w x' y' w':Int),vs=[.ref p,.ref a,.ref b]∧FA cF H p pr vi rd td g∧cX g∧lL H a x y w∧lL H b x' y' w'∧kR g.L g.R g.C x y w∧kR g.L g.R g.C x' y' w'∧oG x y w x' y' w'∧Q (.int (dv g [x,y,w] [x',y',w'])) H
def n_ (cF:Addr):Sp:=fun vs H Q _=>∃(p pr vi rd td b:Addr) (g:Gd) (x y w:Int),vs=[.ref p,.ref b]∧FA cF H p pr vi rd td g∧cX g∧lL H b x y w∧kR g.L g.R g.C x y w∧∀(H':Hp) (l:Addr),ax H H'→H l=none→wu H' l (dS g [x,y,w])→Q (.ref l) H'
def jK (H:Hp) (e:Addr) (g:Gd) (F:List (Nat×V)):Prop:=∃ls:List (Nat×V),H e=some (.dT (aX g.R g.C ls))∧ls.map (·.1)=F.map (·.1)∧∀q∈ls,∃l,q.2=.ref l∧wu H l (iT g F (sN g.R g.C q.1))
def jo (cF:Addr):Sp:=fun vs H Q _=>∃(p pr vi rd td e:Addr) (g:Gd) (F:List (Nat×V)),vs=[.ref p,.ref e]∧FA cF H p pr vi rd td g∧cX g∧H e=some (.dT (aX g.R g.C F))∧Tb g.M F∧e≠rd∧e≠td∧∀(H':Hp) (d:Addr),ax H H'→H d=none→jK H' d g F→Q (.ref d) H'
noncomputable def AD:Expr:=match (aE fG).getD 1 (.Pass ⟨0,0,0,0⟩) with
 | .Return (some e) _=>e
 |_=> .Name "x" ⟨0,0,0,0⟩
noncomputable def o7:Arguments:=match AD with
 | .Lambda p _ _ _=>p
 |_=>aG ly
def kX:Expr:=match AD with
 | .Lambda _ b _ _=>b
 |e=>e
noncomputable def jQ:Scope:=match AD with
 | .Lambda _ _ s _=>s
 |_=>au ly
def qj:Str:=(("arcs_in" :Str)++ ".<locals>.")++ "<lambda>"
def zX (K:CJ):TE:=zQ (fun xs H Q=>∃p ys,xs=[.ref p]∧(bg K H p ys∨bH K H p ys)∧∀l,H l=none→Q (.ref l) (upd H l (.lst ys))) (cL (BN K "dict" ve (bQ 1) (cL (bQ 0) (cL (qJ fc) fc))) fc)
theorem BS (c:Addr):iD ["spot"] [("leads",c)] jQ:=by
 have fr:∀p∈jQ.names,p.2=.free→p.1= "leads" :=by decide+kernel
 have one:∀(x:Str) (d:Addr),([("leads",c)]:List (Str×Addr)).lookup x=some d→x= "leads" :=fun x d h=>by
  have:=PySem.mem_of_lookup h
  rw[CP] at this
  exact congrArg Prod.fst this
 refine⟨rfl,rfl,rfl,by decide+kernel,by decide+kernel,fun x hx=>?_,fun x hx=>?_,?_,fun x y d h1 h2=>by rw[one x d h1,one y d h2]⟩
 ·rw[show x= "leads" from fr _ (PySem.mem_of_lookup hx) rfl]
  exact⟨c,by simp⟩
 ·rw[show x= "leads" from CP.mp hx]
  decide+kernel
 ·show(["spot", "leads"]:List Str).Nodup
  decide+kernel
theorem BX (s:Shared)(us:List Value)(c c':Addr)(pm ctv:Value)(h:us.length=1):BindsTo s (PySem.W.kla_fn "<lambda>" qj o7 kX jQ [("leads",c)] pm (.ref c') ctv) ⟨us,[]⟩ ((["spot"]:List Str).zip us):=by
 match us,h with
 |[u],_=>exact .of_eq rfl
def iy (mg:Str→Option Value) (H:Hp) (f:Addr) (g:Gd) (F:List (Nat×V)) (e:Addr):Prop:=∃(c c':Addr) (ctv:Value) (oc o:Obj) (rd:Addr),rd≠e∧
 H f=some (iS f (EM "<lambda>" qj o7 kX jQ [("leads",c)] ((mg "__name__").getD .none) c' ctv))∧H c'=some (iS c' oc)∧kL oc c' qj∧H c=some (iS c o)∧o.data=.cell (some (.ref rd))∧jK H rd g F
theorem jK.same{F:List (Nat×V)}(h:jK H e g F)(s:ax H H'):jK H' e g F:=by
 obtain⟨ls,h1,h2,h3⟩:=h
 exact⟨ls,s _ _ h1,h2,fun q hq=>let ⟨l,e1,e2⟩:=h3 q hq;⟨l,e1,e2.same s⟩⟩
theorem jK.keep{F:List (Nat×V)}(h:jK H e g F)(s:∀b x,H b=some x→(∀ps,x≠.tbl ps)→H' b=some x):jK H' e g F:=by
 obtain⟨ls,h1,h2,h3⟩:=h
 refine⟨ls,s _ _ h1 (fun _ z=>nomatch z),h2,fun q hq=>?_⟩
 obtain⟨l,e1,qs,e2,e3⟩:=h3 q hq
 exact⟨l,e1,qs,s _ _ e2 (fun _ z=>nomatch z),cQ e3 fun b ys eb=>s _ _ eb (fun _ z=>nomatch z)⟩
theorem iy.same{F:List (Nat×V)}(h:iy mg H f g F e)(s:ax H H'):iy mg H' f g F e:=by
 obtain⟨c,c',a,oc,o,rd,h0,h1,h2,h3,h4,h5,h6⟩:=h
 exact⟨c,c',a,oc,o,rd,h0,s _ _ h1,s _ _ h2,h3,s _ _ h4,h5,h6.same s⟩
def Ag (mg:Str→Option Value) (K:CJ) (f:Addr) (vs:List V) (H:Hp) (Q:VK):Prop:=∃(c c':Addr) (ctv:Value) (oc o:Obj) (u:Value) (v:V),H f=some (iS f (EM "<lambda>" qj o7 kX jQ [("leads",c)] ((mg "__name__").getD .none) c' ctv))∧H c'=some (iS c' oc)∧kL oc c' qj∧H c=some (iS c o)∧o.data=.cell (some u)∧aT v u∧
 vs.length=(["spot"]:List Str).length∧zX K (vs.map some++[some v]) (drp H c) fun r H'=>H' c=none→Q r (upd H' c (iS c o))
theorem iy.clear{F:List (Nat×V)}{kvs k2:List (List cK×V)}(h:iy mg H f g F e)(he:H e=some (.dT kvs)):iy mg (upd H e (.dT k2)) f g F e:=by
 obtain⟨c,c',a,oc,o,rd,h0,h1,h2,h3,h4,h5,ls,g1,g2,g3⟩:=h
 have kp:∀{b:Addr} {x:HO},H b=some x→(∀kvs,x≠.dT kvs)→upd H e (.dT k2) b=some x:=fun{b x} eb nx=>by
  rw[aj (fun z=>by rw[z,he] at eb;cases eb;exact nx _ rfl)];exact eb
 refine⟨c,c',a,oc,o,rd,h0,kp h1 (fun _ z=>by cases z),kp h2 (fun _ z=>by cases z),h3,kp h4 (fun _ z=>by cases z),h5,ls,by rw[aj h0];exact g1,g2,fun q hq=>?_⟩
 obtain⟨l,e1,qs,e2,e3⟩:=g3 q hq
 exact⟨l,e1,qs,kp e2 (fun _ z=>nomatch z),cQ e3 fun b ys eb=>kp eb (fun _ z=>nomatch z)⟩
def B9 (K:CJ) (H:Hp):Prop:=H (dR K "arcs_in").2=some (.tbl #[])
def B4 (K:CJ) (H H':Hp):Prop:=∀b x,b≠(dR K "arcs_in").2→H b=some x→H' b=some x
def kQ (K:CJ) (mg:Str→Option Value) (cF:Addr):Sp:=fun vs H Q _=>∃(p pr vi rd td e:Addr) (g:Gd) (F:List (Nat×V)),vs=[.ref p,.ref e]∧FA cF H p pr vi rd td g∧cX g∧H e=some (.dT (aX g.R g.C F))∧Tb g.M F∧e≠rd∧e≠td∧B9 K H∧
 ∀(H':Hp) (f:Addr),B4 K H H'→iy mg H' f g F e→Q (.ref f) H'
abbrev xR:=Int×List (Nat×V)
noncomputable def ht (h:xR) (n:Nat):Int:=match aR h.2 n with
 |some (.int i)=>i
 |_=>h.1
theorem zY {h:xR}(hv:∀p∈h.2,∃i:Int,p.2=.int i)(n:Nat):(aR h.2 n).getD (.int h.1)=.int (ht h n):=by
 unfold ht
 cases e:aR h.2 n with
 |none=>rfl
 |some v=>
  obtain⟨i,e2⟩:=hv _ (gI e)
  have e2:v=.int i:=e2
  rw[e2];rfl
def ox (R C:Int) (H:Hp) (a:Addr) (h:xR):Prop:=∃d,H a=some (.tup [.int h.1,.ref d])∧H d=some (.dT (aX R C h.2))∧∀p∈h.2,∃i:Int,p.2=.int i
def lV (R C:Int) (H:Hp) (b:Addr) (n:Nat):Prop:=H b=some (.tup ((sN R C n).map V.int))
theorem wo(S:j_ L R C)(F:List (Nat×V))(n:Nat):jN R C F (sN R C n)=(aR F n).isSome:=by unfold jN;rw[cJ S]
theorem u_{F:List (Nat×V)}(S:j_ g.L g.R g.C)(h:iy mg H f g F e0)(hb:lV g.R g.C H b n)
  (q:∀(l:Addr) (H':Hp),ax H H'→H l=none→wu H' l (fJ g F (sN g.R g.C n))→Q (.ref l) H'):Ag mg K f [.ref b] H Q:=by
 obtain⟨c,c',m,oc,o,rd,_,h1,h2,h3,h4,h5,ls,g1,g2,g3⟩:=h
 refine⟨c,c',m,oc,o,.ref rd,.ref rd,h1,h2,h3,h4,h5,rfl,rfl,?_⟩
 have dn:∀{b:Addr} {x:HO},H b=some x→(∀φ,x≠.ext φ)→drp H c b=some x:=fun e n=>fi e h4 (jD n)
 have r:drp H c b=some (.tup ((sN g.R g.C n).map V.int)):=dn hb (fun φ z=>nomatch z)
 have j:=dn g1 (fun φ z=>nomatch z)
 have s:Bo K "dict" (.ref rd) (drp H c):=.inr (.inr (.inl ⟨rfl,.inr ⟨_,j⟩⟩))
 refine⟨_,rfl,s,_,rfl,C8 _,fun el nel=>?_⟩
 have s1:ax (drp H c) (upd (drp H c) el (.lst [])):=(ax.refl _).upd nel
 have e1:upd (drp H c) el (.lst []) el=some (.lst []):=ag
 have k:=dg (.inl (s1 _ _ j)) (s1 _ _ r)
 rw[cJ S] at k
 refine⟨rd,.ref b,.ref el,aR ls n,rfl,rfl,k,?_⟩
 have a:∀(p:Addr) (ys:List Addr),upd (drp H c) el (.lst []) p=some (.lst (ys.map V.ref))→Paired (wt (drp H c)) ys (fJ g F (sN g.R g.C n))→∀l,upd (drp H c) el (.lst []) l=none→upd (upd (drp H c) el (.lst [])) l (.lst (ys.map V.ref)) c=none→Q (.ref l) (upd (upd (upd (drp H c) el (.lst [])) l (.lst (ys.map V.ref))) c (iS c o)):=fun p ys hp hy l nl hcn=>by
  have i:l≠c:=fun z=>by rw[z,ag] at hcn;cases hcn
  have sH:ax H (upd (upd (upd (drp H c) el (.lst [])) l (.lst (ys.map V.ref))) c (iS c o)):=fun b x e=>by
   by_cases z:b=c
   ·rw[z,h4] at e;rw[z,ag];exact e
   ·rw[aj z]
    have e2:drp H c b=some x:=by rw[kU z];exact e
    rw[aj (ak (s1 _ _ e2) nl)]
    exact s1 _ _ e2
  refine q l _ sH ?_ ⟨ys,by rw[aj i,ag],cQ hy fun b xs e=>?_⟩
  ·cases e:H l with
   |none=>rfl
   |some x=>
    have:=s1 _ _ (show drp H c l=some x by rw[kU i];exact e)
    rw[nl] at this;cases this
  ·have nb:b≠c:=fun z=>by rw[z,fy] at e;cases e
   rw[aj nb,aj (ak (s1 _ _ e) nl)]
   exact s1 _ _ e
 have keys:(aR ls n).isSome=jN g.R g.C F (sN g.R g.C n):=by
  rw[wo S,Em,cb,cb,g2]
 unfold fJ at a
 cases e:aR ls n with
 |none=>
  rw[e] at keys
  rw[←keys] at a
  exact⟨el,[],rfl,.inl (bg.of e1),fun l nl=>a el [] e1 .nil l nl⟩
 |some v=>
  rw[e] at keys
  rw[←keys] at a
  obtain⟨l0,d,qs,e2,e3⟩:=g3 _ (gI e)
  have d:v=.ref l0:=d
  subst d
  have e4:=s1 _ _ (dn e2 (fun φ z=>nomatch z))
  exact⟨l0,qs.map V.ref,rfl,.inl (bg.of e4),fun l nl=>a l0 qs e4 (cQ e3 fun b xs e=>dn e (fun φ z=>nomatch z)) l nl⟩
def vQ:Sp:=fun vs H Q _=>∃(a b:Addr) (L R C:Int) (h:xR) (n:Nat),vs=[.ref a,.ref b]∧j_ L R C∧ox R C H a h∧lV R C H b n∧Q (.int (ht h n)) H
def og (K:CJ):Sp:=fun vs H Q _=>∃(a:Addr) (ns:List Int) (i:Int),vs=[.ref a,.int i]∧bg K H a (ns.map V.int)∧0≤i∧∀v:Int,Q (.int v) H
def Cl (H:Hp) (l:Addr):Prop:=∃cs:List Int,H l=some (.lst (cs.map V.int))∧cs.length=16
def lF (K:CJ):Sp:=fun vs H Q _=>∃(a:Addr) (ns:List Int),vs=[.ref a,.int 8,.int 16]∧bg K H a (ns.map V.int)∧ns.length≤63∧∀(H':Hp) (l:Addr),ax H H'→Cl H' l→Q (.ref l) H'
def oS:Sp:=fun vs H Q _=>∃n:Int,vs=[.int n]∧∀z L R C,H z=none→j_ L R C→L*R*C≤128→Q (.ref z) (upd H z (.tup [.int L,.int R,.int C]))
def oX:Sp:=fun vs H Q _=>∃c k:Int,vs=[.int c,.int k]∧∀v:Int,1≤v→v≤1000000000000→Q (.int v) H
def kr:Sp:=fun vs H Q _=>∃(z:Addr) (L R C:Int) (M:Nat),vs=[.ref z]∧lL H z L R C∧j_ L R C∧(M:Int)=L*R*C∧M≤128∧∀(H':Hp) (l:Addr),ax H H'→H l=none→eQ H' l (mw R C M)→Q (.ref l) H'
def GT (H:Hp) (t z ro pr vi td:Addr):Prop:=H t=some (.tup [.ref z,.ref ro,.ref pr,.ref vi,.ref td])
def Gr (H:Hp) (t:Addr) (g:Gd):Prop:=∃z ro pr vi td,GT H t z ro pr vi td∧zC H z pr vi ro td g
theorem Gr.same(h:Gr H t g)(s:ax H H'):Gr H' t g:=by
 obtain⟨z,ro,pr,vi,td,h1,h2⟩:=h
 exact⟨z,ro,pr,vi,td,s _ _ h1,h2.same s⟩
def lj (K:CJ):Sp:=fun vs H Q _=>∃(a cl:Addr) (ns:List Int) (k:Int),vs=[.ref a,.ref cl,.int k]∧bg K H a (ns.map V.int)∧ns.length≤63∧Cl H cl∧∀(H':Hp) (t:Addr) (g:Gd),ax H H'→Gr H' t g→cX g→Q (.ref t) H'
def kG (cF:Addr):Sp:=fun vs H Q _=>∃(t:Addr) (g:Gd),vs=[.ref t]∧Gr H t g∧cX g∧∀(H':Hp) (p pr' vi' rd' td':Addr),ax H H'→H rd'=none→H td'=none→FA cF H' p pr' vi' rd' td' g→Q (.ref p) H'
def rB (K:CJ):Sp:=fun vs H Q _=>∃(t cl:Addr) (g:Gd) (k:Int),vs=[.ref t,.ref cl,.int k]∧Gr H t g∧cX g∧Cl H cl∧∀(H':Hp) (d:Addr) (F:List (Nat×V)),ax H H'→H d=none→H' d=some (.dT (aX g.R g.C F))→Tb g.M F→(∀p∈F,p.2=.bl true)→Q (.ref d) H'
def rf:Sp:=fun vs H Q _=>∃(t b:Addr) (g:Gd) (x y w:Int),vs=[.ref t,.ref b]∧Gr H t g∧cX g∧lL H b x y w∧kR g.L g.R g.C x y w∧∀(H':Hp) (l:Addr),ax H H'→H l=none→eQ H' l ((nV x y w).filter (eg g))→Q (.ref l) H'
def lM:Sp:=fun vs H Q _=>∃(t a b:Addr) (g:Gd) (x y w x' y' w':Int),vs=[.ref t,.ref a,.ref b]∧Gr H t g∧cX g∧lL H a x y w∧lL H b x' y' w'∧kR g.L g.R g.C x y w∧kR g.L g.R g.C x' y' w'∧oG x y w x' y' w'∧Q (.int (dv g [x,y,w] [x',y',w'])) H
def k_:Sp:=fun vs H Q _=>∃(t e b:Addr) (g:Gd) (F:List (Nat×V)) (n:Nat),vs=[.ref t,.ref e,.ref b]∧Gr H t g∧cX g∧Rd H e (.dT (aX g.R g.C F))∧Tb g.M F∧n<g.M∧lV g.R g.C H b n∧∀(H':Hp) (l:Addr),ax H H'→H l=none→wu H' l (fJ g F (sN g.R g.C n))→Q (.ref l) H'
def ju:Sp:=vQ
def oY (H:Hp) (m:V) (l:List Int):Prop:=∃b i j k,m=.ref b∧H b=some (.tup [.int i,.int j,.int k])∧l=[i,j,k]
def sx (H:Hp) (v:V) (k:List Int):Prop:=∃a p m l,v=.ref a∧H a=some (.tup [.int p,m])∧oY H m l∧k=p::l
def TK (H H':Hp):Prop:=∀b xs,H b=some (.tup xs)→H' b=some (.tup xs)
theorem TK.new(h:H a=none):TK H (upd H a o):=fun b xs e=>by rw[aj (ak e h)];exact e
theorem TK.lst(h:H a=some (.lst vs)):TK H (upd H a o):=fun b xs e=>by rw[aj (fun z=>by rw[z,h] at e;cases e)];exact e
theorem oY.kept(h:oY H m l)(k:TK H H'):oY H' m l:=by
 obtain⟨b,i,j,n,e,q,r⟩:=h
 exact⟨b,i,j,n,e,k _ _ q,r⟩
theorem sx.kept(h:sx H m l)(k:TK H H'):sx H' m l:=by
 obtain⟨a,p,m,l,e,q,r,z⟩:=h
 exact⟨a,p,m,l,e,k _ _ q,r.kept k,z⟩
theorem oY.of(h:oY H m l):wd K H m l:=by
 obtain⟨b,i,j,n,e,q,r⟩:=h
 exact⟨b,i,j,n,e,bH.of q,r⟩
theorem sx.of(h:sx H m l):ze K H m l:=by
 obtain⟨a,p,m,l,e,q,r,z⟩:=h
 exact⟨a,p,m,l,e,bH.of q,r.of,z⟩
def iL (H:Hp) (vs:List V) (ks:List (List Int)):Prop:=vs.length=ks.length∧∀(i:Nat) v,vs[i]?=some v→sx H v (ks.getD i [])
theorem iL.kept{ks:List (List Int)}(h:iL H vs ks)(k:TK H H'):iL H' vs ks:=⟨h.1,fun i v e=>(h.2 i v e).kept k⟩
theorem iL.nil (H:Hp):iL H [] []:=⟨rfl,fun i v e=>by cases e⟩
theorem iL.set{ks:List (List Int)}(h:iL H vs ks)(hi:i<vs.length)(hv:sx H v k):iL H (vs.set i v) (ks.set i k):=by
 refine⟨by rw[Es,Es,h.1],fun j w e=>?_⟩
 rw[Hp.get_set (by rw[←h.1];exact hi)]
 rw[List.getElem?_set] at e
 by_cases hj:i=j
 ·rw[if_pos hj] at e⊢
  rw[if_pos hi] at e;cases e;exact hv
 ·rw[if_neg hj] at e⊢
  exact h.2 j w e
theorem iL.snoc{ks:List (List Int)}(h:iL H vs ks)(hv:sx H v k):iL H (vs++[v]) (ks++[k]):=by
 refine⟨by rw[C_,C_,h.1];rfl,fun j w e=>?_⟩
 rw[Dc]
 by_cases hj:j<vs.length
 ·rw[Ef hj] at e
  rw[Ef (by rw[←h.1];exact hj),←Dc]
  exact h.2 j w e
 ·rw[Ee (by lia)] at e
  rw[Ee (by rw[←h.1];lia),←h.1]
  cases ej:j - vs.length with
  |zero=>rw[ej] at e;cases e;exact hv
  |succ n=>rw[ej] at e;cases e
theorem pY:Hp.Ord HT.lexLt:=⟨bV,fw,fu⟩
abbrev lK (ks:List (List Int)):Prop:=Hp.Hpy HT.lexLt [] ks
structure uK (C:Addr) (H:Hp) (p a:Addr) (vs:List V):Prop where
 ob:∃dx,H p=some (.ins C dx [("pairs",.ref a)])
 ls:H a=some (.lst vs)
def rR (H H':Hp) (p a:Addr):Prop:=∀b o,H b=some o→b≠p→b≠a→H' b=some o
def rA (C:Addr):Sp:=fun vs H Q _=>∃(p dx:Addr),vs=[.ref p]∧H p=some (.ins C dx [])∧∀(a:Addr) (H':Hp),H a=none→uK C H' p a []→rR H H' p a→Q .non H'
def oE (C:Addr):Sp:=fun vs H Q _=>∃(p a:Addr) (us:List V),vs=[.ref p]∧uK C H p a us∧Q (.int (us.length:Nat)) H
def pR (C:Addr):Sp:=fun as H Q _=>∃(p a:Addr) (vs:List V) (ks:List (List Int)) (pr:Int) (m:V) (l:List Int),as=[.ref p,.int pr,m]∧uK C H p a vs∧iL H vs ks∧lK ks∧oY H m l∧vs.length≤900∧
 ∀H' vs' ks',uK C H' p a vs'→iL H' vs' ks'→lK ks'→ks'.Perm (ks++[pr::l])→rR H H' p a→Q .non H'
def rg (C:Addr):Sp:=fun as H Q _=>∃(p a:Addr) (vs:List V) (ks:List (List Int)) (x:V) (kx:List Int),as=[.ref p,x]∧uK C H p a vs∧iL H vs ks∧lK ks∧0<vs.length∧sx H x kx∧vs.length≤900∧
 ∀H' vs' ks',uK C H' p a vs'→iL H' vs' ks'→lK ks'→ks'.Perm (ks.set 0 kx)→rR H H' p a→Q .non H'
def qT (C:Addr):Sp:=fun as H Q _=>∃(p a:Addr) (vs:List V) (ks:List (List Int)),as=[.ref p]∧uK C H p a vs∧iL H vs ks∧lK ks∧vs.length≤900∧vs≠[]∧
 (∀v k H' vs' ks',sx H' v k→uK C H' p a vs'→iL H' vs' ks'→lK ks'→(k::ks').Perm ks→(∀z∈ks,HT.lexLt z k=false)→rR H H' p a→Q v H')
theorem rR.refl (H:Hp)(p a:Addr):rR H H p a:=fun _ _ e _ _=>e
theorem rR.tk{fs:List (Str×V)}(h:rR H H' p a)(e1:H p=some (.ins C dx fs))(e2:H a=some (.lst vs)):TK H H':=fun b xs e=>h b _ e (fun z=>by rw[z,e1] at e;cases e) (fun z=>by rw[z,e2] at e;cases e)
theorem fK {vs:List V}{i:Nat}(h:i<vs.length):vs[i]?=some (vs.getD i .non):=by simp[Dc,h]
theorem iL.get{ks:List (List Int)}(h:iL H vs ks){i:Nat}(hi:i<vs.length):sx H (vs.getD i .non) (ks.getD i []):=h.2 i _ (fK hi)
theorem qP {α:Type}{l:List α}{d:α}(h:i<l.length - 1):l.dropLast.getD i d=l.getD i d:=by
 rw[Dc,Dc,List.getElem?_dropLast,if_pos h]
theorem uI {α:Type}{ks:List α}{d:α}(h:2≤ks.length):(ks.getD 0 d::ks.dropLast.set 0 (ks.getD (ks.length - 1) d)).Perm ks:=by
 match ks,h with
 |a::b::r,_=>
  have e1:(a::b::r).dropLast=a::(b::r).dropLast:=rfl
  have e2:(a::b::r).getD ((a::b::r).length - 1) d=(b::r).getLast (by simp):=by
   rw[Dc,List.getLast_eq_getElem]
   simp
  rw[e1,e2]
  show(a::(b::r).getLast (by simp)::(b::r).dropLast).Perm (a::b::r)
  refine List.Perm.cons a ?_
  have e3:=E8 (l:=b::r) (by simp)
  exact((List.perm_append_singleton ((b::r).getLast (by simp)) (b::r).dropLast).symm).trans (by rw[e3])
theorem iL.drop{ks:List (List Int)}(h:iL H vs ks):iL H vs.dropLast ks.dropLast:=by
 refine⟨by rw[Ez,Ez,h.1],fun i v e=>?_⟩
 have hi:i<vs.length - 1:=by
  have:=(C7.mp e).1
  rwa [Ez] at this
 rw[List.getElem?_dropLast,if_pos hi] at e
 rw[qP (by rw[←h.1];exact hi)]
 exact h.2 i v e
theorem lK.drop {ks:List (List Int)}(h:lK ks):lK ks.dropLast:=fun i h0 hi=>by
 rw[Ez] at hi
 rw[qP hi,qP (by simp only[Hp.par];lia)]
 exact h i h0 (by lia)
theorem dQ {α:Type}{bs:List α}{b:α}(h:bs.length≤i):(bs++[b]).length≤i+1:=by rw[C_];exact Nat.succ_le_succ h
theorem cY {α:Type}:∀{us:List α},us.length=n+1→∃a r,us=a::r∧r.length=n
 |[],h=>nomatch h
 |a::r,h=>⟨a,r,rfl,Nat.succ.inj h⟩
theorem mD {α:Type}{us:List α}(h:us.length=0):us=[]:=Fu h
theorem Cp {α:Type}{us:List α}(h:us.length=1):∃a0,us=[a0]:=by
 obtain⟨a0,r0,rfl,h0⟩:=cY h
 cases mD h0
 exact⟨a0,rfl⟩
theorem wZ{st:Stmt}(F:dW K x qual st f fd)(h:∀(kV doc pm:Value) (an:Option Addr) (cdv ct a0:Value),bindArgs (CT x qual (aG st) (aE st) (au st) .none kV doc pm an cdv ct) ⟨[a0],[]⟩=pure ([p0].zip [a0])):cI K fd [p0] []:=F.binds fun kV doc pm an cdv ct us hl=>by
 obtain⟨a0,rfl⟩:=Cp (us:=us) hl
 exact h kV doc pm an cdv ct a0
theorem Cm {α:Type}{us:List α}(h:us.length=2):∃a0 a1,us=[a0,a1]:=by
 obtain⟨a0,r0,rfl,h0⟩:=cY h
 obtain⟨a1,r1,rfl,h1⟩:=cY h0
 cases mD h1
 exact⟨a0,a1,rfl⟩
theorem rL{st:Stmt}(F:dW K x qual st f fd)(h:∀(kV doc pm:Value) (an:Option Addr) (cdv ct a0 a1:Value),bindArgs (CT x qual (aG st) (aE st) (au st) .none kV doc pm an cdv ct) ⟨[a0,a1],[]⟩=pure ([p0,p1].zip [a0,a1])):cI K fd [p0,p1] []:=F.binds fun kV doc pm an cdv ct us hl=>by
 obtain⟨a0,a1,rfl⟩:=Cm (us:=us) hl
 exact h kV doc pm an cdv ct a0 a1
theorem Cv {α:Type}{us:List α}(h:us.length=3):∃a0 a1 a2,us=[a0,a1,a2]:=by
 obtain⟨a0,r0,rfl,h0⟩:=cY h
 obtain⟨a1,r1,rfl,h1⟩:=cY h0
 obtain⟨a2,r2,rfl,h2⟩:=cY h1
 cases mD h2
 exact⟨a0,a1,a2,rfl⟩
theorem wY{st:Stmt}(F:dW K x qual st f fd)(h:∀(kV doc pm:Value) (an:Option Addr) (cdv ct a0 a1 a2:Value),bindArgs (CT x qual (aG st) (aE st) (au st) .none kV doc pm an cdv ct) ⟨[a0,a1,a2],[]⟩=pure ([p0,p1,p2].zip [a0,a1,a2])):cI K fd [p0,p1,p2] []:=F.binds fun kV doc pm an cdv ct us hl=>by
 obtain⟨a0,a1,a2,rfl⟩:=Cv (us:=us) hl
 exact h kV doc pm an cdv ct a0 a1 a2
theorem B6 {α:Type}{us:List α}(h:us.length=4):∃a0 a1 a2 a3,us=[a0,a1,a2,a3]:=by
 obtain⟨a0,r0,rfl,h0⟩:=cY h
 obtain⟨a1,r1,rfl,h1⟩:=cY h0
 obtain⟨a2,r2,rfl,h2⟩:=cY h1
 obtain⟨a3,r3,rfl,h3⟩:=cY h2
 cases mD h3
 exact⟨a0,a1,a2,a3,rfl⟩
theorem Cw{st:Stmt}(F:dW K x qual st f fd)(h:∀(kV doc pm:Value) (an:Option Addr) (cdv ct a0 a1 a2 a3:Value),bindArgs (CT x qual (aG st) (aE st) (au st) .none kV doc pm an cdv ct) ⟨[a0,a1,a2,a3],[]⟩=pure ([p0,p1,p2,p3].zip [a0,a1,a2,a3])):cI K fd [p0,p1,p2,p3] []:=F.binds fun kV doc pm an cdv ct us hl=>by
 obtain⟨a0,a1,a2,a3,rfl⟩:=B6 (us:=us) hl
 exact h kV doc pm an cdv ct a0 a1 a2 a3
theorem B8 {α:Type}{us:List α}(h:us.length=5):∃a0 a1 a2 a3 a4,us=[a0,a1,a2,a3,a4]:=by
 obtain⟨a0,r0,rfl,h0⟩:=cY h
 obtain⟨a1,r1,rfl,h1⟩:=cY h0
 obtain⟨a2,r2,rfl,h2⟩:=cY h1
 obtain⟨a3,r3,rfl,h3⟩:=cY h2
 obtain⟨a4,r4,rfl,h4⟩:=cY h3
 cases mD h4
 exact⟨a0,a1,a2,a3,a4,rfl⟩
theorem Cy{st:Stmt}(F:dW K x qual st f fd)(h:∀(kV doc pm:Value) (an:Option Addr) (cdv ct a0 a1 a2 a3 a4:Value),bindArgs (CT x qual (aG st) (aE st) (au st) .none kV doc pm an cdv ct) ⟨[a0,a1,a2,a3,a4],[]⟩=pure ([p0,p1,p2,p3,p4].zip [a0,a1,a2,a3,a4])):cI K fd [p0,p1,p2,p3,p4] []:=F.binds fun kV doc pm an cdv ct us hl=>by
 obtain⟨a0,a1,a2,a3,a4,rfl⟩:=B8 (us:=us) hl
 exact h kV doc pm an cdv ct a0 a1 a2 a3 a4
theorem Ci {α:Type}{us:List α}(h:us.length=6):∃a0 a1 a2 a3 a4 a5,us=[a0,a1,a2,a3,a4,a5]:=by
 obtain⟨a0,r0,rfl,h0⟩:=cY h
 obtain⟨a1,r1,rfl,h1⟩:=cY h0
 obtain⟨a2,r2,rfl,h2⟩:=cY h1
 obtain⟨a3,r3,rfl,h3⟩:=cY h2
 obtain⟨a4,r4,rfl,h4⟩:=cY h3
 obtain⟨a5,r5,rfl,h5⟩:=cY h4
 cases mD h5
 exact⟨a0,a1,a2,a3,a4,a5,rfl⟩
theorem Cz{st:Stmt}(F:dW K x qual st f fd)(h:∀(kV doc pm:Value) (an:Option Addr) (cdv ct a0 a1 a2 a3 a4 a5:Value),bindArgs (CT x qual (aG st) (aE st) (au st) .none kV doc pm an cdv ct) ⟨[a0,a1,a2,a3,a4,a5],[]⟩=pure ([p0,p1,p2,p3,p4,p5].zip [a0,a1,a2,a3,a4,a5])):cI K fd [p0,p1,p2,p3,p4,p5] []:=F.binds fun kV doc pm an cdv ct us hl=>by
 obtain⟨a0,a1,a2,a3,a4,a5,rfl⟩:=Ci (us:=us) hl
 exact h kV doc pm an cdv ct a0 a1 a2 a3 a4 a5
theorem dB {g:TG}{x:V}{σ:St}{H:Hp}{K':St→Hp→Prop}(h:∀R:St→Hp→Prop,(∀σ H,K' σ H→R σ H)→g x σ H R):g x σ H K':=h _ fun _ _ z=>z
theorem a_(h:∀R:VK,(∀v H1,u D (σ.set n (some v)) H1→R v H1)→te σ H R):dk (iI te (eL n)) u D σ H:=h _ fun _ _ z=>z
theorem yw(q:te σ H fun x H1=>g x σ H1 D.nx):iI te g D σ H:=q
theorem cu(h:∀R:St→Hp→Prop,(∀σ H,u D σ H→R σ H)→t {D with nx:=R} σ H):dk t u D σ H:=h _ fun _ _ z=>z
theorem u4(Pv:Nat→St→Hp→Prop)(h0:Pv 0 σ0 (upd H1 D (.lst [])))(hl:∀i τ H,i≤er u→Pv i τ H→H d=some (.frz o u))
  (hs:∀i x v p τ H,eJ H u i x v→i<er u→H p=none→Pv i τ H→g (.ref p) τ (upd H p (.tup [x,v])) fun τ2 H2=>tt τ2 H2 fun b H3=>if b=true then te τ2 H3 fun v H4=>∃acc,H4 D=some (.lst acc)∧acc.length<sizeLine∧Pv (i+1) τ2 (upd H4 D (.lst (acc++[v]))) else Pv (i+1) τ2 H3)
  (hd:∀τ H,Pv (er u) τ H→Q H):vU σ0 g tt te (Bq d o u) H1 D Q:=by
 refine⟨fun i m τ H=>m=er u - i∧i≤er u∧Pv i τ H,⟨er u,by simp,C8 _,h0⟩,?_⟩
 rintro i m τ H ⟨rfl,hi,p⟩
 have q:=hl i τ H hi p
 by_cases hlt:i<er u
 ·refine .inr ⟨⟨q,hlt⟩,Pv (i+1),fun τ' H' p'=>⟨er u - (i+1),by lia,rfl,hlt,p'⟩,fun x H' y=>?_⟩
  obtain⟨p',z,v,hn,rfl,rfl,k⟩:=y
  exact hs i z v p' τ _ k hlt hn p
 ·have e:i=er u:=by lia
  subst e
  exact .inl ⟨⟨q,CM _⟩,hd τ H p⟩
theorem wm {α β:Type}{F:α→β→Prop}:∀{as:List α} {cs:List β},Paired F as cs→Paired F as.reverse cs.reverse
 |_,_,.nil=> .nil
 |_,_,.cons h s=>by
  rw[FC,FC]
  exact ip (wm s) (.cons h .nil)
theorem Ak(h:o6 tl σ H vs)(q:sp vs H (fun x H1=>∃a,x=.ref a∧(∃xs,bg K H1 a xs)∧∀D,H1 D=none→vU (qA n ix σ) g tt te (uM K a) H1 D fun H'=>u E (σ.set i (some (.ref D))) H') E0):
  dk (qZ (nR K (fT sp [] E0 tl)) n ix g tt te i) u E σ H:=h _ (by rw[Dw];exact q)
theorem zG(h:o6 tl σ H vs)(q:sp vs H (fun x H1=>∃a,x=.ref a∧(∃xs,bg K H1 a xs)∧∀D,H1 D=none→vU (qA n ix σ) g tt te (uM K a) H1 D fun H'=>Q (.ref D) H') E0):
  Bm (nR K (fT sp [] E0 tl)) n ix g tt te σ H Q:=h _ (by rw[Dw];exact q)
theorem sh:∀{cs:List (List Int)} {vs:List V},vs.length=cs.length→(∀(i:Nat) (v:V) (c:List Int),vs[i]?=some v→cs[i]?=some c→∃a,v=.ref a∧H a=some (.tup (c.map V.int)))→∃as:List Addr,vs=as.map V.ref∧bN H as cs
 |[],[],_,_=>⟨[],rfl,.nil⟩
 |[],_::_,h,_=>by simp at h
 |_::_,[],h,_=>by simp at h
 |c::cs,v::vs,h,q=>by
  obtain⟨a,e1,e2⟩:=q 0 v c rfl rfl
  obtain⟨as,e3,e4⟩:=sh (cs:=cs) (vs:=vs) (by simpa using h) fun i v c h1 h2=>q (i+1) v c (by simpa using h1) (by simpa using h2)
  exact⟨a::as,by rw[e1,e3];rfl,.cons e2 e4⟩
theorem iC{ps:List (Nat×V)}(h:eJ H (.dT (aX R C ps)) i x v):∃(y:Nat×V) (b:Addr),ps[i]?=some y∧x=.ref b∧v=y.2∧lV R C H b y.1:=by
 obtain⟨k,b,hk,rfl,hb⟩:=h
 rw[show aX R C ps=ps.map fun p=>(iK (sN R C p.1),p.2) from rfl,CW] at hk
 obtain⟨y,hy,ey⟩:=Do.mp hk
 have ey:(iK (sN R C y.1),y.2)=(k,v):=ey
 cases ey
 refine⟨y,b,hy,rfl,rfl,?_⟩
 have:=hb
 unfold iK at this
 rw[eM] at this
 exact this
theorem mP{ps:List (Nat×V)}(hl:ys.length=ps.length)(h:∀(i:Nat) y,ys[i]?=some y→∃v,eJ H (.dT (aX R C ps)) i y v):∃as:List Addr,ys=as.map V.ref∧bN H as ((ps.map (·.1)).map (sN R C)):=by
 refine sh (by rw[CK,CK];exact hl) fun i v c hv hc=>?_
 obtain⟨w,k⟩:=h i v hv
 obtain⟨y,b,hy,e1,_,e2⟩:=iC k
 rw[CW,CW,hy] at hc
 have hc:c=sN R C y.1:=(Option.some.inj hc).symm
 exact⟨b,e1,by rw[hc];exact e2⟩
theorem vo (xs:List V)(k:Nat)(h:k≤xs.length):pQ xs none (some (k:Int))=xs.take k:=by
 unfold pQ
 rw[HT.sIx_none,HT.sIx_nat,Nat.min_eq_left h,List.drop_zero,Nat.sub_zero]
theorem pF {α:Type}{l:List α}{d:α}(h:i<l.length):l[i]?=some (l.getD i d):=by rw[Dc,Dd h];rfl
theorem sr {l:List Nat}{i:Nat}(h:i<l.length):l.reverse.getD i 0=l.getD (l.length - 1 - i) 0:=by
 rw[Dc,Dc,List.getElem?_reverse h]
theorem lr:∀{l:List (Nat×Int)},(l.map (·.1)).Nodup→(x,w)∈l→l.filter (fun a=>decide (a.1=x))=[(x,w)]
 |[],_,h=>nomatch h
 |a::r,nd,h=>by
  rw[C5,Ds] at nd
  rcases CV.mp h with z|z
  ·subst z
   rw[DJ (by simp)]
   congr 1
   refine List.filter_eq_nil_iff.mpr fun b hb=>?_
   have:b.1≠x:=fun e=>nd.1 (by show x∈_;rw[←e];exact DG hb)
   simpa using this
  ·have:a.1≠x:=fun e=>nd.1 (by rw[e];exact DG z)
   rw[DK (by simpa using this)]
   exact lr nd.2 z
theorem yK(h0:Ev e0 σ H v0)(q:∀p,H p=none→∃v1 v2 v3,Ev e1 σ (upd H p (.lst [])) v1∧Ev e2 σ (upd H p (.lst [])) v2∧Ev e3 σ (upd H p (.lst [])) v3∧∀t,upd H p (.lst []) t=none→Q (.ref t) (upd (upd H p (.lst [])) t (.tup [v0,.ref p,v1,v2,v3]))):
  tu (cL e0 (cL (qJ fc) (cL e1 (cL e2 (cL e3 fc))))) σ H Q:=h0 _ ⟨C8 _,fun p hp=>by
 obtain⟨v1,v2,v3,h1,h2,h3,q⟩:=q p hp
 exact h1 _ (h2 _ (h3 _ ⟨by show 5≤sizeLine;decide,q⟩))⟩
theorem uy {r:List V→Hp→VK→Prop}(h:te σ H fun x H1=>r [x] H1 fun v H2=>∃a,v=.bl a∧Q (.bl (!a)) H2):vJ (zQ r (cL te fc)) σ H Q:=h
theorem xp(h:ta σ H fun xs H1=>xs.length≤sizeLine∧∀p,H1 p=none→D.nx (σ.set n (some (.ref p))) (upd H1 p (.lst xs))):iI (qJ ta) (eL n) D σ H:=h
theorem vK(ha:Ev ta σ H x)(hb:Ev tb σ H y)(s:yB x y=true):Ev (fb BP ta tb) σ H (.bl (decide (x=y))):=fun Q q=>ha _ (hb _ ⟨s,q⟩)
theorem Bw {b:Bool}{p q:Prop}(h1:b=true→p)(h2:b=false→q):if b=true then p else q:=by
 cases b with
 |true=>exact lG (h1 rfl)
 |false=>exact hU (h2 rfl)
noncomputable def mC (R C:Int) (c:T3):Nat:=((c.getD 0 0*R+c.getD 1 0)*C+c.getD 2 0).toNat
theorem y3(_:j_ L R C)(h:kR L R C x y w):sN R C (mC R C [x,y,w])=[x,y,w]∧((mC R C [x,y,w]:Nat):Int)<L*R*C:=by
 obtain⟨i1,i2,i3,i4,i5,i6⟩:=h
 have hR:(0:Int)<R:=by lia
 have hC:(0:Int)<C:=by lia
 have a0:0≤x*R+y:=Int.add_nonneg (Int.mul_nonneg i1 (by lia)) i3
 have b0:0≤(x*R+y)*C+w:=Int.add_nonneg (Int.mul_nonneg a0 (by lia)) i5
 have e:((mC R C [x,y,w]:Nat):Int)=(x*R+y)*C+w:=Int.toNat_of_nonneg b0
 have d1:((x*R+y)*C+w)/C=x*R+y:=by
  rw[E9,Int.add_mul_ediv_right _ _ (by lia),Int.ediv_eq_zero_of_lt i5 i6,E_]
 have d2:(x*R+y)/R=x:=by
  rw[E9,Int.add_mul_ediv_right _ _ (by lia),Int.ediv_eq_zero_of_lt i3 i4,E_]
 have m1:((x*R+y)*C+w)%C=w:=by
  rw[E9,Int.add_mul_emod_self_right,Int.emod_eq_of_lt i5 i6]
 have m2:(x*R+y)%R=y:=by
  rw[E9,Int.add_mul_emod_self_right,Int.emod_eq_of_lt i3 i4]
 refine⟨?_,?_⟩
 ·unfold sN
  rw[e,d1,d2,m1,m2]
 ·rw[e]
  have h1:x*R+R≤L*R:=by
   have:=Int.mul_le_mul_of_nonneg_right (show x+1≤L by lia) (show 0≤R by lia)
   rw[Int.add_mul,Int.one_mul] at this
   exact this
  have h2:(x*R+y)*C+C≤L*R*C:=by
   have:=Int.mul_le_mul_of_nonneg_right (show x*R+y+1≤L*R by lia) (show 0≤C by lia)
   rw[Int.add_mul (x*R+y),Int.one_mul] at this
   exact this
  lia
noncomputable def rows (g:Gd) (F:List (Nat×V)) (n:Nat):List (Nat×Int):=(fJ g F (sN g.R g.C n)).map fun x=>(mC g.R g.C x.1,x.2)
def un (g:Gd) (a:Nat×Int):T3×Int:=(sN g.R g.C a.1,a.2)
theorem rS(ok:cX g){F:List (Nat×V)}{n:Nat}{x:T3×Int}(h:x∈fJ g F (sN g.R g.C n)):∃d:T3,d∈ig (sN g.R g.C n)∧x=(d,dv g (sN g.R g.C n) d)∧eg g d=true∧jN g.R g.C F d=true∧∃m:Nat,m<g.M∧d=sN g.R g.C m∧mC g.R g.C d=m:=by
 unfold fJ iT dS at h
 split at h
 ·split at h
  ·simp at h
  ·obtain⟨h1,h2⟩:=DO.mp h
   obtain⟨d,hd,rfl⟩:=CU.mp h1
   obtain⟨b,a⟩:=DO.mp hd
   unfold w9 at a
   rw[EA] at a
   refine⟨d,b,rfl,a.1,h2,?_⟩
   obtain⟨x',y',w',rfl⟩:∃x' y' w',d=[x',y',w']:=by
    unfold ig nV at b
    simp only[CV,D9,or_false] at b
    rcases b with h|h|h|h|h|h<;>exact⟨_,_,_,h⟩
   obtain⟨e1,e2⟩:=y3 ok.S (of_decide_eq_true a.1:kR g.L g.R g.C x' y' w')
   exact⟨_,by have:=ok.M;lia,e1.symm,rfl⟩
 ·simp at h
theorem gu(ok:cX g)(F:List (Nat×V))(n:Nat):fJ g F (sN g.R g.C n)=(rows g F n).map (un g):=by
 unfold rows
 rw[Dq]
 have:∀x∈fJ g F (sN g.R g.C n),(un g∘fun x=>(mC g.R g.C x.1,x.2)) x=x:=fun x hx=>by
  obtain⟨d,_,rfl,_,_,m,_,e1,e2⟩:=rS ok hx
  show(sN g.R g.C (mC g.R g.C d),_)=_
  rw[e2,←e1]
 rw[Fo this]
 simp
theorem xA (g:Gd)(F:List (Nat×V))(c:T3):(fJ g F c).length≤6:=by
 unfold fJ iT dS
 split
 ·split
  ·simp
  ·refine Df (Fv _ _) ?_
   rw[CK]
   exact Df (Fv _ _) (by unfold ig nV;simp)
 ·simp
theorem i_ (g:Gd)(F:List (Nat×V))(n:Nat):(rows g F n).length≤6:=by unfold rows;rw[CK];exact xA g F _
theorem oq(ok:cX g){F:List (Nat×V)}{n:Nat}{a:Nat×Int}(h:a∈rows g F n):a.1<g.M∧(aR F a.1).isSome=true∧(sN g.R g.C a.1,a.2)∈fJ g F (sN g.R g.C n):=by
 obtain⟨x,hx,rfl⟩:=CU.mp h
 obtain⟨d,hd,rfl,h1,h2,m,hm,e1,e2⟩:=rS ok hx
 refine⟨by show mC g.R g.C d<g.M;rw[e2];exact hm,?_,?_⟩
 ·show(aR F (mC g.R g.C d)).isSome=true
  rw[e2,←wo ok.S,←e1];exact h2
 ·show(sN g.R g.C (mC g.R g.C d),_)∈_
  rw[e2,←e1];exact hx
theorem Ay (x y w:Int):(nV x y w).Nodup:=by
 unfold nV
 simp only[Ds,CV,D9,or_false,List.cons.injEq,and_true,not_or,not_false_eq_true,EI]
 refine⟨⟨?_,?_,?_,?_,?_⟩,⟨?_,?_,?_,?_⟩,⟨?_,?_,?_⟩,⟨?_,?_⟩,?_⟩<;>lia
theorem zB(F:List (Nat×V))(c:T3):((fJ g F c).map (·.1)).Nodup:=by
 unfold fJ iT dS
 split
 ·split
  ·simp
  ·have h1:(((ig c).filter (w9 g)).map fun d=>(d,dv g c d)).map (·.1)=(ig c).filter (w9 g):=by rw[Dq];exact List.map_id' _
   have h2:((((ig c).filter (w9 g)).map fun d=>(d,dv g c d)).map (·.1)).Nodup:=by rw[h1];exact(Ay _ _ _).filter _
   exact List.Sublist.nodup (List.Sublist.map _ List.filter_sublist) h2
 ·simp
theorem yr(ok:cX g){c d:T3}(hd:d∈ig c)(hi:eg g d=true):0≤bare g c d:=by
 have nv:∀i,0≤g.vs.getD i 0:=fun i=>by
  rw[Dc]
  cases e:g.vs[i]? with
  |none=>exact Ea 0
  |some v=>have:=ok.vv v (C2 e);show 0≤v;lia
 have np:∀i j,0≤(g.ps.getD i []).getD j 0:=fun i j=>by
  rw[Dc (l:=g.ps)]
  cases e:g.ps[i]? with
  |none=>show 0≤([]:List Int).getD j 0;simp
  |some v=>
   obtain⟨a,b,rfl,a1,_,b1,_⟩:=ok.pp v (C2 e)
   show 0≤[a,b].getD j 0
   match j with
   |0=>show 0≤a;lia
   |1=>show 0≤b;lia
   |j+2=>simp
 unfold bare
 split
 ·exact nv _
 ·split
  ·exact np _ _
  ·exact np _ _
theorem xh(ok:cX g)(F:List (Nat×V))(n:Nat):((rows g F n).map (·.1)).Nodup:=by
 have h:=zB (g:=g) F (sN g.R g.C n)
 rw[gu ok,Dq] at h
 have e:((·.1)∘un g:Nat×Int→T3)=(sN g.R g.C∘fun a=>a.1):=rfl
 rw[e,←Dq] at h
 exact(E7.mp h).imp fun ne z=>ne (congrArg _ z)
theorem nF{ts:List (Nat×V)}(h:TV ts)(c:T3):0≤eO R C ts c:=by
 unfold eO
 cases e:aR (aX R C ts) (iK c) with
 |none=>exact Ea 0
 |some v=>
  obtain⟨p,hp,e2⟩:=CU.mp (gI e)
  obtain⟨i,e3,i0,_⟩:=h p hp
  have e4:p.2=v:=congrArg Prod.snd e2
  rw[←e4,e3];exact i0
theorem oF(ok:cX g)(F:List (Nat×V))(n:Nat):∀a∈rows g F n,0≤a.2:=fun a h=>by
 obtain⟨x,hx,rfl⟩:=CU.mp h
 obtain⟨d,hd,rfl,h1,h2,m,hm,e1,e2⟩:=rS ok hx
 show 0≤dv g (sN g.R g.C n) d
 unfold dv
 have t1:=nF (R:=g.R) (C:=g.C) ok.tv (sN g.R g.C n)
 have t2:=nF (R:=g.R) (C:=g.C) ok.tv d
 have b:=yr ok hd h1
 lia
noncomputable def gG (g:Gd) (F:List (Nat×V)) (ss:List Nat) (ok:cX g):Dj.G:=⟨rows g F,ss.map fun n=>(n,0),fun m a h=>oF ok F m a h⟩
inductive Wb (g:Gd) (F:List (Nat×V)) (ss:List Nat) (far:Dj.Far) (back:Dj.Back):Nat→List Nat→Prop
 |st {n:Nat} (h:n∈ss) (f:far n=some 0) (b:back n=some none):Wb g F ss far back n [n]
 |go {n m:Nat} {p q:Int} {r:List Nat} (f:far n=some p) (fm:far m=some q) (b:back n=some (some m)) (a:(n,p - q)∈rows g F m) (w:Wb g F ss far back m r) (nd:n∉r):Wb g F ss far back n (n::r)
section
variable {g:Gd} {F:List (Nat×V)} {ss:List Nat} {far:Dj.Far} {back:Dj.Back}
theorem Wb.hd(h:Wb g F ss far back n W):∃r,W=n::r:=by
 cases h with
 |st=>exact⟨[],rfl⟩
 |go=>exact⟨_,rfl⟩
theorem Wb.nd(h:Wb g F ss far back n W):W.Nodup:=by
 induction h with
 |st=>simp
 |go f fm b a w nd ih=>exact Ds.mpr ⟨nd,ih⟩
theorem Wb.inn(h:Wb g F ss far back n W):∀x∈W,∃p,far x=some p:=by
 induction h with
 |st h f b=>intro x hx;rw[CP.mp hx];exact⟨0,f⟩
 |go f fm b a w nd ih=>
  intro x hx
  rcases CV.mp hx with z|z
  ·rw[z];exact⟨_,f⟩
  ·exact ih x z
theorem Wb.at(h:Wb g F ss far back n W):∀i,i<W.length→(back (W.getD i 0)=some none∧i+1=W.length)∨(back (W.getD i 0)=some (some (W.getD (i+1) 0))∧i+1<W.length):=by
 induction h with
 |st h f b=>
  intro i hi
  have h0:i=0:=by rw[EX] at hi;lia
  subst h0
  exact .inl ⟨b,rfl⟩
 | @go n m p q r f fm b a w nd ih=>
  intro i hi
  obtain⟨r',rfl⟩:=w.hd
  cases i with
  |zero=>exact .inr ⟨b,by simp⟩
  |succ i=>
   rcases ih i (by simpa using hi) with ⟨h1,h2⟩|⟨h1,h2⟩
   ·exact .inl ⟨h1,by rw[Dl];lia⟩
   ·exact .inr ⟨h1,by rw[Dl];lia⟩
theorem Wb.step(h:Wb g F ss far back n W):∀i,i+1<W.length→∃p q,far (W.getD i 0)=some p∧far (W.getD (i+1) 0)=some q∧(W.getD i 0,p - q)∈rows g F (W.getD (i+1) 0):=by
 induction h with
 |st h f b=>intro i hi;simp at hi
 | @go n m p q r f fm b a w nd ih=>
  intro i hi
  obtain⟨r',rfl⟩:=w.hd
  cases i with
  |zero=>exact⟨p,q,f,fm,a⟩
  |succ i=>exact ih i (by simpa using hi)
theorem Wb.last(h:Wb g F ss far back n W):W.getD (W.length - 1) 0∈ss∧far (W.getD (W.length - 1) 0)=some 0:=by
 induction h with
 |st h f b=>exact⟨h,f⟩
 | @go n m p q r f fm b a w nd ih=>
  obtain⟨r',rfl⟩:=w.hd
  simpa using ih
structure tY (g:Gd) (F:List (Nat×V)) (ss:List Nat) (far:Dj.Far) (back:Dj.Back):Prop where
 st:∀n∈ss,far n=some 0
 nn:∀n p,far n=some p→0≤p
 fr:∀n p,far n=some p→n<g.M∧(aR F n).isSome=true
 ar:∀n p,far n=some p→∀a∈rows g F n,∃q,far a.1=some q∧q≤p+a.2
 wb:∀n p,far n=some p→∃W,Wb g F ss far back n W
theorem vI {ok:cX g}(T:Dj.Told (gG g F ss ok) far back){dn:List Nat}(nd:dn.Nodup)(hall:∀m,m∈dn↔(far m).isSome=true)(ho:∀l m r b,dn=l++m::r→back m=some (some b)→b∈r):
  ∀(r l:List Nat) (n:Nat),dn=l++r→n∈r→∃W,Wb g F ss far back n W∧∀x∈W,x∈r
 |[],_,_,_,h=>nomatch h
 |x::r,l,n,e,h=>by
  by_cases c:n=x
  ·subst c
   have hm:n∈dn:=by rw[e];simp
   obtain⟨p,hp⟩:=Ey.mp ((hall n).mp hm)
   have hd:=T.dom n
   rw[(hall n).mp hm] at hd
   obtain⟨b,hb⟩:=Ey.mp hd
   cases b with
   |none=>
    have:=T.bn n p hp hb
    obtain⟨s,hs,e2⟩:=CU.mp this
    cases e2
    exact⟨[n],.st hs hp hb,fun y hy=>by rw[CP.mp hy];simp⟩
   |some b=>
    obtain⟨_,q,hq,ha⟩:=T.bs n p b hp hb
    have hbr:=ho l n r b e hb
    obtain⟨W,w1,w2⟩:=vI T nd hall ho r (l++[n]) b (by simp[e]) hbr
    have nr:n∉r:=by
     rw[e] at nd
     have:=(FJ.mp nd).2.1
     exact(Ds.mp this).1
    refine⟨n::W,.go hp hq hb ha w1 (fun z=>nr (w2 n z)),fun y hy=>?_⟩
    rcases CV.mp hy with z|z
    ·rw[z];simp
    ·exact Dh _ (w2 y z)
  ·have hr:n∈r:=by
    rcases CV.mp h with z|z
    ·exact absurd z c
    ·exact z
   obtain⟨W,w1,w2⟩:=vI T nd hall ho r (l++[x]) n (by simp[e]) hr
   exact⟨W,w1,fun y hy=>Dh _ (w2 y hy)⟩
theorem Wb.nn (ok:cX g){n:Nat}{W:List Nat}(h:Wb g F ss far back n W):∀p,far n=some p→0≤p:=by
 induction h with
 |st h f b=>intro p e;rw[f] at e;cases e;exact Ea 0
 | @go n m p q r f fm b a w nd ih=>
  intro p' e
  rw[f] at e;cases e
  have:=ih q fm
  have:=oF ok F m _ a
  have:0≤p - q:=this
  lia
theorem tY.of (ok:cX g)(T:Dj.Told (gG g F ss ok) far back)(hs:∀n∈ss,n<g.M∧(aR F n).isSome=true):tY g F ss far back:=by
 obtain⟨dn,nd,c,ho⟩:=T.ord
 have wb:∀n p,far n=some p→∃W,Wb g F ss far back n W:=fun n p h=>by
  obtain⟨W,w,_⟩:=vI T nd c ho dn [] n rfl ((c n).mpr (by rw[h];rfl))
  exact⟨W,w⟩
 have nn:∀n p,far n=some p→0≤p:=fun n p h=>by
  obtain⟨W,w⟩:=wb n p h
  exact w.nn ok p h
 refine⟨fun n hn=>?_,nn,fun n p h=>?_,T.arcs,wb⟩
 ·obtain⟨q,h1,h2⟩:=T.sta (n,0) (DG hn)
  have:=nn n q h1
  have h2:q≤0:=h2
  rw[h1,show q=0 by lia]
 ·obtain⟨W,w⟩:=wb n p h
  cases w with
  |st hn f b=>exact hs n hn
  |go f fm b a w nd=>exact⟨(oq ok a).1,(oq ok a).2.1⟩
theorem kJ {F':List (Nat×V)}(ok:cX g)(e:∀n,(aR F n).isSome=(aR F' n).isSome)(n:Nat):rows g F n=rows g F' n:=by
 have i1:∀c:T3,jN g.R g.C F c=jN g.R g.C F' c:=fun c=>by
  unfold jN
  rw[lN,lN]
  refine decide_eq_decide.mpr ⟨fun h=>?_,fun h=>?_⟩
  ·obtain⟨m,hm,rfl⟩:=CU.mp h
   exact DG (cb.mp (by rw[←e];exact cb.mpr hm))
  ·obtain⟨m,hm,rfl⟩:=CU.mp h
   exact DG (cb.mp (by rw[e];exact cb.mpr hm))
 unfold rows fJ iT
 rw[i1]
 simp only[i1]
theorem Wb.congr {F':List (Nat×V)}(ok:cX g)(e:∀n,(aR F n).isSome=(aR F' n).isSome){n:Nat}{W:List Nat}(h:Wb g F ss far back n W):Wb g F' ss far back n W:=by
 induction h with
 |st h f b=>exact .st h f b
 |go f fm b a w nd ih=>exact .go f fm b (by rw[←kJ ok e];exact a) ih nd
theorem tY.congr {F':List (Nat×V)}(ok:cX g)(e:∀n,(aR F n).isSome=(aR F' n).isSome)(h:tY g F ss far back):tY g F' ss far back:=
 ⟨h.st,h.nn,fun n p hn=>⟨(h.fr n p hn).1,by rw[←e];exact(h.fr n p hn).2⟩,fun n p hn a ha=>h.ar n p hn a (by rw[kJ ok e];exact ha),fun n p hn=>let ⟨W,w⟩:=h.wb n p hn;⟨W,w.congr ok e⟩⟩
theorem tY.all (h:tY g F ss far back){P:Nat→Prop}(h0:∀n∈ss,P n)(h1:∀n,P n→∀a∈rows g F n,P a.1):∀n p,far n=some p→P n:=fun n p e=>by
 obtain⟨W,w⟩:=h.wb n p e
 clear e
 induction w generalizing p with
 |st hn f b=>exact h0 _ hn
 | @go n m p' q r f fm b a w nd ih=>exact h1 m (ih q) _ a
end
def HR (hs:List (Nat×V)) (far:Dj.Far) (top:Int):Prop:=∀n,aR hs n=(far n).bind fun p=>if p<top then some (V.int p) else none
theorem HR.ints {hs:List (Nat×V)}{top:Int}(h:HR hs far top)(nd:(hs.map (·.1)).Nodup):∀p∈hs,∃i:Int,p.2=.int i∧i<top∧far p.1=some i:=fun p hp=>by
 have e:aR hs p.1=some p.2:=by
  have:∀{l:List (Nat×V)},(l.map (·.1)).Nodup→p∈l→aR l p.1=some p.2:=by
   intro l nd hp
   induction l with
   |nil=>cases hp
   |cons x r ih=>
    rw[C5,Ds] at nd
    rcases CV.mp hp with z|z
    ·rw[z];exact bY rfl
    ·rw[bZ (fun e=>nd.1 (by rw[e];exact DG z))]
     exact ih nd.2 z
  exact this nd hp
 rw[h p.1] at e
 cases f:far p.1 with
 |none=>rw[f] at e;cases e
 |some q=>
  rw[f] at e
  have e:(if q<top then some (V.int q) else none)=some p.2:=e
  split at e
  ·rename_i hq
   exact⟨q,(Option.some.inj e).symm,hq,rfl⟩
  ·cases e
theorem HR.val {hs:List (Nat×V)}{top:Int}(h:HR hs far top)(n:Nat):ht (top,hs) n=match far n with|some p=>min p top|none=>top:=by
 unfold ht
 show(match aR hs n with|some (.int i)=>i|_=>top)=_
 rw[h n]
 cases f:far n with
 |none=>rfl
 |some p=>
  show(match (if p<top then some (V.int p) else none) with|some (.int i)=>i|_=>top)=min p top
  by_cases c:p<top
  ·rw[if_pos c];show p=min p top;lia
  ·rw[if_neg c];show top=min p top;lia
theorem HR.arc{F:List (Nat×V)}{hs:List (Nat×V)}{top:Int}(ok:cX g)(S:tY g F ss far back)(h:HR hs far top){n:Nat}{a:Nat×Int}(ha:a∈rows g F n):¬ht (top,hs) a.1 - ht (top,hs) n>a.2:=by
 rw[h.val,h.val]
 have w:=oF ok F n a ha
 cases f:far n with
 |none=>
  show¬(match far a.1 with|some p=>min p top|none=>top) - top>a.2
  cases far a.1 with
  |none=>show¬top - top>a.2;lia
  |some q=>show¬min q top - top>a.2;lia
 |some p=>
  obtain⟨q,h1,h2⟩:=S.ar n p f a ha
  rw[h1]
  show¬min q top - min p top>a.2
  lia
theorem sP:∀{l:List (Nat×V)},(l.map (·.1)).Nodup→(k,u)∈l→∀{y:Nat×V},y∈l→y.1=k→u=y.2
 |[],_,h,_,_,_=>nomatch h
 |a::r,nd,h,y,hy,e=>by
  rw[C5,Ds] at nd
  rcases CV.mp h with z|z
  ·rcases CV.mp hy with x|x
   ·rw[x,←z]
   ·exact absurd (DG (f:=(·.1)) x) (by show y.1∉_;rw[e,show k=a.1 by rw[←z]];exact nd.1)
  ·rcases CV.mp hy with x|x
   ·exact absurd (DG (f:=(·.1)) z) (by show k∉_;rw[←e,x];exact nd.1)
   ·exact sP nd.2 z x e
def BH (R C:Int) (far:Dj.Far) (H:Hp) (q:Addr) (n:Nat):Prop:=∃b p,H q=some (.tup [.int p,.ref b])∧lV R C H b n∧far n=some p
theorem vZ(h:Paired (BH R C far H) qs ns)(s:∀b ys,H b=some (.tup ys)→H' b=some (.tup ys)):Paired (BH R C far H') qs ns:=Paired.mapP h fun _ _ ⟨b,p,e1,e2,e3⟩=>⟨b,p,s _ _ e1,s _ _ e2,e3⟩
noncomputable def mm (top:Int) (p:Nat×V):Bool:=match p.2 with
 | .int i=>decide (i<top)
 |_=>false
theorem lh{top:Int}(n:Nat):∀{l:List (Nat×V)},(l.map (·.1)).Nodup→aR (l.filter (mm top)) n=(aR l n).bind fun v=>if mm top (n,v)=true then some v else none
 |[],_=>rfl
 |a::r,nd=>by
  rw[C5,Ds] at nd
  have ih:=lh (top:=top) n nd.2
  by_cases c:a.1=n
  ·have hn:aR r n=none:=by
    cases e:aR r n with
    |none=>rfl
    |some v=>exact absurd (cb.mp (by rw[e];rfl)) (by rw[←c];exact nd.1)
   rw[bY c]
   show _=if mm top (n,a.2)=true then some a.2 else none
   have ea:(n,a.2)=a:=by rw[←c]
   rw[ea]
   by_cases h:mm top a=true
   ·rw[DJ h,bY c,if_pos h]
   ·rw[DK h,if_neg h,ih,hn];rfl
  ·rw[bZ c]
   by_cases h:mm top a=true
   ·rw[DJ h,bZ c];exact ih
   ·rw[DK h];exact ih
theorem uk {Fr:List (Nat×V)}{top:Int}(nd:(Fr.map (·.1)).Nodup)(h:∀n,aR Fr n=(far n).map V.int):HR (Fr.filter (mm top)) far top:=fun n=>by
 rw[lh n nd,h n]
 cases far n with
 |none=>rfl
 |some p=>
  show(if mm top (n,V.int p)=true then some (V.int p) else none)=if p<top then some (V.int p) else none
  by_cases c:p<top
  ·rw[if_pos c,if_pos (show mm top (n,V.int p)=true from decide_eq_true c)]
  ·rw[if_neg c,if_neg (show¬mm top (n,V.int p)=true from fun z=>c (of_decide_eq_true z))]
theorem Tb.filter{ps:List (Nat×V)}(h:Tb M ps)(f:Nat×V→Bool):Tb M (ps.filter f):=
 ⟨List.Sublist.nodup (List.Sublist.map _ List.filter_sublist) h.nd,fun p hp=>h.lt p (DO.mp hp).1⟩
theorem Af (kvs:List (List cK×V)):(kvs.map (·.1)).Nodup→w8 kvs=kvs:=by
 induction kvs using md with
 |h0=>intro _;rfl
 |h1 xs x ih=>
  intro nd
  rw[C3,FJ] at nd
  rw[l_,ih nd.1]
  have hn:aR xs x.1=none:=by
   cases e:aR xs x.1 with
   |none=>rfl
   |some v=>exact absurd rfl (nd.2.2 x.1 (cb.mp (by rw[e];rfl)) x.1 (by simp))
  rw[kD _ hn]
def A_ (Fr:List (Nat×V)) (far:Dj.Far):Prop:=∀n,aR Fr n=(far n).map V.int
def ni (R C:Int) (H:Hp) (B:List (Nat×V)) (back:Dj.Back):Prop:=∀n,(back n=none→aR B n=none)∧(back n=some none→aR B n=some .non)∧∀m,back n=some (some m)→∃b,aR B n=some (.ref b)∧lV R C H b m
theorem ni.kept{B:List (Nat×V)}(h:ni R C H B back)(k:TK H H'):ni R C H' B back:=fun n=>⟨(h n).1,(h n).2.1,fun m e=>let ⟨b,e1,e2⟩:=(h n).2.2 m e;⟨b,e1,k _ _ e2⟩⟩
theorem ke(s:ax H H'):TK H H':=fun b xs e=>s _ _ e
def mf (R C:Int) (z:Int×Nat):List Int:=z.1::sN R C z.2
theorem zd(h:lV R C H b n):oY H (.ref b) (sN R C n):=⟨b,_,_,_,rfl,h,rfl⟩
structure SS (Cc:Addr) (H0 H:Hp) (fa ba p a:Addr) (g:Gd) (Fr B:List (Nat×V)) (far:Dj.Far) (back:Dj.Back) (vs:List V) (ks:List (List Int)) (hq:List (Int×Nat)):Prop where
 sm:ax H0 H
 fd:H fa=some (.dT (aX g.R g.C Fr))
 bd:H ba=some (.dT (aX g.R g.C B))
 ft:Tb g.M Fr
 bt:Tb g.M B
 fr:A_ Fr far
 br:ni g.R g.C H B back
 ha:uK Cc H p a vs
 kh:iL H vs ks
 ok:lK ks
 pm:ks.Perm (hq.map (mf g.R g.C))
 hl:∀z∈hq,z.2<g.M
 ne:fa≠ba
 n1:H0 fa=none
 n2:H0 ba=none
 n3:H0 p=none
 n4:H0 a=none
section
variable {Cc:Addr} {H0 H:Hp} {fa ba p a:Addr} {g:Gd} {Fr B:List (Nat×V)} {far:Dj.Far} {back:Dj.Back} {vs:List V} {ks:List (List Int)} {hq:List (Int×Nat)}
theorem SS.len (S:SS Cc H0 H fa ba p a g Fr B far back vs ks hq):vs.length=hq.length:=by
 rw[S.kh.1,S.pm.length_eq,CK]
theorem SS.grow(S:SS Cc H0 H fa ba p a g Fr B far back vs ks hq)(s:ax H H'):SS Cc H0 H' fa ba p a g Fr B far back vs ks hq:=by
 obtain⟨dx,e⟩:=S.ha.ob
 exact{S with sm:=S.sm.trans s,fd:=s _ _ S.fd,bd:=s _ _ S.bd,br:=S.br.kept (ke s),ha:=⟨⟨dx,s _ _ e⟩,s _ _ S.ha.ls⟩,kh:=S.kh.kept (ke s)}
theorem SS.relax (S:SS Cc H0 H fa ba p a g Fr B far back vs ks hq)(Z:j_ g.L g.R g.C)(hM:g.M≤128)
  {mo:Addr} {bv:V} {o:Nat} {bb:Option Nat} (w:Int) (hm:lV g.R g.C H mo o) (ho:o<g.M) (hb:(bb=none∧bv=.non)∨∃m b,bb=some m∧bv=.ref b∧lV g.R g.C H b m):
  ∃H1 H2,fh H fa (.ref mo) (.int w) H1∧fh H1 ba (.ref mo) bv H2∧uK Cc H2 p a vs∧iL H2 vs ks∧oY H2 (.ref mo) (sN g.R g.C o)∧TK H H2∧(∀b x,b≠fa→b≠ba→H b=some x→H2 b=some x)∧
   ∀H' vs' ks',uK Cc H' p a vs'→iL H' vs' ks'→lK ks'→ks'.Perm (ks++[w::sN g.R g.C o])→rR H2 H' p a→SS Cc H0 H' fa ba p a g (bF Fr o (.int w)) (bF B o bv) (Dj.put far o w) (Dj.put back o bb) vs' ks' ((w,o)::hq):=by
 have l1:=S.ft.few
 have l2:=S.bt.few
 have r:sizeLine=2^24:=rfl
 have k1:∀b x,b≠fa→H b=some x→upd H fa (.dT (bF (aX g.R g.C Fr) (iK (sN g.R g.C o)) (.int w))) b=some x:=fun b x hb e=>by rw[aj hb];exact e
 have i:∀{b:Addr} {x:HO},H b=some x→(∀kvs,x≠.dT kvs)→b≠fa:=fun e nx z=>by rw[z,S.fd] at e;cases e;exact nx _ rfl
 have j:∀{b:Addr} {x:HO},H b=some x→(∀kvs,x≠.dT kvs)→b≠ba:=fun e nx z=>by rw[z,S.bd] at e;cases e;exact nx _ rfl
 have p1:fh H fa (.ref mo) (.int w) (upd H fa (.dT (bF (aX g.R g.C Fr) (iK (sN g.R g.C o)) (.int w)))):=fh.t (k:=iK (sN g.R g.C o)) S.fd (f_ hm) (by rw[b_];lia)
 have wZ:=k1 _ _ S.ne.symm S.bd
 have q:=k1 _ _ (i hm (fun _ z=>nomatch z)) hm
 have p2:fh (upd H fa (.dT (bF (aX g.R g.C Fr) (iK (sN g.R g.C o)) (.int w)))) ba (.ref mo) bv (upd (upd H fa (.dT (bF (aX g.R g.C Fr) (iK (sN g.R g.C o)) (.int w)))) ba (.dT (bF (aX g.R g.C B) (iK (sN g.R g.C o)) bv))):=fh.t (k:=iK (sN g.R g.C o)) wZ (f_ q) (by rw[b_];lia)
 have k2:∀b x,b≠fa→b≠ba→H b=some x→upd (upd H fa (.dT (bF (aX g.R g.C Fr) (iK (sN g.R g.C o)) (.int w)))) ba (.dT (bF (aX g.R g.C B) (iK (sN g.R g.C o)) bv)) b=some x:=fun b x h1 h2 e=>by rw[aj h2];exact k1 b x h1 e
 have f2:upd (upd H fa (.dT (bF (aX g.R g.C Fr) (iK (sN g.R g.C o)) (.int w)))) ba (.dT (bF (aX g.R g.C B) (iK (sN g.R g.C o)) bv)) fa=some (.dT (aX g.R g.C (bF Fr o (.int w)))):=by rw[aj S.ne,ag,ef Z]
 have b2:upd (upd H fa (.dT (bF (aX g.R g.C Fr) (iK (sN g.R g.C o)) (.int w)))) ba (.dT (bF (aX g.R g.C B) (iK (sN g.R g.C o)) bv)) ba=some (.dT (aX g.R g.C (bF B o bv))):=by rw[ag,ef Z]
 revert p2 k2 f2 b2
 generalize upd (upd H fa (.dT (bF (aX g.R g.C Fr) (iK (sN g.R g.C o)) (.int w)))) ba (.dT (bF (aX g.R g.C B) (iK (sN g.R g.C o)) bv))=H2
 intro p2 k2 f2 b2
 have f:TK H H2:=fun b xs e=>k2 b _ (i e (fun _ z=>nomatch z)) (j e (fun _ z=>nomatch z)) e
 obtain⟨dx,hp⟩:=S.ha.ob
 have h:uK Cc H2 p a vs:=⟨⟨dx,k2 _ _ (i hp (fun _ z=>nomatch z)) (j hp (fun _ z=>nomatch z)) hp⟩,k2 _ _ (i S.ha.ls (fun _ z=>nomatch z)) (j S.ha.ls (fun _ z=>nomatch z)) S.ha.ls⟩
 refine⟨_,H2,p1,p2,h,S.kh.kept f,(zd hm).kept f,f,k2,fun H' vs' ks' hA' hk' hok' pm' bu=>?_⟩
 obtain⟨s,l⟩:=h.ob
 have n:TK H2 H':=bu.tk l h.ls
 have e1:∀{d:Addr} {kvs:List (List cK×V)},H2 d=some (.dT kvs)→H' d=some (.dT kvs):=fun e=>bu _ _ e (fun z=>by rw[z,l] at e;cases e) (fun z=>by rw[z,h.ls] at e;cases e)
 refine⟨fun b x e=>?_,e1 f2,e1 b2,S.ft.put ho,S.bt.put ho,fun k=>?_,fun k=>?_,hA',hk',hok',?_,fun z hz=>?_,S.ne,S.n1,S.n2,S.n3,S.n4⟩
 ·exact bu b x (k2 b x (ak e S.n1) (ak e S.n2) (S.sm _ _ e)) (ak e S.n3) (ak e S.n4)
 ·rw[fg]
  unfold Dj.put
  by_cases c:k=o
  ·rw[if_pos c,if_pos c];rfl
  ·rw[if_neg c,if_neg c];exact S.fr k
 ·obtain⟨h1,h2,h3⟩:=(S.br.kept f).kept n k
  rw[fg]
  unfold Dj.put
  by_cases c:k=o
  ·simp only[if_pos c]
   refine⟨(fun z=>nomatch z),fun z=>?_,fun m z=>?_⟩
   ·rcases hb with ⟨rfl,rfl⟩|⟨m,b,rfl,_⟩
    ·rfl
    ·injection z with z;cases z
   ·rcases hb with ⟨rfl,rfl⟩|⟨m',b,rfl,rfl,hv⟩
    ·injection z with z;cases z
    ·injection z with z;injection z with z;subst z
     exact⟨b,rfl,n _ _ (f _ _ hv)⟩
  ·simp only[if_neg c];exact⟨h1,h2,h3⟩
 ·rw[C5]
  refine pm'.trans ?_
  refine(Fs).trans ?_
  exact List.Perm.cons _ S.pm
 ·rcases CV.mp hz with z'|z'
  ·rw[z'];exact ho
  ·exact S.hl z z'
end
theorem vt{ks ks':List (List Int)}{hq:List (Int×Nat)}(pm:ks.Perm (hq.map (mf R C)))(pk:(k::ks').Perm ks)(hm:∀z∈ks,HT.lexLt z k=false):
  ∃pr m,k=mf R C (pr,m)∧(pr,m)∈hq∧ks'.Perm ((hq.erase (pr,m)).map (mf R C))∧(∀z,z∈hq↔z=(pr,m)∨z∈hq.erase (pr,m))∧(∀z∈hq.erase (pr,m),pr≤z.1)∧(hq.erase (pr,m)).length+1=hq.length:=by
 have hk:k∈hq.map (mf R C):=(pk.trans pm).mem_iff.mp Dk
 obtain⟨⟨pr,m⟩,a,rfl⟩:=CU.mp hk
 have pe:=List.perm_cons_erase a
 refine⟨pr,m,rfl,a,?_,fun z=>?_,fun z hz=>?_,?_⟩
 ·have h1:=(pk.trans pm).trans (pe.map (mf R C))
  rw[C5] at h1
  exact h1.cons_inv
 ·rw[pe.mem_iff,CV]
 ·have b:mf R C z∈ks:=pm.mem_iff.mpr (DG (List.mem_of_mem_erase hz))
  have:=hm _ b
  unfold mf at this
  rw[HT.lexLt_cons] at this
  by_cases c:z.1=pr
  ·lia
  ·rw[if_neg c] at this
   have:=of_decide_eq_false this
   lia
 ·have:=pe.length_eq
  rw[Dl] at this
  lia
theorem uR {f:Nat→Nat}(h:∀k,f k≤c):∀l:List Nat,Dj.sumF f l≤c*l.length
 |[]=>CM _
 |a::r=>by
  have:=uR h r
  have:=h a
  unfold Dj.sumF at*
  rw[C5,List.sum_cons,Dl,Nat.mul_succ]
  lia
theorem Az{F:List (Nat×V)}{ok:cX g}(n:Nat)(dn:List Nat):Dj.bud (gG g F ss ok) n dn≤6*n:=by
 unfold Dj.bud
 refine Df (uR (c:=6) (fun k=>i_ g F k) _) (Nat.mul_le_mul_left _ ?_)
 exact Df (Fv _ _) (by rw[FR];exact CM _)
def lC (mg:Str→Option Value):Sp:=fun vs H Q _=>∃(f st e0:Addr) (g:Gd) (F:List (Nat×V)) (ss:List Nat) (ok:cX g),vs=[.ref f,.ref st]∧iy mg H f g F e0∧wu H st (ss.map fun n=>(sN g.R g.C n,0))∧ss.length≤5∧(∀n∈ss,n<g.M)∧
 ∀(H':Hp) (t fa ba:Addr) (Fr B:List (Nat×V)) (far:Dj.Far) (back:Dj.Back),ax H H'→H' t=some (.tup [.ref fa,.ref ba])→H fa=none→H ba=none→H' fa=some (.dT (aX g.R g.C Fr))→H' ba=some (.dT (aX g.R g.C B))→Tb g.M Fr→Tb g.M B→A_ Fr far→ni g.R g.C H' B back→Dj.Told (gG g F ss ok) far back→Q (.ref t) H'
def wa:Sp:=fun vs H Q _=>∃(ba b:Addr) (g:Gd) (F B:List (Nat×V)) (ss:List Nat) (far:Dj.Far) (back:Dj.Back) (n:Nat) (W:List Nat),vs=[.ref ba,.ref b]∧j_ g.L g.R g.C∧H ba=some (.dT (aX g.R g.C B))∧ni g.R g.C H B back∧lV g.R g.C H b n∧Wb g F ss far back n W∧W.length≤900∧
 ∀(H':Hp) (l:Addr),ax H H'→eQ H' l (W.reverse.map (sN g.R g.C))→Q (.ref l) H'
def BJ (H0 H:Hp) (t:Addr) (g:Gd) (F:List (Nat×V)) (ss gs:List Nat) (far:Dj.Far) (back:Dj.Back):Prop:=∃(l u d:Addr) (k:Nat) (W:List Nat) (top:Int) (hs:List (Nat×V)),H t=some (.tup [.str "way",.ref l,.ref u])∧eQ H l (W.reverse.map (sN g.R g.C))∧H u=some (.tup [.int top,.ref d])∧H d=some (.dT (aX g.R g.C hs))∧(∀b x,H0 b=some x→(∀ps,x≠.tbl ps)→d≠b)∧Tb g.M hs∧
 k∈gs∧Wb g F ss far back k W∧far k=some top∧(∀j∈gs,∀q,far j=some q→top≤q)∧HR hs far top
def Bv (H:Hp) (t:Addr) (g:Gd) (gs:List Nat) (far:Dj.Far):Prop:=∃l:Addr,H t=some (.tup [.str "shore",.ref l])∧eQ H l (fS g.R g.C g.M fun n=>(far n).isSome)∧∀j∈gs,far j=none
def nX (K:CJ) (cF:Addr):Sp:=fun vs H Q _=>∃(p pr vi rd td e st go:Addr) (g:Gd) (F:List (Nat×V)) (ss gs:List Nat),vs=[.ref p,.ref e,.ref st,.ref go]∧FA cF H p pr vi rd td g∧cX g∧H e=some (.dT (aX g.R g.C F))∧Tb g.M F∧e≠rd∧e≠td∧B9 K H∧
 eQ H st (ss.map (sN g.R g.C))∧ss.length≤5∧(∀n∈ss,n<g.M∧(aR F n).isSome=true)∧eQ H go (gs.map (sN g.R g.C))∧gs.length≤5∧(∀n∈gs,n<g.M)∧
 ∀(H':Hp) (t:Addr) (far:Dj.Far) (back:Dj.Back),B4 K H H'→tY g F ss far back→(BJ H H' t g F ss gs far back∨Bv H' t g gs far)→Q (.ref t) H'
def qF:Sp:=fun vs H Q _=>∃(u:Addr) (c k R C:Int) (us:List Nat),vs=[.ref u,.int c,.int k]∧eQ H u (us.map (sN R C))∧0<us.length∧us.length≤900∧1≤k∧k≤4∧
 ∀(H':Hp) (l:Addr) (ss:List Nat),ax H H'→H l=none→eQ H' l (ss.map (sN R C))→ss.length≤4→(∀n∈ss,n∈us)→Q (.ref l) H'
def jd:Sp:=fun vs H Q _=>∃i:Int,vs=[.int i]∧Q (.bl true) H
def oN:Sp:=fun vs H Q _=>∃(t e u d st go:Addr) (g:Gd) (F hs:List (Nat×V)) (ss gs:List Nat) (far:Dj.Far) (back:Dj.Back) (top:Int),vs=[.ref t,.ref e,.ref u,.ref st,.ref go]∧Gr H t g∧cX g∧H e=some (.dT (aX g.R g.C F))∧Tb g.M F∧
 (∀z ro pr vi td,GT H t z ro pr vi td→td≠e)∧H u=some (.tup [.int top,.ref d])∧H d=some (.dT (aX g.R g.C hs))∧d≠e∧Tb g.M hs∧eQ H st (ss.map (sN g.R g.C))∧eQ H go (gs.map (sN g.R g.C))∧
 tY g F ss far back∧HR hs far top∧0≤top∧(∀j∈gs,∀q,far j=some q→top≤q)∧∀H',ax H H'→Q (.bl true) H'
def q_:Sp:=fun vs H Q _=>∃(t e l st go:Addr) (g:Gd) (F:List (Nat×V)) (ss gs:List Nat) (far:Dj.Far) (back:Dj.Back) (top:Int) (k:Nat) (W:List Nat),vs=[.ref t,.ref e,.ref l,.int top,.ref st,.ref go]∧Gr H t g∧cX g∧H e=some (.dT (aX g.R g.C F))∧Tb g.M F∧
 eQ H l (W.reverse.map (sN g.R g.C))∧eQ H st (ss.map (sN g.R g.C))∧eQ H go (gs.map (sN g.R g.C))∧tY g F ss far back∧k∈gs∧Wb g F ss far back k W∧far k=some top∧∀H',ax H H'→Q (.bl true) H'
def oy:Sp:=fun vs H Q _=>∃(t e st:Addr) (g:Gd) (F:List (Nat×V)) (ss:List Nat) (far:Dj.Far) (back:Dj.Back),vs=[.ref t,.ref e,.ref st]∧Gr H t g∧cX g∧H e=some (.dT (aX g.R g.C F))∧Tb g.M F∧eQ H st (ss.map (sN g.R g.C))∧ss.length≤4∧tY g F ss far back∧
 ∀(H':Hp) (l:Addr),ax H H'→eQ H' l (fS g.R g.C g.M fun n=>(far n).isSome)→Q (.ref l) H'
def sF (K:CJ):Sp:=fun vs H Q _=>∃(a:Addr) (ns:List Int),vs=[.ref a]∧bg K H a (ns.map V.int)∧ns.length≤63∧H (dR K "arcs_in").2=some (.tbl #[])∧∀H',Q (.bl true) H'
section
variable {P:Program} {w:World} {K:CJ} {mg:Str→Option Value} {base:Heap}
set_option maxHeartbeats 1000000
theorem BW(T:eV K mg cFloor cHeap cMS)(f c c':Addr)(A:Around)(outer:List Env)(s:Shared)(H:Hp)(hr:bj 0 (A.deeper (jz qj jQ [("leads",c)] s.heap.objs.size f (.ref c')))):
  PE (sW P w K mg base ["spot"] [("leads",c)] qj jQ f (.ref c') A outer s H) kX (zX K):=
 bK cq (by rfl) T.list_ cV (ab (eY Fw EJ Fx (iu hr) (pv 1) (ab (pv 0) (ab (cT aq) aq))) aq)
theorem xS(T:eV X.K X.mg cFloor cHeap cMS)(hr:bj 1 X.A)(f:Addr):dO X (.ref f) (Ag X.mg X.K f):=
 tJ (k:=0) (name:= "<lambda>") (qual:=qj) (params:=o7) (body:=kX) (scope:=jQ) (pm:=(X.mg "__name__").getD .none) (te:=zX X.K) (y:= "leads") (ps:=["spot"]) hr BS (fun s us c c' ctv h=>BX s us c c' _ ctv h) (fun f c c' A outer s H hr=>BW T f c c' A outer s H hr) f
theorem uo(F:dW K "inside" "inside" gJ f fd)(T:eV K mg cFloor cHeap cMS):bJ P w K mg base dw 1 f fd ["sizes", "spot"] iY:=by
 have sc:aM ["sizes", "spot", "layers", "rows", "columns", "layer", "row", "column"] ["sizes", "spot"] (au gJ):=⟨rfl,rfl,rfl,by decide+kernel,rfl,by decide+kernel,by decide+kernel⟩
 refine F.ok sc (fun vs H Q E h=>by repeat (first|(obtain⟨rfl,_⟩:=h;rfl)|(obtain⟨_,h⟩:=h))) (fun cdv A outer s H vs Q E hr h=>?_)
 obtain⟨a,b,L,R,C,l,r,c,rfl,ha,hb,q⟩:=h
 refine⟨_,(ao (dz (pv 0) (dY rfl (aY (aD (i:=2) sc.nd rfl (Or.inl rfl)) (aY (aD (i:=3) sc.nd rfl (Or.inl rfl)) (aY (aD (i:=4) sc.nd rfl (Or.inl rfl)) cO)))))
 (ao (dz (pv 1) (dY rfl (aY (aD (i:=5) sc.nd rfl (Or.inl rfl)) (aY (aD (i:=6) sc.nd rfl (Or.inl rfl)) (aY (aD (i:=7) sc.nd rfl (Or.inl rfl)) cO)))))
 (aw (aP (kK (lD jL fR ai (pv 5) (pv 2)) (kK (lD jL fR ai (pv 6) (pv 3)) (o8 (lD jL fR ai (pv 7) (pv 4))))))))),?_⟩
 refine rn (ae rfl) (bH.of ha) ?_
 refine rn (ae rfl) (bH.of hb) ?_
 exact cw (g9 (rJ (gA az (ae rfl) (ae rfl)) fun _=>rJ (gA az (ae rfl) (ae rfl)) fun _=>gA az (ae rfl) (ae rfl)) (congrArg V.bl AO)) q
theorem ua(F:dW K "check_sizes" "check_sizes" gT f fd)(hB:K.In base)(T:eV K mg cFloor cHeap cMS):bJ P w K mg base dw 1 f fd ["sizes", "prices", "vias"] lZ:=by
 have sc:aM ["sizes", "prices", "vias", "size", "most"] ["sizes", "prices", "vias"] (au gT):=⟨rfl,rfl,rfl,by decide+kernel,rfl,by decide+kernel,by decide+kernel⟩
 refine F.ok sc (fun vs H Q E h=>by repeat (first|(obtain⟨rfl,_⟩:=h;rfl)|(obtain⟨_,h⟩:=h))) (fun cdv A outer s H vs Q E hr h=>?_)
 obtain⟨z,pr,vi,L,R,C,xs,ys,rfl,hz,sz,hp,b,hv,c,q⟩:=h
 refine⟨_,(ao (bP PassesOwn.never rfl (yo (by rfl) T.zip_ (ab (pv 0) (ab (qo (by rfl) (by exact T.g_MOST_SIZES)) aq))) (dY rfl (aY (aD (i:=3) sc.nd rfl (Or.inl rfl)) (aY (aD (i:=4) sc.nd rfl (Or.inl rfl)) cO)))
 (aw (bI (eE (qd jL jL ai (pv 3) (pv 4)))
 (aw fe)
 aQ)))
 (ao (bI (aI gk (aK bp (by rfl) T.len_ bW (ab (pv 1) aq)) (aC aH (pv 0) ai (fun _ _=>rfl)) (aV _))
 (aw fe)
 aQ)
 (aw (bI (aI gk (aK bp (by rfl) T.len_ bW (ab (pv 2) aq)) (aF dt (aC aH (pv 0) ai (fun _ _=>rfl)) ai) (aV _))
 (aw fe)
 aQ)))),?_⟩
 refine⟨_,rfl,z,cMS,rfl,⟨_,bH.of hz⟩,⟨_,T.t_MOST_SIZES _⟩,?_⟩
 refine wM (K:=K) (xs:=[.int L,.int R,.int C]) (ys:=[.int 4,.int 16,.int 16]) rfl (fun i σ H'=>∃x3 x4:Option V,σ=[some (.ref z),some (.ref pr),some (.ref vi),x3,x4]∧ax H H') ⟨none,none,rfl,ax.refl H⟩ (fun i σ H' _ ⟨_,_,_,s⟩=>⟨bH.of (s _ _ hz),T.t_MOST_SIZES _⟩) ?_ ?_
 ·rintro i x y p σ H2 hx hy np ⟨x3,x4,rfl,s2⟩
  obtain⟨n,m,rfl,rfl,n1,n2⟩:∃n m:Int,x=.int n∧y=.int m∧1≤n∧n≤m:=by
   match i,hx,hy with
   |0,hx,hy=>exact⟨L,4,(Option.some.inj hx).symm,(Option.some.inj hy).symm,sz.l0,sz.l1⟩
   |1,hx,hy=>exact⟨R,16,(Option.some.inj hx).symm,(Option.some.inj hy).symm,sz.r0,sz.r1⟩
   |2,hx,hy=>exact⟨C,16,(Option.some.inj hx).symm,(Option.some.inj hy).symm,sz.c0,sz.c1⟩
  refine⟨p,_,rfl,bH.of ag,rfl,_,_,rfl,_,_,rfl,rfl,?_⟩
  exact fB (eo (cE (aA (gA az (ae rfl) (ae rfl))) (by rw[decide_eq_true n1,decide_eq_true n2];rfl))) rfl ⟨_,_,rfl,s2.upd np⟩
 ·rintro σ H2 ⟨x3,x4,rfl,s2⟩
  have a:=s2 _ _ hz
  refine st ?_
  refine gz (cE (aA (eU (cn (ah (ae rfl) ay) fun Q' q'=>⟨_,_,rfl,.inl ⟨_,bg.of (s2 _ _ hp),rfl⟩,q'⟩) (aS (v:=.int L) (ae rfl) az (bH.of a) rfl))) (by rw[decide_eq_true b];rfl)) rfl ?_
  exact fB (cE (aA (eU (cn (ah (ae rfl) ay) fun Q' q'=>⟨_,_,rfl,.inl ⟨_,bg.of (s2 _ _ hv),rfl⟩,q'⟩) (aZ (aS (v:=.int L) (ae rfl) az (bH.of a) rfl) az))) (by rw[decide_eq_true c];rfl)) rfl (q _ s2)
theorem tO(F:dW K "check_price" "check_price" gF f fd)(hB:K.In base)(T:eV K mg cFloor cHeap cMS):bJ P w K mg base dw 1 f fd ["price", "least"] lz:=by
 have sc:aM ["price", "least"] ["price", "least"] (au gF):=⟨rfl,rfl,rfl,by decide+kernel,rfl,by decide+kernel,by decide+kernel⟩
 refine F.ok sc (fun vs H Q E h=>by repeat (first|(obtain⟨rfl,_⟩:=h;rfl)|(obtain⟨_,h⟩:=h))) (fun cdv A outer s H vs Q E hr h=>?_)
 obtain⟨x,m,rfl,h1,h2,q⟩:=h
 refine⟨_,(aw (bI (eE (qd jL jL (pv 1) (pv 0) (qo (by rfl) (by exact T.g_MOST_PRICE))))
 (aw fe)
 aQ)),?_⟩
 exact fB (eo (cE (aA (gA (ae rfl) (ae rfl) az)) (by rw[decide_eq_true h1,decide_eq_true h2];rfl))) rfl q
theorem rP(F:dW K "check_prices" "check_prices" eZ f fd)(T:eV K mg cFloor cHeap cMS)(gCPrice:aJ P w K mg base "check_price" 1 ["price", "least"] lz):bJ P w K mg base dw 2 f fd ["prices", "vias", "tolls"] jr:=by
 have sc:aM ["prices", "vias", "tolls", "ahead", "across", "price", "toll"] ["prices", "vias", "tolls"] (au eZ):=⟨rfl,rfl,rfl,by decide+kernel,rfl,by decide+kernel,by decide+kernel⟩
 refine F.ok sc (fun vs H Q E h=>by repeat (first|(obtain⟨rfl,_⟩:=h;rfl)|(obtain⟨_,h⟩:=h))) (fun cdv A outer s H vs Q E hr h=>?_)
 obtain⟨pr,vi,d,ps,ws,g,rfl,⟨as,hp,ht⟩,n,hv,p,hd,m,q⟩:=h
 refine⟨_,(ao (bP PassesOwn.never rfl (cg (pv 0)) (dY rfl (aY (aD (i:=3) sc.nd rfl (Or.inl rfl)) (aY (aD (i:=4) sc.nd rfl (Or.inl rfl)) cO)))
 (ao (bS (aN gCPrice (hr.mono (by decide)) (by rfl) (ab (pv 3) (ab ai aq))))
 (aw (bS (aN gCPrice (hr.mono (by decide)) (by rfl) (ab (pv 4) (ab ai aq)))))))
 (ao (bP PassesOwn.never rfl (cg (pv 1)) (aD (i:=5) sc.nd rfl (Or.inl rfl))
 (aw (bS (aN gCPrice (hr.mono (by decide)) (by rfl) (ab (pv 5) (ab ai aq))))))
 (aw (jx (bP PassesOwn.never rfl (tX (pv 2)) (aD (i:=6) sc.nd rfl (Or.inl rfl))
 (aw (bS (aN gCPrice (hr.mono (by decide)) (by rfl) (ab (pv 6) (ab ai aq)))))))))),?_⟩
 refine⟨_,rfl,pr,rfl,⟨_,bg.of hp⟩,?_⟩
 refine cZ (K:=K) (xs:=as.map V.ref) (fun i σ H'=>∃x3 x4:Option V,σ=[some (.ref pr),some (.ref vi),some (.ref d),x3,x4,none,none]∧ax H H') ⟨none,none,rfl,ax.refl H⟩ (fun i σ H' _ ⟨_,_,_,s⟩=>bg.of (s _ _ hp)) ?_ ?_
 ·rintro i x σ H2 hx ⟨x3,x4,rfl,s2⟩
  obtain⟨a,ha,rfl⟩:=cC hx
  obtain⟨c,hc,e⟩:=cc ht ha
  obtain⟨u,v,rfl,u1,u2,v1,v2⟩:=n c (C2 hc)
  refine⟨a,_,rfl,bH.of (s2 _ _ e),rfl,_,_,rfl,_,_,rfl,rfl,?_⟩
  refine⟨_,rfl,u,1,rfl,u1,u2,?_⟩
  exact⟨_,rfl,v,1,rfl,v1,v2,_,_,rfl,s2⟩
 ·rintro σ H2 ⟨x3,x4,rfl,s2⟩
  refine st ?_
  refine⟨_,rfl,vi,rfl,⟨_,bg.of (s2 _ _ hv)⟩,?_⟩
  refine cZ (K:=K) (xs:=ws.map V.int) (fun i σ H'=>∃x5:Option V,σ=[some (.ref pr),some (.ref vi),some (.ref d),x3,x4,x5,none]∧ax H H') ⟨none,rfl,s2⟩ (fun i σ H' _ ⟨_,_,s⟩=>bg.of (s _ _ hv)) ?_ ?_
  ·rintro i x σ H3 hx ⟨x5,rfl,s3⟩
   obtain⟨j,rfl,hj⟩:=AC hx
   obtain⟨j1,j2⟩:=p j (C2 hj)
   refine gn ?_
   exact⟨_,rfl,j,1,rfl,j1,j2,_,rfl,s3⟩
  ·rintro σ H3 ⟨x5,rfl,s3⟩
   have l:=s3 _ _ hd
   refine⟨d,.dT g,l,trivial,fun o=>?_⟩
   refine⟨_,rfl,d,o,.dT g,rfl,ag,trivial,?_⟩
   refine vW (fun i σ H'=>∃x6:Option V,σ=[some (.ref pr),some (.ref vi),some (.ref d),x3,x4,x5,x6]∧H'=upd H3 d (.frz o (.dT g))) ⟨none,rfl,rfl⟩ (fun i σ H' _ ⟨_,_,e⟩=>e▸ag) ?_ ?_
   ·rintro i x v σ H' ⟨k,b,hk,rfl,_⟩ hi ⟨x6,rfl,rfl⟩
    obtain⟨j,e,j1,j2⟩:=m _ (C2 hk)
    have e:v=.int j:=e
    subst e
    refine gn ?_
    exact⟨_,rfl,j,0,rfl,j1,j2,_,rfl,rfl⟩
   ·rintro σ H' ⟨x6,rfl,rfl⟩
    exact⟨ag,q _ (s3.trans (jn l))⟩
theorem rq(F:dW K "check_inside" "check_inside" eW f fd)(hB:K.In base)(T:eV K mg cFloor cHeap cMS)(gInside:aJ P w K mg base "inside" 1 ["sizes", "spot"] iY):bJ P w K mg base dw 2 f fd ["sizes", "spot"] gX:=by
 have sc:aM ["sizes", "spot"] ["sizes", "spot"] (au eW):=⟨rfl,rfl,rfl,by decide+kernel,rfl,by decide+kernel,by decide+kernel⟩
 refine F.ok sc (fun vs H Q E h=>by repeat (first|(obtain⟨rfl,_⟩:=h;rfl)|(obtain⟨_,h⟩:=h))) (fun cdv A outer s H vs Q E hr h=>?_)
 obtain⟨a,b,L,R,C,l,r,c,rfl,ha,hb,hi,q⟩:=h
 refine⟨_,(aw (bI (eE (eI (aN gInside (hr.mono (by decide)) (by rfl) (ab (pv 0) (ab (pv 1) aq)))))
 (aw fe)
 aQ)),?_⟩
 refine p7 ⟨_,rfl,_,rfl,a,b,L,R,C,l,r,c,rfl,ha,hb,_,rfl,?_⟩
 rw[decide_eq_true hi]
 exact hU q
theorem wA(F:dW K "spots_round" "spots_round" jq f fd)(T:eV K mg cFloor cHeap cMS):bJ P w K mg base dw 1 f fd ["spot"] ou:=by
 have sc:aM ["spot", "layer", "row", "column"] ["spot"] (au jq):=⟨rfl,rfl,rfl,by decide+kernel,rfl,by decide+kernel,by decide+kernel⟩
 refine F.ok sc (fun vs H Q E h=>by repeat (first|(obtain⟨rfl,_⟩:=h;rfl)|(obtain⟨_,h⟩:=h))) (fun cdv A outer s H vs Q E hr h=>?_)
 obtain⟨b,x,y,w,rfl,hb,q⟩:=h
 refine⟨_,(ao (dz (pv 0) (dY rfl (aY (aD (i:=1) sc.nd rfl (Or.inl rfl)) (aY (aD (i:=2) sc.nd rfl (Or.inl rfl)) (aY (aD (i:=3) sc.nd rfl (Or.inl rfl)) cO)))))
 (aw (aP (cT (ab (bM (ab (aF dt (pv 1) ai) (ab (pv 2) (ab (pv 3) aq)))) (ab (bM (ab (pv 1) (ab (aF dt (pv 2) ai) (ab (pv 3) aq)))) (ab (bM (ab (pv 1) (ab (pv 2) (ab (aF dt (pv 3) ai) aq)))) (ab (bM (ab (pv 1) (ab (pv 2) (ab (aF bB (pv 3) ai) aq)))) (ab (bM (ab (pv 1) (ab (aF bB (pv 2) ai) (ab (pv 3) aq)))) (ab (bM (ab (aF bB (pv 1) ai) (ab (pv 2) (ab (pv 3) aq)))) aq)))))))))),?_⟩
 refine rn (ae rfl) (bH.of hb) ?_
 refine yG ?_
 have s0:ax H H:=ax.refl H
 refine eS (vs:=[.int (x - 1),.int y,.int w]) ?_ (by show 3≤sizeLine;decide) fun p1 n1=>?_
 ·exact ah (aZ (ae rfl) az) (ah (ae rfl) (ah (ae rfl) ay))
 have s1:ax H (upd H p1 (.tup [.int (x - 1),.int y,.int w])):=(ax.refl H).upd n1
 have e1:upd H p1 (.tup [.int (x - 1),.int y,.int w]) p1=some (.tup [.int (x - 1),.int y,.int w]):=ag
 revert s1 e1
 generalize upd H p1 (.tup [.int (x - 1),.int y,.int w])=H1
 intro s1 e1
 refine eS (vs:=[.int x,.int (y - 1),.int w]) ?_ (by show 3≤sizeLine;decide) fun p2 n2=>?_
 ·exact ah (ae rfl) (ah (aZ (ae rfl) az) (ah (ae rfl) ay))
 have s2:ax H1 (upd H1 p2 (.tup [.int x,.int (y - 1),.int w])):=(ax.refl H1).upd n2
 have e2:upd H1 p2 (.tup [.int x,.int (y - 1),.int w]) p2=some (.tup [.int x,.int (y - 1),.int w]):=ag
 revert s2 e2
 generalize upd H1 p2 (.tup [.int x,.int (y - 1),.int w])=H2
 intro s2 e2
 refine eS (vs:=[.int x,.int y,.int (w - 1)]) ?_ (by show 3≤sizeLine;decide) fun p3 n3=>?_
 ·exact ah (ae rfl) (ah (ae rfl) (ah (aZ (ae rfl) az) ay))
 have s3:ax H2 (upd H2 p3 (.tup [.int x,.int y,.int (w - 1)])):=(ax.refl H2).upd n3
 have e3:upd H2 p3 (.tup [.int x,.int y,.int (w - 1)]) p3=some (.tup [.int x,.int y,.int (w - 1)]):=ag
 revert s3 e3
 generalize upd H2 p3 (.tup [.int x,.int y,.int (w - 1)])=H3
 intro s3 e3
 refine eS (vs:=[.int x,.int y,.int (w+1)]) ?_ (by show 3≤sizeLine;decide) fun p4 n4=>?_
 ·exact ah (ae rfl) (ah (ae rfl) (ah (aZ (ae rfl) az) ay))
 have s4:ax H3 (upd H3 p4 (.tup [.int x,.int y,.int (w+1)])):=(ax.refl H3).upd n4
 have e4:upd H3 p4 (.tup [.int x,.int y,.int (w+1)]) p4=some (.tup [.int x,.int y,.int (w+1)]):=ag
 revert s4 e4
 generalize upd H3 p4 (.tup [.int x,.int y,.int (w+1)])=H4
 intro s4 e4
 refine eS (vs:=[.int x,.int (y+1),.int w]) ?_ (by show 3≤sizeLine;decide) fun p5 n5=>?_
 ·exact ah (ae rfl) (ah (aZ (ae rfl) az) (ah (ae rfl) ay))
 have s5:ax H4 (upd H4 p5 (.tup [.int x,.int (y+1),.int w])):=(ax.refl H4).upd n5
 have e5:upd H4 p5 (.tup [.int x,.int (y+1),.int w]) p5=some (.tup [.int x,.int (y+1),.int w]):=ag
 revert s5 e5
 generalize upd H4 p5 (.tup [.int x,.int (y+1),.int w])=H5
 intro s5 e5
 refine eS (vs:=[.int (x+1),.int y,.int w]) ?_ (by show 3≤sizeLine;decide) fun p6 n6=>?_
 ·exact ah (aZ (ae rfl) az) (ah (ae rfl) (ah (ae rfl) ay))
 have s6:ax H5 (upd H5 p6 (.tup [.int (x+1),.int y,.int w])):=(ax.refl H5).upd n6
 have e6:upd H5 p6 (.tup [.int (x+1),.int y,.int w]) p6=some (.tup [.int (x+1),.int y,.int w]):=ag
 revert s6 e6
 generalize upd H5 p6 (.tup [.int (x+1),.int y,.int w])=H6
 intro s6 e6
 refine⟨by show 6≤sizeLine;decide,fun l nl=>?_⟩
 have s7:ax H6 (upd H6 l (.lst [.ref p1,.ref p2,.ref p3,.ref p4,.ref p5,.ref p6])):=(ax.refl H6).upd nl
 have a:=((((s2.trans s3).trans s4).trans s5).trans s6).trans s7
 have d:=(((s3.trans s4).trans s5).trans s6).trans s7
 have g:=((s4.trans s5).trans s6).trans s7
 have c:=(s5.trans s6).trans s7
 have e:=s6.trans s7
 refine q _ l (s1.trans a) (c_ (((((s1.trans s2).trans s3).trans s4).trans s5).trans s6) nl) ⟨[p1,p2,p3,p4,p5,p6],ag,?_⟩
 exact .cons (a _ _ e1) (.cons (d _ _ e2) (.cons (g _ _ e3) (.cons (c _ _ e4) (.cons (e _ _ e5) (.cons (s7 _ _ e6) .nil)))))
theorem vF(F:xv K "__init__" "Floor.__init__" df f fd)(T:eV K mg cFloor cHeap cMS)(gCSizes:aJ P w K mg base "check_sizes" 1 ["sizes", "prices", "vias"] lZ)(gCPrices:aJ P w K mg base "check_prices" 2 ["prices", "vias", "tolls"] jr)(gCInside:aJ P w K mg base "check_inside" 2 ["sizes", "spot"] gX):bJ P w K mg base dw 3 f fd ["self", "sizes", "prices", "vias", "rocks", "tolls"] (oH cFloor):=by
 have sc:aM ["self", "sizes", "prices", "vias", "rocks", "tolls", "told_rocks", "told_tolls", "spot"] ["self", "sizes", "prices", "vias", "rocks", "tolls"] (au df):=⟨rfl,rfl,rfl,by decide+kernel,rfl,by decide+kernel,by decide+kernel⟩
 refine F.ok sc (fun vs H Q E h=>by repeat (first|(obtain⟨rfl,_⟩:=h;rfl)|(obtain⟨_,h⟩:=h))) (fun cdv A outer s H vs Q E hr h=>?_)
 obtain⟨p,dx,z,pr,vi,r,t,g,rfl,hp,hg,hz,ad,Z,hR,hT,q⟩:=h
 refine⟨_,(ao (aO (i:=6) sc.nd rfl (Or.inl rfl) (kI (aI wK (pv 4) o_ (aV _)) (cT aq) (pv 4)))
 (ao (aO (i:=7) sc.nd rfl (Or.inl rfl) (kI (aI wK (pv 5) o_ (aV _)) dJ (pv 5)))
 (ao (bS (aN gCSizes (hr.mono (by decide)) (by rfl) (ab (pv 1) (ab (pv 2) (ab (pv 3) aq)))))
 (ao (bS (aN gCPrices (hr.mono (by decide)) (by rfl) (ab (pv 2) (ab (pv 3) (ab (pv 7) aq)))))
 (ao (bP PassesOwn.never rfl (cg (pv 6)) (aD (i:=8) sc.nd rfl (Or.inl rfl))
 (aw (bS (aN gCInside (hr.mono (by decide)) (by rfl) (ab (pv 1) (ab (pv 8) aq))))))
 (ao (jx (bP PassesOwn.never rfl (iM (pv 7)) (aD (i:=8) sc.nd rfl (Or.inl rfl))
 (aw (bS (aN gCInside (hr.mono (by decide)) (by rfl) (ab (pv 1) (ab (pv 8) aq)))))))
 (ao (jj (pv 0) (pv 1) rfl)
 (ao (jj (pv 0) (jX (ls:=["ahead", "across"]) (ys:=[]) (ix:=[]) rfl ⟨rfl,by rfl,by rfl,by rfl,by rfl,rfl⟩ (cg (pv 2)) (fun _ _ _ _ _=>(o3 (K:=K) (n:=2) rfl rfl (aY (aD (i:=0) (show(["ahead", "across"]:List Str).Nodup by decide+kernel) rfl (Or.inl rfl) (hf:=.inr rfl)) (aY (aD (i:=1) (show(["ahead", "across"]:List Str).Nodup by decide+kernel) rfl (Or.inl rfl) (hf:=.inr rfl)) cO)) rfl rfl)) (fun _ _ _ _ _=>gx) (fun _ _ _ _ _=>(bM (ab (pv 0) (ab (pv 1) aq))))) rfl)
 (ao (jj (pv 0) (bK cq (by rfl) T.list_ cV (ab (pv 3) aq)) rfl)
 (ao (jj (pv 0) (bK (fZ rfl hr) (by rfl) T.dict_ fA (ab (jX (ls:=["spot"]) (ys:=[]) (ix:=[]) rfl ⟨rfl,by rfl,by rfl,by rfl,by rfl,rfl⟩ (cg (pv 6)) (fun _ _ _ _ _=>(aD (i:=0) (show(["spot"]:List Str).Nodup by decide+kernel) rfl (Or.inl rfl))) (fun _ _ _ _ _=>gx) (fun _ _ _ _ _=>(bM (ab (pv 0) (ab dy aq))))) aq)) rfl)
 (aw (jj (pv 0) (bK gL (by rfl) T.dict_ fA (ab (pv 7) aq)) rfl)))))))))))),?_⟩
 have c6:sizeLine=2^24:=rfl
 have S:=hg.S
 have hm:=hg.m
 have c1:=hg.rl
 have few:=hg.tt.few
 refine sX (fun v H1=>∃ro,v=.ref ro∧ax H H1∧eQ H1 ro (g.rs.map (sN g.R g.C))) (fun Q' hQ=>?_) ?_
 ·rcases hR with ⟨rfl,e⟩|⟨ro,rfl,h⟩
  ·refine Ar (cE (aA (oj (ae rfl) az)) (by rfl)) ⟨C8 _,fun d nd=>?_⟩
   exact hQ _ _ ⟨d,rfl,(ax.refl H).upd nd,[],ag,by rw[e];exact .nil⟩
  ·refine z_ (cE (aA (oj (ae rfl) az)) (by rfl)) ⟨_,rfl,?_⟩
   exact hQ _ _ ⟨ro,rfl,ax.refl H,h⟩
 rintro v1 H1 ⟨ro,rfl,s1,cr⟩
 refine sX (fun v H2=>∃td,v=.ref td∧ax H1 H2∧H2 td=some (.dT (aX g.R g.C g.ts))) (fun Q' hQ=>?_) ?_
 ·rcases hT with ⟨rfl,e⟩|⟨td,rfl,h⟩
  ·refine Ar (cE (aA (oj (ae rfl) az)) (by rfl)) fun d nd=>?_
   exact hQ _ _ ⟨d,rfl,(ax.refl H1).upd nd,by rw[e];exact ag⟩
  ·refine z_ (cE (aA (oj (ae rfl) az)) (by rfl)) ⟨_,rfl,?_⟩
   exact hQ _ _ ⟨td,rfl,ax.refl H1,s1 _ _ h⟩
 rintro v2 H2 ⟨d,rfl,bx,b3⟩
 have s2:=s1.trans bx
 obtain⟨ps,h3,h4⟩:=ad.same s2
 have cl:ps.length=g.ps.length:=Paired.length h4
 have c4:=S.l1
 have c0:=hg.pl
 refine cu fun Ra hRa=>?_
 refine⟨_,rfl,_,rfl,_,rfl,z,pr,vi,g.L,g.R,g.C,_,_,rfl,s2 _ _ hz,S,h3,by rw[CK,cl];exact hg.pl,s2 _ _ Z,by rw[CK];exact hg.vl,fun H3 s3'=>?_⟩
 refine hRa _ _ ?_
 have s3:=s2.trans s3'
 refine cu fun Rb hRb=>?_
 refine⟨_,rfl,_,rfl,_,rfl,pr,vi,d,g.ps,g.vs,_,rfl,ad.same s3,hg.pp,s3 _ _ Z,hg.vv,s3' _ _ b3,?_,fun H4 s4'=>?_⟩
 ·intro x hx
  obtain⟨y,hy,rfl⟩:=CU.mp hx
  exact hg.tv y hy
 refine hRb _ _ ?_
 have s4:=s3.trans s4'
 have aa:=s4' _ _ (s3' _ _ b3)
 obtain⟨as,L,bi⟩:=((cr.same bx).same s3').same s4'
 have c2:as.length=g.rs.length:=by rw[Paired.length bi,CK]
 have bd:∀n,n<g.M→∃x y w:Int,sN g.R g.C n=[x,y,w]∧kR g.L g.R g.C x y w∧Bd x y w:=fun n hn=>by
  have i:=jF S (n:=n) (by have:=hg.M;lia)
  refine⟨_,_,_,rfl,i,?_⟩
  obtain⟨a1,a2,a3,a4,a5,a6⟩:=i
  have:=S.r1;have:=S.c1
  exact⟨⟨by lia,by lia⟩,⟨by lia,by lia⟩,⟨by lia,by lia⟩⟩
 refine cu fun Rc hRc=>?_
 refine⟨_,rfl,ro,rfl,⟨_,bg.of L⟩,?_⟩
 refine cZ (K:=K) (xs:=as.map V.ref) (fun i σ H'=>∃x8:Option V,σ=[some (.ref p),some (.ref z),some (.ref pr),some (.ref vi),some r,some t,some (.ref ro),some (.ref d),x8]∧H4=H') ⟨none,rfl,rfl⟩ (fun i σ H' _ ⟨_,_,e⟩=>e▸bg.of L) ?_ ?_
 ·rintro i x σ H' hx ⟨x8,rfl,rfl⟩
  obtain⟨a,ha,rfl⟩:=cC hx
  obtain⟨c,hc,J⟩:=cc bi ha
  obtain⟨n,hn,rfl⟩:=CU.mp (C2 hc)
  obtain⟨x,y,w,e,hi,hb⟩:=bd n (hg.rr n hn)
  rw[e] at J
  refine gn ?_
  exact⟨_,rfl,_,rfl,z,a,g.L,g.R,g.C,x,y,w,rfl,s4 _ _ hz,J,hi,⟨_,rfl,rfl⟩⟩
 rintro σ H' ⟨x8,rfl,rfl⟩
 refine hRc _ _ ?_
 refine cu fun Rd hRd=>?_
 refine⟨d,.dT (aX g.R g.C g.ts),aa,trivial,fun o=>?_⟩
 refine⟨_,rfl,d,o,.dT (aX g.R g.C g.ts),rfl,ag,trivial,?_⟩
 have ce:z≠d:=cN (s4 _ _ hz) aa (fun z=>nomatch z)
 refine iU (fun i σ H'=>∃x8:Option V,σ=[some (.ref p),some (.ref z),some (.ref pr),some (.ref vi),some r,some t,some (.ref ro),some (.ref d),x8]∧H'=upd H4 d (.frz o (.dT (aX g.R g.C g.ts)))) ⟨x8,rfl,rfl⟩ (fun i σ H' _ ⟨_,_,e⟩=>e▸ag) ?_ ?_
 ·rintro i x v σ H' ⟨k,b,hk,rfl,hb⟩ hi ⟨x8,rfl,rfl⟩
  obtain⟨y,hy,e⟩:=CU.mp (C2 hk)
  have e:(iK (sN g.R g.C y.1),y.2)=(k,v):=e
  cases e
  obtain⟨x,y',w,e,hi,c3⟩:=bd y.1 (hg.tt.lt y hy)
  have hb:upd H4 d (.frz o (.dT (aX g.R g.C g.ts))) b=some (.tup ((sN g.R g.C y.1).map V.int)):=by
   have:=hb
   unfold iK at this
   rw[eM] at this
   exact this
  rw[e] at hb
  refine gn ?_
  exact⟨_,rfl,_,rfl,z,b,g.L,g.R,g.C,x,y',w,rfl,(by show upd H4 d _ z=_;rw[aj ce];exact s4 _ _ hz),hb,hi,⟨_,rfl,rfl⟩⟩
 rintro σ H5 ⟨x8,rfl,rfl⟩
 refine⟨ag,?_⟩
 refine hRd _ _ ?_
 have B:ax H4 (upd (upd H4 d (.frz o (.dT (aX g.R g.C g.ts)))) d (.dT (aX g.R g.C g.ts))):=jn aa
 revert B
 generalize upd (upd H4 d (.frz o (.dT (aX g.R g.C g.ts)))) d (.dT (aX g.R g.C g.ts))=H5
 intro B
 have s5:=s4.trans B
 have b2:=B _ _ aa
 have m:=s5 _ _ hp
 have af:d≠p:=cN b2 m (fun z=>nomatch z)
 have b0:z≠p:=cN (s5 _ _ hz) m (fun z=>nomatch z)
 have br:ro≠p:=cN (B _ _ L) m (fun z=>nomatch z)
 have b1:vi≠p:=cN (s5 _ _ Z) m (fun z=>nomatch z)
 have ck:pr≠p:=cN (ad.same s5).choose_spec.1 m (fun z=>nomatch z)
 refine cu fun Re hRe=>?_
 refine⟨_,rfl,_,rfl,p,cFloor,dx,[],rfl,m,T.cl_Floor,T.na_Floor_sizes,(by decide),?_⟩
 refine hRe _ _ ?_
 rw[CB]
 have b6:fW H (upd H5 p (.ins cFloor dx [("sizes",.ref z)])) p:=(fW.of s5).up
 have I:upd H5 p (.ins cFloor dx [("sizes",.ref z)]) p=some (.ins cFloor dx [("sizes",.ref z)]):=ag
 have a9:upd H5 p (.ins cFloor dx [("sizes",.ref z)]) d=some (.dT (aX g.R g.C g.ts)):=by rw[aj af];exact b2
 have a0:eQ (upd H5 p (.ins cFloor dx [("sizes",.ref z)])) ro (g.rs.map (sN g.R g.C)):=⟨as,by rw[aj br];exact B _ _ L,aB bi fun b xs e=>by rw[aj (cN (B _ _ e) m (fun z=>nomatch z))];exact B _ _ e⟩
 have am:upd H5 p (.ins cFloor dx [("sizes",.ref z)]) vi=some (.lst (g.vs.map V.int)):=b6 _ _ b1 Z
 have X:eQ (upd H5 p (.ins cFloor dx [("sizes",.ref z)])) pr g.ps:=by
  obtain⟨j,e1,e2⟩:=ad.same s5
  exact⟨j,by rw[aj ck];exact e1,aB e2 fun b xs e=>by rw[aj (cN e m (fun z=>nomatch z))];exact e⟩
 revert b6 I a9 a0 am X
 generalize upd H5 p (.ins cFloor dx [("sizes",.ref z)])=H6
 intro b6 I a9 a0 am X
 obtain⟨b4,e6,t6⟩:=X
 refine cu fun Rf hRf=>?_
 refine⟨_,rfl,pr,rfl,⟨_,bg.of e6⟩,fun D nD=>?_⟩
 refine dN (K:=K) (xs:=b4.map V.ref) (fun i τ H'=>∃(x0 x1:Option V) (us:List Addr),τ=[x0,x1]∧ax H6 H'∧H' D=some (.lst (us.map V.ref))∧bN H' us (g.ps.take i)∧us.length=i) ⟨none,none,[],rfl,(ax.refl H6).upd nD,ag,.nil,rfl⟩ (fun i τ H' _ ⟨_,_,_,_,s,_⟩=>bg.of (s _ _ e6)) ?_ ?_
 ·rintro i x τ H' hx ⟨x0,x1,us,rfl,s,hD,ch,cF⟩
  obtain⟨a,ha,rfl⟩:=cC hx
  obtain⟨c,hc,J⟩:=cc t6 ha
  obtain⟨u,v,rfl,_⟩:=hg.pp c (C2 hc)
  have hi:i<b4.length:=(C7.mp ha).1
  have:=Paired.length t6
  refine⟨a,_,rfl,bH.of (s _ _ J),rfl,?_⟩
  refine⟨_,_,rfl,gn ?_⟩
  refine⟨_,_,rfl,gn ?_⟩
  refine⟨rfl,?_⟩
  refine qm ?_
  refine⟨_,rfl,_,rfl,(by show 2≤sizeLine;decide),fun t nt=>?_⟩
  have R:t≠D:=CQ (ak hD nt)
  refine⟨us.map V.ref,(by rw[aj (CQ R)];exact hD),by rw[CK];lia,_,_,us++[t],rfl,bT (s.upd nt) nD,by rw[ag,C3];rfl,?_,by simp[cF]⟩
  rw[bE hc]
  exact cU (aB ch (bX hD nt)) (.cons (by rw[aj R,ag];rfl) .nil)
 rintro τ H7 ⟨x0,x1,us,rfl,s7,ci,b7,_⟩
 rw[CK,Paired.length t6,DR] at b7
 have al:D≠p:=CQ (ak I nD)
 refine⟨_,rfl,p,cFloor,dx,_,rfl,s7 _ _ I,T.cl_Floor,T.na_Floor_prices,(by simp),?_⟩
 refine hRf _ _ ?_
 rw[CD]
 have n6:∀a,H6 a=none→H a=none:=fun a n=>by
  cases e:H a with
  |none=>rfl
  |some o=>
   by_cases ap:a=p
   ·subst ap;rw[I] at n;cases n
   ·rw[b6 a o ap e] at n;cases n
 have b8:fW H (upd H7 p (.ins cFloor dx [("sizes",.ref z),("prices",.ref D)])) p:=(b6.st s7).up
 have M:upd H7 p (.ins cFloor dx [("sizes",.ref z),("prices",.ref D)]) p=some (.ins cFloor dx [("sizes",.ref z),("prices",.ref D)]):=ag
 have kp:∀a o,a≠p→H7 a=some o→upd H7 p (.ins cFloor dx [("sizes",.ref z),("prices",.ref D)]) a=some o:=fun a o n e=>by rw[aj n];exact e
 have W:eQ (upd H7 p (.ins cFloor dx [("sizes",.ref z),("prices",.ref D)])) D g.ps:=⟨us,kp _ _ al ci,aB b7 fun b xs e=>kp _ _ (cN e (s7 _ _ I) (fun z=>nomatch z)) e⟩
 have bo:eQ (upd H7 p (.ins cFloor dx [("sizes",.ref z),("prices",.ref D)])) ro (g.rs.map (sN g.R g.C)):=by
  obtain⟨j,e1,e2⟩:=a0.same s7
  exact⟨j,kp _ _ br e1,aB e2 fun b xs e=>kp _ _ (cN e (s7 _ _ I) (fun z=>nomatch z)) e⟩
 have bb:=kp _ _ af (s7 _ _ a9)
 have ba:=kp _ _ b1 (s7 _ _ am)
 have n8:∀a,upd H7 p (.ins cFloor dx [("sizes",.ref z),("prices",.ref D)]) a=none→H a=none:=fun a n=>n6 a (by
  cases e:H6 a with
  |none=>rfl
  |some o=>
   by_cases ap:a=p
   ·subst ap;rw[ag] at n;cases n
   ·rw[kp _ _ ap (s7 _ _ e)] at n;cases n)
 revert b8 M W bo bb ba n8
 clear kp
 generalize upd H7 p (.ins cFloor dx [("sizes",.ref z),("prices",.ref D)])=H8
 intro b8 M W bo bb ba n8
 have ct:H D=none:=n6 D nD
 refine cu fun Rg hRg=>?_
 refine⟨_,rfl,vi,_,rfl,.inl (bg.of ba),fun l nl=>?_⟩
 have co:=n8 l nl
 have s9:ax H8 (upd H8 l (.lst (g.vs.map V.int))):=(ax.refl H8).upd nl
 have bl:upd H8 l (.lst (g.vs.map V.int)) l=some (.lst (g.vs.map V.int)):=ag
 revert s9 bl
 generalize upd H8 l (.lst (g.vs.map V.int))=H9
 intro s9 bl
 have an:l≠p:=CQ (ak M nl)
 refine⟨_,rfl,p,cFloor,dx,_,rfl,s9 _ _ M,T.cl_Floor,T.na_Floor_vias,(by simp),?_⟩
 refine hRg _ _ ?_
 rw[Ct]
 have kp:∀a o,a≠p→H9 a=some o→upd H9 p (.ins cFloor dx [("sizes",.ref z),("prices",.ref D),("vias",.ref l)]) a=some o:=fun a o n e=>by rw[aj n];exact e
 have kt:∀b xs,H8 b=some (.tup xs)→upd H9 p (.ins cFloor dx [("sizes",.ref z),("prices",.ref D),("vias",.ref l)]) b=some (.tup xs):=fun b xs e=>kp _ _ (cN e M (fun z=>nomatch z)) (s9 _ _ e)
 have bA:fW H (upd H9 p (.ins cFloor dx [("sizes",.ref z),("prices",.ref D),("vias",.ref l)])) p:=(b8.st s9).up
 have N:upd H9 p (.ins cFloor dx [("sizes",.ref z),("prices",.ref D),("vias",.ref l)]) p=some (.ins cFloor dx [("sizes",.ref z),("prices",.ref D),("vias",.ref l)]):=ag
 have Y:eQ (upd H9 p (.ins cFloor dx [("sizes",.ref z),("prices",.ref D),("vias",.ref l)])) D g.ps:=by
  obtain⟨j,e1,e2⟩:=W
  exact⟨j,kp _ _ al (s9 _ _ e1),aB e2 kt⟩
 have bn:eQ (upd H9 p (.ins cFloor dx [("sizes",.ref z),("prices",.ref D),("vias",.ref l)])) ro (g.rs.map (sN g.R g.C)):=by
  obtain⟨j,e1,e2⟩:=bo
  exact⟨j,kp _ _ br (s9 _ _ e1),aB e2 kt⟩
 have ar:=kp _ _ af (s9 _ _ bb)
 have a8:=kp _ _ an bl
 have nA:∀a,upd H9 p (.ins cFloor dx [("sizes",.ref z),("prices",.ref D),("vias",.ref l)]) a=none→H a=none:=fun a n=>n8 a (by
  cases e:H8 a with
  |none=>rfl
  |some o=>
   by_cases ap:a=p
   ·subst ap;rw[ag] at n;cases n
   ·rw[kp _ _ ap (s9 _ _ e)] at n;cases n)
 revert bA N Y bn ar a8 nA
 clear kp kt
 generalize upd H9 p (.ins cFloor dx [("sizes",.ref z),("prices",.ref D),("vias",.ref l)])=HA
 intro bA N Y bn ar a8 nA
 obtain⟨a7,eA,tA⟩:=bn
 have b9:a7.length=g.rs.length:=by rw[Paired.length tA,CK]
 refine cu fun Ri hRi=>?_
 refine⟨_,rfl,ro,rfl,⟨_,bg.of eA⟩,fun D2 nD2=>?_⟩
 refine dN (K:=K) (xs:=a7.map V.ref) (fun i τ H'=>∃(x0:Option V) (es:List Addr),τ=[x0]∧ax HA H'∧H' D2=some (.lst (es.map V.ref))∧si H' es ((g.rs.take i).map fun n=>(iK (sN g.R g.C n),V.bl true))∧es.length=i) ⟨none,[],rfl,(ax.refl HA).upd nD2,ag,.nil,rfl⟩ (fun i τ H' _ ⟨_,_,_,s,_⟩=>bg.of (s _ _ eA)) ?_ ?_
 ·rintro i x τ H' hx ⟨x0,es,rfl,s,hD,ac,b5⟩
  obtain⟨a,ha,rfl⟩:=cC hx
  obtain⟨c,hc,J⟩:=cc tA ha
  rw[CW] at hc
  obtain⟨n,hn,rfl⟩:=Do.mp hc
  have hi:i<a7.length:=(C7.mp ha).1
  refine gn (qm ?_)
  refine⟨_,rfl,(by show 2≤sizeLine;decide),fun t nt=>?_⟩
  have R:t≠D2:=CQ (ak hD nt)
  refine⟨es.map V.ref,(by rw[aj (CQ R)];exact hD),by rw[CK];lia,_,es++[t],rfl,bT (s.upd nt) nD2,by rw[ag,C3];rfl,?_,by simp[b5]⟩
  rw[bE hn,C3]
  exact xB (si.mono ac (bX hD nt)) (.cons ⟨a,by rw[aj R,ag],bX hD nt _ _ (f_ (s _ _ J))⟩ .nil)
 rintro τ HB ⟨c5,es,rfl,sB,cd,ac,b5⟩
 rw[CK,b9,DR] at ac
 refine⟨D2,es,g.rs.map fun n=>(iK (sN g.R g.C n),V.bl true),rfl,cd,ac,fun rd nrd=>?_⟩
 rw[Al S]
 have ca:H rd=none:=nA rd (c_ sB nrd)
 have sC:ax HB (upd HB rd (.dT (aX g.R g.C (rk g.rs)))):=(ax.refl HB).upd nrd
 have bm:upd HB rd (.dT (aX g.R g.C (rk g.rs))) rd=some (.dT (aX g.R g.C (rk g.rs))):=ag
 have bc:rd≠p:=CQ (ak (sB _ _ N) nrd)
 revert sC bm
 generalize upd HB rd (.dT (aX g.R g.C (rk g.rs)))=HC
 intro sC bm
 have C:=sB.trans sC
 refine⟨_,rfl,p,cFloor,dx,_,rfl,C _ _ N,T.cl_Floor,T.na_Floor_rocks,(by simp),?_⟩
 refine hRi _ _ ?_
 rw[Cu]
 have kp:∀a o,a≠p→HC a=some o→upd HC p (.ins cFloor dx [("sizes",.ref z),("prices",.ref D),("vias",.ref l),("rocks",.ref rd)]) a=some o:=fun a o n e=>by rw[aj n];exact e
 have kt:∀b xs,HA b=some (.tup xs)→upd HC p (.ins cFloor dx [("sizes",.ref z),("prices",.ref D),("vias",.ref l),("rocks",.ref rd)]) b=some (.tup xs):=fun b xs e=>kp _ _ (cN e N (fun z=>nomatch z)) (C _ _ e)
 have bD:fW H (upd HC p (.ins cFloor dx [("sizes",.ref z),("prices",.ref D),("vias",.ref l),("rocks",.ref rd)])) p:=(bA.st C).up
 have O:upd HC p (.ins cFloor dx [("sizes",.ref z),("prices",.ref D),("vias",.ref l),("rocks",.ref rd)]) p=some (.ins cFloor dx [("sizes",.ref z),("prices",.ref D),("vias",.ref l),("rocks",.ref rd)]):=ag
 have U:eQ (upd HC p (.ins cFloor dx [("sizes",.ref z),("prices",.ref D),("vias",.ref l),("rocks",.ref rd)])) D g.ps:=by
  obtain⟨j,e1,e2⟩:=Y
  exact⟨j,kp _ _ al (C _ _ e1),aB e2 kt⟩
 have be:=kp _ _ af (C _ _ ar)
 have bu:=kp _ _ an (C _ _ a8)
 have av:=kp _ _ bc bm
 have bf:∀a,upd HC p (.ins cFloor dx [("sizes",.ref z),("prices",.ref D),("vias",.ref l),("rocks",.ref rd)]) a=none→H a=none:=fun a n=>nA a (by
  cases e:HA a with
  |none=>rfl
  |some o=>
   by_cases ap:a=p
   ·subst ap;rw[ag] at n;cases n
   ·rw[kp _ _ ap (C _ _ e)] at n;cases n)
 revert bD O U be bu av bf
 clear kp kt
 generalize upd HC p (.ins cFloor dx [("sizes",.ref z),("prices",.ref D),("vias",.ref l),("rocks",.ref rd)])=HD
 intro bD O U be bu av bf
 refine⟨_,rfl,d,rfl,.inr ⟨_,.inl be,kf S hg.M hg.tt,fun t nt=>?_⟩⟩
 have cm:=bf t nt
 have sE:ax HD (upd HD t (.dT (aX g.R g.C g.ts))):=(ax.refl HD).upd nt
 have bv:upd HD t (.dT (aX g.R g.C g.ts)) t=some (.dT (aX g.R g.C g.ts)):=ag
 have cv:t≠p:=CQ (ak O nt)
 revert sE bv
 generalize upd HD t (.dT (aX g.R g.C g.ts))=HE
 intro sE bv
 refine⟨_,rfl,p,cFloor,dx,_,rfl,sE _ _ O,T.cl_Floor,T.na_Floor_tolls,(by simp),?_⟩
 rw[Cn]
 refine q _ D l rd t (bD.st sE).up ct co ca cm ⟨⟨dx,z,ag,?_⟩,?_,?_,?_,?_⟩
 ·show upd HE p _ z=_
  rw[aj b0];exact sE _ _ (bD _ _ b0 hz)
 ·obtain⟨j,e1,e2⟩:=U
  exact⟨j,by rw[aj al];exact sE _ _ e1,aB e2 fun b xs e=>by rw[aj (cN e O (fun z=>nomatch z))];exact sE _ _ e⟩
 ·rw[aj an];exact sE _ _ bu
 ·rw[aj bc];exact sE _ _ av
 ·rw[aj cv];exact bv
theorem tV(F:dW K "is_rock" "Floor.is_rock" gW f fd)(T:eV K mg cFloor cHeap cMS)(gCInside:aJ P w K mg base "check_inside" 2 ["sizes", "spot"] gX):bJ P w K mg base dw 3 f fd ["self", "spot"] (kz cFloor):=by
 have sc:aM ["self", "spot"] ["self", "spot"] (au gW):=⟨rfl,rfl,rfl,by decide+kernel,rfl,by decide+kernel,by decide+kernel⟩
 refine F.ok sc (fun vs H Q E h=>by repeat (first|(obtain⟨rfl,_⟩:=h;rfl)|(obtain⟨_,h⟩:=h))) (fun cdv A outer s H vs Q E hr h=>?_)
 obtain⟨p,pr,vi,rd,td,b,g,x,y,w,rfl,hF,hg,hb,hi,q⟩:=h
 refine⟨_,(ao (bS (aN gCInside (hr.mono (by decide)) (by rfl) (ab (cD (pv 0) rfl) (ab (pv 1) aq))))
 (aw (aP (wg (lB (bj.one hr) (pv 1) (cD (pv 0) rfl)))))),?_⟩
 obtain⟨dx,z,h1,h2⟩:=hF.ex
 refine⟨_,rfl,p,cFloor,dx,_,_,rfl,h1,T.cl_Floor,T.na_Floor_sizes,Cg,_,rfl,z,b,g.L,g.R,g.C,x,y,w,rfl,h2,hb,hi,?_⟩
 refine⟨_,rfl,_,rfl,p,cFloor,dx,_,_,rfl,h1,T.cl_Floor,T.na_Floor_rocks,B_,rd,_,rfl,dg (x:=[x,y,w]) (.inl hF.rd) hb,?_⟩
 rw[zo hg.S]
 exact q
theorem uG(F:dW K "is_open" "Floor.is_open" gK f fd)(T:eV K mg cFloor cHeap cMS)(gInside:aJ P w K mg base "inside" 1 ["sizes", "spot"] iY):bJ P w K mg base dw 2 f fd ["self", "spot"] (kM cFloor):=by
 have sc:aM ["self", "spot"] ["self", "spot"] (au gK):=⟨rfl,rfl,rfl,by decide+kernel,rfl,by decide+kernel,by decide+kernel⟩
 refine F.ok sc (fun vs H Q E h=>by repeat (first|(obtain⟨rfl,_⟩:=h;rfl)|(obtain⟨_,h⟩:=h))) (fun cdv A outer s H vs Q E hr h=>?_)
 obtain⟨p,pr,vi,rd,td,b,g,x,y,w,rfl,hF,hg,hb,q⟩:=h
 refine⟨_,(aw (aP (kK (aN gInside (hr.mono (by decide)) (by rfl) (ab (cD (pv 0) rfl) (ab (pv 1) aq))) (o8 (wg (eB (bj.one hr) (pv 1) (cD (pv 0) rfl))))))),?_⟩
 obtain⟨dx,z,h1,h2⟩:=hF.ex
 refine pq ⟨_,rfl,p,cFloor,dx,_,_,rfl,h1,T.cl_Floor,T.na_Floor_sizes,Cg,_,rfl,z,b,g.L,g.R,g.C,x,y,w,rfl,h2,hb,_,rfl,?_⟩
 unfold w9 eg at q
 by_cases hi:kR g.L g.R g.C x y w
 ·rw[decide_eq_true hi]
  refine lG ?_
  have d:=dg (x:=[x,y,w]) (.inl hF.rd) hb
  refine(cW (ae rfl) (ku (ae rfl) h1 T.cl_Floor T.na_Floor_rocks B_) d) _ ?_
  rw[zo hg.S]
  rw[show decide (kR g.L g.R g.C ([x,y,w].getD 0 0) ([x,y,w].getD 1 0) ([x,y,w].getD 2 0))=true from decide_eq_true hi] at q
  exact q
 ·rw[decide_eq_false hi]
  refine hU ?_
  rw[show decide (kR g.L g.R g.C ([x,y,w].getD 0 0) ([x,y,w].getD 1 0) ([x,y,w].getD 2 0))=false from decide_eq_false hi] at q
  exact q
theorem uB(F:dW K "priced" "Floor.priced" gM f fd)(T:eV K mg cFloor cHeap cMS):bJ P w K mg base dw 1 f fd ["self", "one", "two"] (lO cFloor):=by
 have sc:aM ["self", "one", "two", "tolls", "ahead", "across"] ["self", "one", "two"] (au gM):=⟨rfl,rfl,rfl,by decide+kernel,rfl,by decide+kernel,by decide+kernel⟩
 refine F.ok sc (fun vs H Q E h=>by repeat (first|(obtain⟨rfl,_⟩:=h;rfl)|(obtain⟨_,h⟩:=h))) (fun cdv A outer s H vs Q E hr h=>?_)
 obtain⟨p,pr,vi,rd,td,a,b,g,x,y,w,x',y',w',rfl,hF,hg,ha,hb,hi,n,hn,q⟩:=h
 refine⟨_,(ao (aO (i:=3) sc.nd rfl (Or.inl rfl) (aF bB (eY Fw EJ Fx (iu hr) (cD (pv 0) rfl) (ab (pv 1) (ab ai aq))) (eY Fw EJ Fx (iu hr) (cD (pv 0) rfl) (ab (pv 2) (ab ai aq)))))
 (ao (bI (aI gk (aC aH (pv 1) ai (fun _ _=>rfl)) (aC aH (pv 2) ai (fun _ _=>rfl)) (aV _))
 (aw (aP (aF bB (aC aU (cD (pv 0) rfl) (aK (nJ rfl) (by rfl) T.min_ qE (ab (aC aH (pv 1) ai (fun _ _=>rfl)) (ab (aC aH (pv 2) ai (fun _ _=>rfl)) aq))) (fun _ _=>rfl)) (pv 3))))
 aQ)
 (ao (dz (aC aU (cD (pv 0) rfl) (aC aH (pv 1) ai (fun _ _=>rfl)) (fun _ _=>rfl)) (dY rfl (aY (aD (i:=4) sc.nd rfl (Or.inl rfl)) (aY (aD (i:=5) sc.nd rfl (Or.inl rfl)) cO))))
 (aw (aP (aF bB (kI (aI e_ (aC aH (pv 1) ai (fun _ _=>rfl)) (aC aH (pv 2) ai (fun _ _=>rfl)) (aV _)) (pv 4) (pv 5)) (pv 3))))))),?_⟩
 obtain⟨dx,z,h1,h2⟩:=hF.ex
 obtain⟨i1,i2,i3,i4,i5,i6⟩:=hi
 obtain⟨j1,j2,j3,j4,j5,j6⟩:=n
 have d1:=dg (x:=[x,y,w]) (.inl hF.td) ha
 have d2:=dg (x:=[x',y',w']) (.inl hF.td) hb
 refine gy (v:=.int (eO g.R g.C g.ts [x,y,w]+eO g.R g.C g.ts [x',y',w'])) (aZ (g9 (ki (ku (ae rfl) h1 T.cl_Floor T.na_Floor_tolls Ca) (ae rfl) az hF.td d1) (gY hg.tv _)) (g9 (ki (ku (ae rfl) h1 T.cl_Floor T.na_Floor_tolls Ca) (ae rfl) az hF.td d2) (gY hg.tv _))) ?_
 have r:=hg.vl
 have C:=hg.pl
 have B:x'=x∨x'=x - 1∨x'=x+1:=by
  unfold oG nV at hn
  simp only[CV,List.cons.injEq,D9,or_false,and_true] at hn
  lia
 refine gp (aA (eU (aS (v:=.int x) (ae rfl) az (bH.of ha) rfl) (aS (v:=.int x') (ae rfl) az (bH.of hb) rfl))) (fun e=>?_) (fun e=>?_)
 ·have e:x≠x':=by simpa using e
  have hm:(min x x').toNat<g.vs.length:=by lia
  have d:je (g.vs.map V.int) (if x'<x then x' else x)=some (.int (g.vs.getD (min x x').toNat 0)):=by
   rw[zm]
   have:min x x'=(((min x x').toNat:Nat):Int):=by lia
   rw[this]
   refine cA ?_
   rw[DQ,CW,Dc,Dd hm];rfl
  refine cw (g9 (aZ (bw (v:=.int (g.vs.getD (min x x').toNat 0)) (ku (ae rfl) h1 T.cl_Floor T.na_Floor_vias CC) (cn (v:=.int (if x'<x then x' else x)) (ah (aS (v:=.int x) (ae rfl) az (bH.of ha) rfl) (ah (aS (v:=.int x') (ae rfl) az (bH.of hb) rfl) ay)) fun Q' q'=>⟨_,_,rfl,q'⟩) (bg.of hF.vi) d) (ae rfl)) (c:=.int (dv g [x,y,w] [x',y',w'])) ?_) q
  unfold dv bare
  rw[if_pos (show [x,y,w].getD 0 0≠[x',y',w'].getD 0 0 from e)]
  show V.int (_+_)=V.int _
  congr 1
  exact E9 _ _
 ·have e:x=x':=by simpa using e
  obtain⟨as,p1,p2⟩:=hF.pr
  have hx:x.toNat<g.ps.length:=by lia
  have k:x.toNat<as.length:=by rw[Paired.length p2];exact hx
  obtain⟨aa,haa⟩:∃aa,as[x.toNat]?=some aa:=⟨_,Dd k⟩
  obtain⟨c,hc,l⟩:=cc p2 haa
  obtain⟨u,v,rfl,_⟩:=hg.pp c (C2 hc)
  have o:g.ps.getD x.toNat []=[u,v]:=by rw[Dc,hc];rfl
  have d:je (as.map V.ref) x=some (.ref aa):=by
   have:x=((x.toNat:Nat):Int):=by lia
   rw[this]
   refine cA ?_
   rw[CW,haa];rfl
  refine⟨_,rfl,p,cFloor,dx,_,_,rfl,h1,T.cl_Floor,T.na_Floor_prices,Cr,_,rfl,_,_,_,_,rfl,rfl,bH.of ha,rfl,_,_,_,_,rfl,rfl,bg.of p1,d,aa,_,rfl,bH.of l,rfl,_,_,rfl,_,_,rfl,rfl,?_⟩
  have j:bare g [x,y,w] [x',y',w']=if y=y' then u else v:=by
   unfold bare
   rw[if_neg (show¬[x,y,w].getD 0 0≠[x',y',w'].getD 0 0 from fun h=>h e)]
   show(if y=y' then (g.ps.getD x.toNat []).getD 0 0 else (g.ps.getD x.toNat []).getD 1 0)=_
   rw[o];rfl
  have m:dv g [x,y,w] [x',y',w']=(if y=y' then u else v)+(eO g.R g.C g.ts [x,y,w]+eO g.R g.C g.ts [x',y',w']):=by
   unfold dv
   rw[j];exact E9 _ _
  rw[m] at q
  refine st ?_
  refine pq (mO ?_)
  by_cases hy:y=y'
  ·rw[if_pos hy] at q
   refine Ar (cE (aA (dZ (aS (v:=.int y) (ae rfl) az (bH.of ha) rfl) (aS (v:=.int y') (ae rfl) az (bH.of hb) rfl))) (decide_eq_true hy)) ?_
   exact⟨_,rfl,_,rfl,_,_,rfl,rfl,q⟩
  ·rw[if_neg hy] at q
   refine z_ (cE (aA (dZ (aS (v:=.int y) (ae rfl) az (bH.of ha) rfl) (aS (v:=.int y') (ae rfl) az (bH.of hb) rfl))) (decide_eq_false hy)) ?_
   exact⟨_,rfl,_,rfl,_,_,rfl,rfl,q⟩
theorem wR(F:dW K "steps" "Floor.steps" jh f fd)(T:eV K mg cFloor cHeap cMS)(gRound:aJ P w K mg base "spots_round" 1 ["spot"] ou)(gIsRock:cj P w K mg base cFloor "is_rock" 3 ["self", "spot"] (kz cFloor))(gIsOpen:cj P w K mg base cFloor "is_open" 2 ["self", "spot"] (kM cFloor))(gPriced:cj P w K mg base cFloor "priced" 1 ["self", "one", "two"] (lO cFloor)):bJ P w K mg base dw 4 f fd ["self", "spot"] (n_ cFloor):=by
 have sc:aM ["self", "spot"] ["self", "spot"] (au jh):=⟨rfl,rfl,rfl,by decide+kernel,rfl,by decide+kernel,by decide+kernel⟩
 refine F.ok sc (fun vs H Q E h=>by repeat (first|(obtain⟨rfl,_⟩:=h;rfl)|(obtain⟨_,h⟩:=h))) (fun cdv A outer s H vs Q E hr h=>?_)
 obtain⟨p,pr,vi,rd,td,b,g,x,y,w,rfl,hF,hg,hb,hi,q⟩:=h
 refine⟨_,(ao (bI (eI (h_ (pv 0) T.cl_Floor gIsRock (hr.mono (by decide)) (ab (pv 1) aq)))
 (aw (aP (cT aq)))
 aQ)
 (aw (aP (jX (ls:=["other"]) (ys:=["spot", "self"]) (ix:=[1,0]) rfl ⟨rfl,by rfl,by rfl,by rfl,by rfl,rfl⟩ (cg (aN gRound (hr.mono (by decide)) (by rfl) (ab (pv 1) aq))) (fun _ _ _ _ _=>(aD (i:=0) (show(["other", "spot", "self"]:List Str).Nodup by decide+kernel) rfl (Or.inl rfl))) (fun _ _ _ _ _=>(jf (eI (h_ (pv 2) (by exact T.cl_Floor) (by exact gIsOpen) (by exact(hr.mono (by decide))) (ab (pv 0) aq))))) (fun _ _ _ _ _=>(bM (ab (pv 0) (ab (h_ (pv 2) (by exact T.cl_Floor) (by exact gPriced) (by exact(hr.mono (by decide))) (ab (pv 1) (ab (pv 0) aq))) aq)))))))),?_⟩
 have j:sizeLine=2^24:=rfl
 obtain⟨dx,z,h1,h2⟩:=hF.ex
 refine xV ⟨_,rfl,p,dx,_,rfl,h1,Co,_,rfl,p,pr,vi,rd,td,b,g,x,y,w,rfl,hF,hg,hb,hi,_,rfl,?_⟩
 by_cases hr:qD g [x,y,w]=true
 ·rw[hr]
  refine lG ?_
  refine⟨C8 _,fun l nl=>q _ l ((ax.refl H).upd nl) nl ⟨[],ag,?_⟩⟩
  unfold dS
  rw[if_pos hr];exact .nil
 ·rw[show qD g [x,y,w]=false by simpa using hr]
  refine hU ?_
  refine pq ⟨_,rfl,b,x,y,w,rfl,hb,fun H1 l s1 nl hl=>?_⟩
  obtain⟨as,e1,e2⟩:=hl
  refine⟨l,rfl,⟨_,bg.of e1⟩,fun D nD=>?_⟩
  refine pB (K:=K) (w9 g) (fun c=>dv g [x,y,w] c) [some (.ref b),some (.ref p)] nD (fun H' s=>bg.of (s _ _ e1)) e2 (by rw[Paired.length e2];unfold nV;simp) (fun a c H' hc e s=>?_) fun H' qs s hD hq=>?_
  ·have s2:=s1.trans s
   obtain⟨x',y',w',rfl⟩:∃x' y' w',c=[x',y',w']:=by
    unfold nV at hc
    simp only[CV,D9,or_false] at hc
    rcases hc with h|h|h|h|h|h<;>exact⟨_,_,_,h⟩
   refine⟨pZ fun Q' q'=>⟨_,rfl,p,dx,_,rfl,s2 _ _ h1,CA,_,rfl,p,pr,vi,rd,td,a,g,x',y',w',rfl,hF.same s2,hg,s _ _ e,q'⟩,fun ho=>fun Q' q'=>?_⟩
   have d:kR g.L g.R g.C x' y' w':=by
    unfold w9 eg at ho
    rw[EA] at ho
    exact of_decide_eq_true ho.1
   exact⟨_,rfl,p,dx,_,rfl,s2 _ _ h1,BL,_,rfl,_,rfl,p,pr,vi,rd,td,b,a,g,x,y,w,x',y',w',rfl,hF.same s2,hg,s2 _ _ hb,s _ _ e,hi,d,hc,q'⟩
  ·refine q H' D (s1.trans s) (c_ s1 nD) ⟨qs,hD,?_⟩
   unfold dS
   rw[if_neg hr]
   exact hq
theorem rF(F:dW K "leads_in" "leads_in" fv f fd)(T:eV K mg cFloor cHeap cMS)(gSteps:cj P w K mg base cFloor "steps" 4 ["self", "spot"] (n_ cFloor)):bJ P w K mg base dw 5 f fd ["floor", "free"] (jo cFloor):=by
 have sc:aM ["floor", "free", "leads", "spot"] ["floor", "free"] (au fv):=⟨rfl,rfl,rfl,by decide+kernel,rfl,by decide+kernel,by decide+kernel⟩
 refine F.ok sc (fun vs H Q E h=>by repeat (first|(obtain⟨rfl,_⟩:=h;rfl)|(obtain⟨_,h⟩:=h))) (fun cdv A outer s H vs Q E hr h=>?_)
 obtain⟨p,pr,vi,rd,td,e,g,F',rfl,hF,hg,he,hT,nr,nt,q⟩:=h
 refine⟨_,(ao (aO (i:=2) sc.nd rfl (Or.inl rfl) dJ)
 (ao (jx (bP PassesOwn.never rfl (iM (pv 1)) (aD (i:=3) sc.nd rfl (Or.inl rfl))
 (aw (dI (bj.one hr) (pv 2) (pv 3) (jX (ls:=["other", "price"]) (ys:=["free"]) (ix:=[1]) rfl ⟨rfl,by rfl,by rfl,by rfl,by rfl,rfl⟩ (cg (h_ (pv 0) T.cl_Floor gSteps (hr.mono (by decide)) (ab (pv 3) aq))) (fun _ _ _ _ _=>(o3 (K:=K) (n:=2) rfl rfl (aY (aD (i:=0) (show(["other", "price", "free"]:List Str).Nodup by decide+kernel) rfl (Or.inl rfl) (hf:=.inr rfl)) (aY (aD (i:=1) (show(["other", "price", "free"]:List Str).Nodup by decide+kernel) rfl (Or.inl rfl) (hf:=.inr rfl)) cO)) rfl rfl)) (fun _ _ _ _ _=>(jf (fI (lB (by exact(bj.one hr)) (pv 0) (pv 2))))) (fun _ _ _ _ _=>(bM (ab (pv 0) (ab (pv 1) aq))))) (by rfl)))))
 (aw (aP (pv 2))))),?_⟩
 have ba:sizeLine=2^24:=rfl
 have S:=hg.S
 have hm:=hg.m
 have few:=hT.few
 refine a_ fun Rh hRh=>fun d nd=>?_
 refine hRh _ _ ?_
 have s1:ax H (upd H d (.dT [])):=(ax.refl H).upd nd
 have X:upd H d (.dT []) d=some (.dT []):=ag
 revert s1 X
 generalize upd H d (.dT [])=H1
 intro s1 X
 have U:=s1 _ _ he
 have I:d≠e:=fun z=>by rw[z,he] at nd;cases nd
 refine⟨e,.dT (aX g.R g.C F'),U,trivial,fun o=>?_⟩
 refine⟨_,rfl,e,o,.dT (aX g.R g.C F'),rfl,ag,trivial,?_⟩
 have R:=hF.same s1
 have ar:Bt [e] H1 (upd H1 e (.frz o (.dT (aX g.R g.C F')))):=(Bt.refl _ H1).set (CP.mpr rfl)
 have Z:∀l∈[e],(∀xs,H1 l≠some (.tup xs))∧∀C dx fs,H1 l≠some (.ins C dx fs):=fun l hl=>by
  rw[CP.mp hl,U];exact⟨(fun _ z=>nomatch z),fun _ _ _ z=>nomatch z⟩
 have ac:∀{b:Addr} {zs:List V},H1 b=some (.lst zs)→b∉[e]:=fun{b zs} h m=>by rw[CP.mp m,U] at h;cases h
 obtain⟨a9,av,_⟩:=id R.pr
 have c:FA cFloor (upd H1 e (.frz o (.dT (aX g.R g.C F')))) p pr vi rd td g:=R.bt ar Z (ac av) (ac R.vi) (fun m=>nr (CP.mp m).symm) (fun m=>nt (CP.mp m).symm)
 have L:upd H1 e (.frz o (.dT (aX g.R g.C F'))) e=some (.frz o (.dT (aX g.R g.C F'))):=ag
 have M:upd H1 e (.frz o (.dT (aX g.R g.C F'))) d=some (.dT []):=by rw[aj I];exact X
 have N:∀H',Bt [d] (upd H1 e (.frz o (.dT (aX g.R g.C F')))) H'→ax H (upd H' e (.dT (aX g.R g.C F'))):=fun H' bt b x eb=>by
  by_cases z:b=e
  ·subst z;rw[ag,←he,eb]
  ·rw[aj z]
   refine bt b x (fun m=>?_) (by rw[aj z];exact s1 _ _ eb)
   rw[CP.mp m,nd] at eb;cases eb
 revert c L M N
 generalize upd H1 e (.frz o (.dT (aX g.R g.C F')))=HF
 intro c L M N
 obtain⟨dx,z,h1,h2⟩:=c.ex
 refine iU (fun i σ H'=>∃(x3:Option V) (ls:List (Nat×V)),σ=[some (.ref p),some (.ref e),some (.ref d),x3]∧Bt [d] HF H'∧H' d=some (.dT (aX g.R g.C ls))∧ls.map (·.1)=(F'.map (·.1)).take i∧∀y∈ls,∃l,y.2=.ref l∧wu H' l (iT g F' (sN g.R g.C y.1)))
  ⟨none,[],rfl,Bt.refl _ HF,M,by simp,fun _ h=>nomatch h⟩ (fun i σ H' _ ⟨_,_,_,bt,_⟩=>bt e _ (fun m=>I (CP.mp m).symm) L) ?_ ?_
 ·rintro i x v σ H' ⟨k,b,hk,rfl,hb⟩ hi ⟨x3,ls,rfl,bt,hd,r,Y⟩
  rw[show aX g.R g.C F'=F'.map fun p=>(iK (sN g.R g.C p.1),p.2) from rfl,CW] at hk
  obtain⟨y,hy,ey⟩:=Do.mp hk
  have ey:(iK (sN g.R g.C y.1),y.2)=(k,v):=ey
  cases ey
  have hb:H' b=some (.tup ((sN g.R g.C y.1).map V.int)):=by
   have:=hb
   unfold iK at this
   rw[eM] at this
   exact this
  have hn:=hT.lt y (C2 hy)
  have a5:=jF S (n:=y.1) (by have:=hg.M;lia)
  have kd:∀l∈[d],(∀xs,HF l≠some (.tup xs))∧∀C dx fs,HF l≠some (.ins C dx fs):=fun l hl=>by
   rw[CP.mp hl,M];exact⟨(fun _ z=>nomatch z),fun _ _ _ z=>nomatch z⟩
  have a4:FA cFloor H' p pr vi rd td g:=by
   obtain⟨a7,q1,_⟩:=id c.pr
   have nn:∀{b:Addr} {u:HO},HF b=some u→(∀kvs,u≠.dT kvs)→b∉[d]:=fun{b u} h hu m=>by
    rw[CP.mp m,M] at h;cases h;exact hu _ rfl
   refine c.bt bt kd (nn q1 fun _ z=>nomatch z) (nn c.vi fun _ z=>nomatch z) (fun m=>?_) (fun m=>?_)
   ·have:=hF.rd
    rw[CP.mp m,nd] at this;cases this
   ·have:=hF.td
    rw[CP.mp m,nd] at this;cases this
  have a3:=bt p _ (fun m=>(kd p m).2 _ _ _ h1) h1
  have J:=bt e _ (fun m=>I (CP.mp m).symm) L
  refine gn (pU ?_)
  refine⟨_,rfl,p,dx,_,rfl,a3,CG,_,rfl,p,pr,vi,rd,td,b,g,_,_,_,rfl,a4,hg,hb,a5,fun H2 l s2 nl hl=>?_⟩
  obtain⟨qs,e1,e2⟩:=hl
  replace e2:Paired (wt H2) qs (dS g (sN g.R g.C y.1)):=e2
  have lq:qs.length≤6:=by
   rw[Paired.length e2]
   unfold dS
   split
   ·simp
   ·rw[CK]
    exact Df (Fv _ _) (by unfold ig nV;simp)
  refine⟨l,rfl,⟨_,bg.of e1⟩,fun D nD=>?_⟩
  have an:=s2 _ _ J
  refine dN (K:=K) (xs:=qs.map V.ref) (fun i τ H3=>∃(x0 x1:Option V) (us:List Addr),τ=[x0,x1,some (.ref e)]∧ax H2 H3∧H3 D=some (.lst (us.map V.ref))∧Paired (wt H3) us (((dS g (sN g.R g.C y.1)).take i).filter fun x=>jN g.R g.C F' x.1)∧us.length≤i) ⟨none,none,[],rfl,(ax.refl H2).upd nD,ag,by simp;exact .nil,CM _⟩ (fun i τ H3 _ ⟨_,_,_,_,s,_⟩=>bg.of (s _ _ e1)) ?_ ?_
  ·rintro j x τ H3 hx ⟨x0,x1,us,rfl,s3,hD,B,a2⟩
   obtain⟨a,ha,rfl⟩:=cC hx
   obtain⟨ct,af,b',a0,ad⟩:=eh e2 ha
   have hj:j<qs.length:=(C7.mp ha).1
   refine⟨a,_,rfl,bH.of (s3 _ _ a0),rfl,?_⟩
   refine⟨_,_,rfl,gn ?_⟩
   refine⟨_,_,rfl,gn ?_⟩
   refine⟨rfl,?_⟩
   have a1:=dg (x:=ct.1) (.inr ⟨_,s3 _ _ an⟩) (s3 _ _ ad)
   refine(aA (oU (ae rfl) (ae rfl) a1)) _ ?_
   cases hf:(aR (aX g.R g.C F') (iK ct.1)).isSome with
   |true=>
    refine lG ?_
    refine kW (vs:=[.ref b',.int ct.2]) (ah (ae rfl) (ah (ae rfl) ay)) (by show 2≤sizeLine;decide) fun t nt=>?_
    have am:t≠D:=CQ (ak hD nt)
    refine⟨us.map V.ref,by rw[aj (CQ am)];exact hD,by rw[CK];lia,_,_,us++[t],rfl,bT (s3.upd nt) nD,by rw[ag,C3];rfl,?_,dQ (by assumption)⟩
    rw[bE af,DH,DJ (p:=fun x:T3×Int=>jN g.R g.C F' x.1) (a:=ct) hf]
    exact ip (cQ B (bX hD nt)) (.cons ⟨b',by rw[aj am,ag],bX hD nt _ _ (s3 _ _ ad)⟩ .nil)
   |false=>
    refine hU ⟨_,_,us,rfl,s3,hD,?_,by lia⟩
    rw[bE af,DH,DK (p:=fun x:T3×Int=>jN g.R g.C F' x.1) (a:=ct) (by show¬jN g.R g.C F' ct.1=true;unfold jN;rw[hf];decide),EF,Dw]
    exact B
  ·rintro τ H3 ⟨x0,x1,us,rfl,s3,hD,B,a2⟩
   rw[CK,Paired.length e2,DR] at B
   have O:=s2.trans s3
   have W:=O _ _ hd
   have al:(F'.map (·.1))[i]?=some y.1:=by rw[CW,hy];rfl
   have a6:aR ls y.1=none:=by
    cases ev:aR ls y.1 with
    |none=>rfl
    |some v=>
     have:=cb.mp (show(aR ls y.1).isSome=true by rw[ev];rfl)
     rw[r] at this
     exact absurd this (oI hT.nd al)
   have a8:ls.length≤F'.length:=by
    have:=congrArg List.length r
    rw[CK,Dx,CK] at this
    lia
   refine⟨_,rfl,_,rfl,d,_,rfl,fh.t (k:=iK (sN g.R g.C y.1)) W (f_ (O _ _ hb)) (by rw[b_];lia),?_⟩
   have ap:∀b xs,H3 b=some (.tup xs)→upd H3 d (.dT (bF (aX g.R g.C ls) (iK (sN g.R g.C y.1)) (.ref D))) b=some (.tup xs):=fun b xs e=>by rw[aj (cN e W (fun z=>nomatch z))];exact e
   have aa:∀{l:Addr} {xs:List (T3×Int)},wu H3 l xs→wu (upd H3 d (.dT (bF (aX g.R g.C ls) (iK (sN g.R g.C y.1)) (.ref D)))) l xs:=fun{l xs} ⟨qs,e1,e2⟩=>⟨qs,by rw[aj (cN e1 W (fun z=>nomatch z))];exact e1,cQ e2 ap⟩
   refine⟨_,ls++[(y.1,.ref D)],rfl,(bt.same O).set (CP.mpr rfl),?_,?_,fun z hz=>?_⟩
   ·rw[ag,ef S,kD _ a6]
   ·rw[C3,r,bE al];rfl
   ·rcases Dm.mp hz with hz|hz
    ·obtain⟨l',e3,e4⟩:=Y z hz
     exact⟨l',e3,aa (e4.same O)⟩
    ·rw[CP.mp hz]
     exact⟨D,rfl,aa ⟨us,hD,B⟩⟩
 ·rintro σ H' ⟨x3,ls,rfl,bt,hd,r,Y⟩
  have J:=bt e _ (fun m=>I (CP.mp m).symm) L
  refine⟨J,?_⟩
  refine cw (ae rfl) (q _ d (N H' bt) nd ⟨ls,by rw[aj I];exact hd,?_,fun y hy=>?_⟩)
  ·rw[r]
   show(F'.map (·.1)).take (aX g.R g.C F').length=_
   rw[b_,EB (by simp)]
  ·obtain⟨l,e1,qs,e2,e3⟩:=Y y hy
   exact⟨l,e1,qs,by rw[aj (fun z=>by rw[z,J] at e2;cases e2)];exact e2,cQ e3 fun b ys eb=>by rw[aj (fun z=>by rw[z,J] at eb;cases eb)];exact eb⟩
theorem ug(F:dW K "arcs_in" "arcs_in" fG f fd)(T:eV K mg cFloor cHeap cMS)(hcv:fd.code=.ref (dR K "arcs_in").1)(hCH:Fq K (dR K "arcs_in").1 (dR K "arcs_in").2=true)(hBA:base.BuiltinsAt mg (dR K "arcs_in").2)(hgP:mainGlobals≠(dR K "arcs_in").2)(gLeadsIn:aJ P w K mg base "leads_in" 5 ["floor", "free"] (jo cFloor)):bJ P w K mg base dw 6 f fd ["floor", "free"] (kQ K mg cFloor):=by
 have sc:aM ["floor", "free", "leads"] ["floor", "free"] (au fG):=⟨rfl,rfl,rfl,by decide+kernel,rfl,by decide+kernel,by decide+kernel⟩
 refine F.okG1 (i1:=2) (y1:= "leads") (a1:=1) hcv sc (fun vs H Q E h=>by repeat (first|(obtain⟨rfl,_⟩:=h;rfl)|(obtain⟨_,h⟩:=h))) rfl (by decide+kernel) (fun _=>rfl) (by decide) (fun A outer s H vs Q E hr h=>?_)
 obtain⟨p,pr,vi,rd,td,e,g,F',rfl,hF,hg,he,hT,nr,nt,hP,q⟩:=h
 refine⟨_,(vP (aO (i:=2) sc.nd rfl (Or.inr rfl) (aN gLeadsIn (hr.mono (by decide)) (by rfl) (ab (pv 0) (ab (pv 1) aq))))
 (y4 (w_ rfl (by rfl) rfl hCH hBA hgP))),?_⟩
 refine cH (ah (ae rfl) (ah (ae rfl) ay)) ⟨p,pr,vi,rd,td,e,g,F',rfl,hF,hg,he,hT,nr,nt,fun H1 d s1 nd hL=>?_⟩
 refine⟨#[],s1 _ _ hP,?_,rfl,fun f' c' oc ctv HH nf nc ne code keep tb hc' hf'=>?_⟩
 ·exact trivial
 refine⟨.ref d,rfl,fun o1 u1 n1 n0 ed ru=>?_⟩
 have kp:∀b x,H1 b=some x→(∀ps,x≠.tbl ps)→upd HH (s.heap.objs.size+1) (iS (s.heap.objs.size+1) o1) b=some x:=fun b x eb nx=>by
  have hb:HH b=some x:=keep b x eb (fun z=>by rw[z,s1 _ _ hP] at eb;cases eb;exact nx _ rfl)
  rw[aj (ak hb n1)];exact hb
 cases(show u1=Value.ref d from ru)
 refine q _ f' (fun b x nb eb=>?_) ⟨s.heap.objs.size+1,c',ctv,oc,o1,d,(fun z=>by rw[z,he] at nd;cases nd),by rw[aj (ak hf' n1)];exact hf',by rw[aj (ak hc' n1)];exact hc',code,ag,ed,hL.keep kp⟩
 have hb:=keep b x (s1 _ _ eb) nb
 rw[aj (ak hb n1)];exact hb
theorem zc(F:dW K "__init__" "Heap.__init__" mK f fd)(T:eV K mg cFloor cHeap cMS):bJ P w K mg base dw 1 f fd ["self"] (rA cHeap):=by
 have sc:aM ["self"] ["self"] (au mK):=⟨rfl,rfl,rfl,by decide+kernel,rfl,by decide+kernel,by decide+kernel⟩
 refine F.ok sc (fun vs H Q E h=>by repeat (first|(obtain⟨rfl,_⟩:=h;rfl)|(obtain⟨_,h⟩:=h))) (fun cdv A outer s H vs Q E hr h=>?_)
 obtain⟨p,dx,rfl,hp,q⟩:=h
 refine⟨_,(aw (jj (pv 0) (cT aq) rfl)),?_⟩
 refine⟨C8 _,fun a na=>?_⟩
 have c:p≠a:=ak hp na
 refine⟨_,rfl,p,cHeap,dx,[],rfl,(by rw[aj c];exact hp),T.cl_Heap,T.na_Heap_pairs,(by show 0<1000;decide),?_⟩
 exact q a _ na ⟨⟨dx,ag⟩,by rw[aj (CQ c),ag]⟩ fun b o e n1 n2=>by rw[aj n1,aj n2];exact e
theorem yv(F:dW K "many" "Heap.many" nj f fd)(T:eV K mg cFloor cHeap cMS):bJ P w K mg base dw 1 f fd ["self"] (oE cHeap):=by
 have sc:aM ["self"] ["self"] (au nj):=⟨rfl,rfl,rfl,by decide+kernel,rfl,by decide+kernel,by decide+kernel⟩
 refine F.ok sc (fun vs H Q E h=>by repeat (first|(obtain⟨rfl,_⟩:=h;rfl)|(obtain⟨_,h⟩:=h))) (fun cdv A outer s H vs Q E hr h=>?_)
 obtain⟨p,a,us,rfl,ha,q⟩:=h
 refine⟨_,(aw (aP (aK bp (by rfl) T.len_ bW (ab (cD (pv 0) rfl) aq)))),?_⟩
 obtain⟨dx,hp⟩:=ha.ob
 exact⟨_,rfl,p,cHeap,dx,_,_,rfl,hp,T.cl_Heap,T.na_Heap_pairs,rfl,_,_,rfl,.inl ⟨_,bg.of ha.ls,rfl⟩,q⟩
theorem zt(F:dW K "add" "Heap.add" uf f fd)(T:eV K mg cFloor cHeap cMS):bJ P w K mg base dw 1 f fd ["self", "price", "mark"] (pR cHeap):=by
 have sc:aM ["self", "price", "mark", "pair", "place"] ["self", "price", "mark"] (au uf):=⟨rfl,rfl,rfl,by decide+kernel,rfl,by decide+kernel,by decide+kernel⟩
 refine F.ok sc (fun vs H Q E h=>by repeat (first|(obtain⟨rfl,_⟩:=h;rfl)|(obtain⟨_,h⟩:=h))) (fun cdv A outer s H vs Q E hr h=>?_)
 obtain⟨p,a,vs,ks,pr,m,l,rfl,ha,B,X,hm,hl,q⟩:=h
 refine⟨_,(ao (aO (i:=3) sc.nd rfl (Or.inl rfl) (bM (ab (pv 1) (ab (pv 2) aq))))
 (ao (aO (i:=4) sc.nd rfl (Or.inl rfl) (aK bp (by rfl) T.len_ bW (ab (cD (pv 0) rfl) aq)))
 (ao (bS (eY Ek EO ER dj (cD (pv 0) rfl) (ab (pv 3) aq)))
 (ao (gq PassesOwn.never (kO (aI mM (pv 4) ai (aV _)) (iA (aI (uZ hr) (pv 3) (aC aU (cD (pv 0) rfl) (aF bO (aF dt (pv 4) ai) ai) (fun _ _=>rfl)) (aV _)))).pt
 (ao (dz (aC aU (cD (pv 0) rfl) (aF bO (aF dt (pv 4) ai) ai) (fun _ _=>rfl)) (jw (cD (pv 0) rfl) (pv 4) fx))
 (aw (aO (i:=4) sc.nd rfl (Or.inl rfl) (aF bO (aF dt (pv 4) ai) ai)))))
 (aw (dz (pv 3) (jw (cD (pv 0) rfl) (pv 4) fx))))))),?_⟩
 obtain⟨dx,hp⟩:=ha.ob
 have eA:=ha.ls
 have pa:p≠a:=fun z=>by rw[z,eA] at hp;cases hp
 refine a_ fun Rh hRh=>⟨_,rfl,_,rfl,(by show 2≤sizeLine;decide),fun t nt=>?_⟩
 refine hRh _ _ ?_
 have r:upd H t (.tup [.int pr,m]) p=some (.ins cHeap dx [("pairs",.ref a)]):=by rw[aj (ak hp nt)];exact hp
 have g:upd H t (.tup [.int pr,m]) a=some (.lst vs):=by rw[aj (ak eA nt)];exact eA
 have y:TK H (upd H t (.tup [.int pr,m])):=TK.new nt
 have I:sx (upd H t (.tup [.int pr,m])) (.ref t) (pr::l):=⟨t,pr,m,l,rfl,ag,hm.kept y,rfl⟩
 have b1:rR H (upd H t (.tup [.int pr,m])) p a:=fun b o e _ _=>by rw[aj (ak e nt)];exact e
 revert r g y I b1
 generalize upd H t (.tup [.int pr,m])=H1
 intro r g y I b1
 refine a_ fun Rh hRh=>⟨_,rfl,p,cHeap,dx,_,_,rfl,r,T.cl_Heap,T.na_Heap_pairs,rfl,_,_,rfl,.inl ⟨_,bg.of g,rfl⟩,?_⟩
 refine hRh _ _ ?_
 refine⟨_,rfl,p,cHeap,dx,_,_,rfl,r,T.cl_Heap,T.na_Heap_pairs,rfl,.inl ⟨rfl,_,bg.of g⟩,_,rfl,a,_,_,rfl,rfl,g,uC (by lia),?_⟩
 have M:upd H1 a (.lst (vs++[.ref t])) p=some (.ins cHeap dx [("pairs",.ref a)]):=by rw[aj pa];exact r
 have J:upd H1 a (.lst (vs++[.ref t])) a=some (.lst (vs++[.ref t])):=ag
 have u:TK H1 (upd H1 a (.lst (vs++[.ref t]))):=TK.lst g
 have b2:rR H (upd H1 a (.lst (vs++[.ref t]))) p a:=fun b o e n1 n2=>by rw[aj n2];exact b1 b o e n1 n2
 revert M J u b2
 generalize upd H1 a (.lst (vs++[.ref t]))=H2
 intro M J u b2
 dsimp only
 have U:=I.kept u
 refine gC (fun n σ H'=>∃(pl:Nat) (vs':List V) (ks':List (List Int)),σ=[some (.ref p),some (.int pr),some m,some (.ref t),some (.int (pl:Nat))]∧pl=n∧H' p=some (.ins cHeap dx [("pairs",.ref a)])∧H' a=some (.lst vs')∧iL H' vs' ks'∧
   Hp.Up HT.lexLt [] ks' pl (pr::l)∧(ks'.set pl (pr::l)).Perm (ks++[pr::l])∧sx H' (.ref t) (pr::l)∧rR H H' p a)
  ⟨_,vs.length,vs++[.ref t],ks++[pr::l],rfl,rfl,M,J,((B.kept y).kept u).snoc U,by rw[B.1];exact Hp.Up.start X _,by rw[B.1];simp,U,b2⟩ ?_
 rintro n σ H3 ⟨pl,C,W,rfl,rfl,x,c,d,up,O,L,b3⟩
 have v:pl<C.length:=by rw[d.1];exact up.at'
 have R:∀{σ:St},σ[0]?=some (some (.ref p))→Ev (vm K (bQ 0) "pairs") σ H3 (.ref a):=fun e Q q=>⟨_,e,p,cHeap,dx,_,_,rfl,x,T.cl_Heap,T.na_Heap_pairs,rfl,q⟩
 have D:0<pl→(((pl:Nat):Int) - 1)/2=((Hp.par pl:Nat):Int):=fun h=>by simp only[Hp.par];lia
 have k:Hp.par pl<C.length:=by simp only[Hp.par];lia
 have S:0<pl→Ev (fb (oO K) (vm K (bQ 0) "pairs") (fb (rI mX fun i j=>V.int (i/j)) (fb (rY fun i j=>V.int (i - j)) (bQ 4) (tC (V.int 1))) (tC (V.int 2)))) [some (.ref p),some (.int pr),some m,some (.ref t),some (.int (pl:Nat))] H3 (C.getD (Hp.par pl) .non):=fun h=>
  bw (R rfl) (cP (aZ (ae rfl) az) az ⟨by decide,by decide⟩) (bg.of c) (by rw[D h];exact cA (fK k))
 refine⟨decide ((0:Int)<((pl:Nat):Int))&&HT.lexLt (pr::l) (W.getD (Hp.par pl) []),jA (aA (aZ (ae rfl) az)) (fun e=>?_),fun e N hN=>?_,fun e=>?_⟩
 ·have h0:(0:Int)<((pl:Nat):Int):=of_decide_eq_true e
  exact aA fun Q' q'=>⟨_,rfl,S (by lia) _ ⟨_,_,L.of,(d.get k).of,q'⟩⟩
 ·rw[EA] at e
  have h0:0<pl:=by have:=of_decide_eq_true e.1;lia
  refine sv (S h0 _ ?_)
  refine R rfl _ ⟨_,rfl,a,_,_,pl,rfl,rfl,c,iz v,?_⟩
  refine lS (cP (aZ (ae rfl) az) az ⟨by decide,by decide⟩) (hN (Hp.par pl) _ _ (by simp only[Hp.par];lia) ⟨Hp.par pl,_,_,by rw[←D h0];rfl,rfl,by rw[aj pa];exact x,ag,(d.kept (TK.lst c)).set v ((d.get k).kept (TK.lst c)),up.step pY h0 e.2,?_,L.kept (TK.lst c),fun b o e n1 n2=>by rw[aj n2];exact b3 b o e n1 n2⟩)
  exact(Hp.up_perm up.at' (by rw[←d.1];exact k) (by simp only[Hp.par];lia)).trans O
 ·refine⟨_,rfl,_,rfl,p,cHeap,dx,_,_,rfl,x,T.cl_Heap,T.na_Heap_pairs,rfl,_,rfl,a,_,_,pl,rfl,rfl,c,iz v,?_⟩
  refine q _ _ _ ⟨⟨dx,by rw[aj pa];exact x⟩,ag⟩ ((d.kept (TK.lst c)).set v (L.kept (TK.lst c))) (up.done ?_) O fun b o e n1 n2=>by rw[aj n2];exact b3 b o e n1 n2
  rcases Bool.and_eq_false_iff.mp e with z|z
  ·exact .inl (by have:=of_decide_eq_false z;lia)
  ·exact .inr z
theorem xu(F:dW K "sink" "Heap.sink" nq f fd)(T:eV K mg cFloor cHeap cMS):bJ P w K mg base dw 1 f fd ["self", "pair"] (rg cHeap):=by
 have sc:aM ["self", "pair", "pairs", "place", "child"] ["self", "pair"] (au nq):=⟨rfl,rfl,rfl,by decide+kernel,rfl,by decide+kernel,by decide+kernel⟩
 refine F.ok sc (fun vs H Q E h=>by repeat (first|(obtain⟨rfl,_⟩:=h;rfl)|(obtain⟨_,h⟩:=h))) (fun cdv A outer s H vs Q E hr h=>?_)
 obtain⟨p,a,vs,ks,x,kx,rfl,ha,B,J,h0,hx,hl,q⟩:=h
 refine⟨_,(ao (aO (i:=2) sc.nd rfl (Or.inl rfl) (cD (pv 0) rfl))
 (ao (aO (i:=3) sc.nd rfl (Or.inl rfl) ai)
 (ao (aO (i:=4) sc.nd rfl (Or.inl rfl) ai)
 (ao (gq PassesOwn.never (aI fR (pv 4) (aK bp (by rfl) T.len_ bW (ab (pv 2) aq)) (aV _))
 (ao (bI (kO (aI fR (aF bB (pv 4) ai) (aK bp (by rfl) T.len_ bW (ab (pv 2) aq)) (aV _)) (iA (aI (uZ hr) (aC aU (pv 2) (aF bB (pv 4) ai) (fun _ _=>rfl)) (aC aU (pv 2) (pv 4) (fun _ _=>rfl)) (aV _)))).pt
 (aw (aO (i:=4) sc.nd rfl (Or.inl rfl) (aF bB (pv 4) ai)))
 aQ)
 (ao (bI (aI (An hr) (pv 1) (aC aU (pv 2) (pv 4) (fun _ _=>rfl)) (aV _))
 (aw vg)
 aQ)
 (ao (dz (aC aU (pv 2) (pv 4) (fun _ _=>rfl)) (jw (pv 2) (pv 3) fx))
 (ao (aO (i:=3) sc.nd rfl (Or.inl rfl) (pv 4))
 (aw (aO (i:=4) sc.nd rfl (Or.inl rfl) (aF bB (aF fO ai (pv 3)) ai))))))))
 (aw (dz (pv 1) (jw (pv 2) (pv 3) fx))))))),?_⟩
 obtain⟨dx,hp⟩:=ha.ob
 have eA:=ha.ls
 have pa:p≠a:=fun z=>by rw[z,eA] at hp;cases hp
 refine a_ fun Rh hRh=>⟨_,rfl,p,cHeap,dx,_,_,rfl,hp,T.cl_Heap,T.na_Heap_pairs,rfl,?_⟩
 refine hRh _ _ ?_
 refine gy az ?_
 refine gy az ?_
 refine gC (fun n σ H'=>∃(pl:Nat) (vs':List V) (ks':List (List Int)),σ=[some (.ref p),some x,some (.ref a),some (.int (pl:Nat)),some (.int ((2*pl+1:Nat):Int))]∧vs'.length - pl=n∧H' p=some (.ins cHeap dx [("pairs",.ref a)])∧H' a=some (.lst vs')∧iL H' vs' ks'∧
   Hp.Dn HT.lexLt [] ks' pl kx∧(ks'.set pl kx).Perm (ks.set 0 kx)∧sx H' x kx∧rR H H' p a)
  ⟨_,0,vs,ks,rfl,rfl,hp,eA,B,Hp.Dn.start J (by rw[←B.1];exact h0) kx,List.Perm.refl _,hx,rR.refl _ _ _⟩ ?_
 rintro n σ H3 ⟨pl,j,k,rfl,rfl,D,d,g,dn,y,u,b3⟩
 have l:pl<j.length:=by rw[g.1];exact dn.at'
 have C:∀(c:Option V),Hp.Hpy HT.lexLt [] (k.set pl kx)→Q .non (upd H3 a (.lst (j.set pl x))):=fun c h=>
  q _ _ _ ⟨⟨dx,by rw[aj pa];exact D⟩,ag⟩ ((g.kept (TK.lst d)).set l (u.kept (TK.lst d))) h y fun b o e n1 n2=>by rw[aj n2];exact b3 b o e n1 n2
 have m:∀{σ:St},σ[2]?=some (some (.ref a))→Ev (zQ (fun xs H Q=>∃x n,xs=[x]∧yU K x H n∧Q (V.int ↑n) H) (cL (bQ 2) fc)) σ H3 (.int (j.length:Nat)):=fun e=>cn (ah (ae e) ay) fun Q' q'=>⟨_,_,rfl,.inl ⟨_,bg.of d,rfl⟩,q'⟩
 refine⟨_,aA (aZ (ae rfl) (m rfl)),fun e N hN=>?_,fun e=>?_⟩
 ·have hc:2*pl+1<j.length:=by have:=of_decide_eq_true e;lia
  refine Ah (fun σ H'=>∃c:Nat,σ=[some (.ref p),some x,some (.ref a),some (.int (pl:Nat)),some (.int (c:Nat))]∧H'=H3∧Hp.Least HT.lexLt [] k pl c)
   (b:=decide (((2*pl+1:Nat):Int)+1<((j.length:Nat):Int))&&HT.lexLt (k.getD (2*pl+2) []) (k.getD (2*pl+1) []))
   (jA (aA (aZ (aZ (ae rfl) az) (m rfl))) (fun e2=>?_)) (fun e2 R hR=>?_) (fun e2 R hR=>?_) ?_
  ·have h2:2*pl+2<j.length:=by have:=of_decide_eq_true e2;lia
   refine aA fun Q' q'=>bw (v:=j.getD (2*pl+2) .non) (ae rfl) (aZ (ae rfl) az) (bg.of d) (by rw[show((2*pl+1:Nat):Int)+1=((2*pl+2:Nat):Int) by lia];exact cA (fK h2)) _
    (bw (v:=j.getD (2*pl+1) .non) (ae rfl) (ae rfl) (bg.of d) (cA (fK hc)) _ ⟨_,_,(g.get h2).of,(g.get hc).of,q'⟩)
  ·rw[EA] at e2
   have h2:2*pl+2<j.length:=by have:=of_decide_eq_true e2.1;lia
   refine lS (aZ (ae rfl) az) (hR _ _ ⟨2*pl+2,by rw[show((2*pl+2:Nat):Int)=((2*pl+1:Nat):Int)+1 by lia];rfl,rfl,by simp only[Hp.par];lia,by lia,by rw[←g.1];exact h2,fun e e0 he ep=>?_⟩)
   have:e=2*pl+1∨e=2*pl+2:=by simp only[Hp.par] at ep;lia
   rcases this with rfl|rfl
   ·exact pY.asym e2.2
   ·exact bV _
  ·refine hR _ _ ⟨2*pl+1,rfl,rfl,by simp only[Hp.par];lia,by lia,by rw[←g.1];exact hc,fun e e0 he ep=>?_⟩
   have:e=2*pl+1∨e=2*pl+2:=by simp only[Hp.par] at ep;lia
   rcases this with rfl|rfl
   ·exact bV _
   ·rcases Bool.and_eq_false_iff.mp e2 with z|z
    ·have:=of_decide_eq_false z;rw[←g.1] at he;lia
    ·exact z
  rintro σ H4 ⟨c,rfl,rfl,least⟩
  have r:c<j.length:=by rw[g.1];exact least.2.2.1
  have I:∀{σ:St},σ[2]?=some (some (.ref a))→σ[4]?=some (some (.int (c:Nat)))→Ev (fb (oO K) (bQ 2) (bQ 4)) σ H4 (j.getD c .non):=fun e1 e2=>bw (ae e1) (ae e2) (bg.of d) (cA (fK r))
  refine gp (b:=!HT.lexLt (k.getD c []) kx) (aA fun Q' q'=>⟨_,rfl,I rfl rfl _ ⟨_,_,u.of,(g.get r).of,q'⟩⟩) (fun e2=>?_) (fun e2=>?_)
  ·refine⟨_,rfl,_,rfl,_,rfl,a,_,_,pl,rfl,rfl,d,iz l,C none (dn.done fun e e0 he ep=>?_)⟩
   exact pY.le_trans (by simpa using e2) (least.2.2.2 e e0 he ep)
  ·refine sv (I rfl rfl _ ?_)
   refine⟨_,rfl,_,rfl,a,_,_,pl,rfl,rfl,d,iz l,?_⟩
   refine gy (ae rfl) ?_
   have L:pl<c:=by have:=least.1;have:=least.2.1;simp only[Hp.par] at*;lia
   refine lS (aZ (cP az (ae rfl) (.inl ⟨by decide,by decide⟩)) az) (hN (j.length - c) _ _ (by lia) ⟨c,_,_,rfl,by rw[Es],by rw[aj pa];exact D,ag,(g.kept (TK.lst d)).set l ((g.get r).kept (TK.lst d)),dn.step pY least (by simpa using e2),?_,u.kept (TK.lst d),fun b o e n1 n2=>by rw[aj n2];exact b3 b o e n1 n2⟩)
   exact(Hp.up_perm dn.at' least.2.2.1 (by lia)).trans y
 ·refine⟨_,rfl,_,rfl,_,rfl,a,_,_,pl,rfl,rfl,d,iz l,C none (dn.done fun c c0 hc cp=>?_)⟩
  have:=of_decide_eq_false e
  rw[←g.1] at hc
  simp only[Hp.par] at cp
  lia
theorem xf(F:dW K "take" "Heap.take" mF f fd)(hB:K.In base)(T:eV K mg cFloor cHeap cMS)(gSink:cj P w K mg base cHeap "sink" 1 ["self", "pair"] (rg cHeap)):bJ P w K mg base dw 2 f fd ["self"] (qT cHeap):=by
 have sc:aM ["self", "least", "last"] ["self"] (au mF):=⟨rfl,rfl,rfl,by decide+kernel,rfl,by decide+kernel,by decide+kernel⟩
 refine F.ok sc (fun vs H Q E h=>by repeat (first|(obtain⟨rfl,_⟩:=h;rfl)|(obtain⟨_,h⟩:=h))) (fun cdv A outer s H vs Q E hr h=>?_)
 obtain⟨p,a,vs,ks,rfl,ha,g,B,hl,r,q2⟩:=h
 refine⟨_,(ao (bI (aI e_ (aK bp (by rfl) T.len_ bW (ab (cD (pv 0) rfl) aq)) ai (aV _))
 (aw fe)
 aQ)
 (ao (aO (i:=1) sc.nd rfl (Or.inl rfl) (aC aU (cD (pv 0) rfl) ai (fun _ _=>rfl)))
 (ao (aO (i:=2) sc.nd rfl (Or.inl rfl) (u6 Ek PySem.F.slot_list_pop PySem.F.type_list_pop wF (cD (pv 0) rfl)))
 (ao (bI (aI mM (aK bp (by rfl) T.len_ bW (ab (cD (pv 0) rfl) aq)) ai (aV _))
 (aw (bS (h_ (pv 0) T.cl_Heap gSink (hr.mono (by decide)) (ab (pv 2) aq))))
 aQ)
 (aw (aP (pv 1))))))),?_⟩
 obtain⟨dx,hp⟩:=ha.ob
 have eA:=ha.ls
 have pa:p≠a:=fun z=>by rw[z,eA] at hp;cases hp
 have y:Ev (vm K (bQ 0) "pairs") [some (.ref p),none,none] H (.ref a):=fun Q q=>⟨_,rfl,p,cHeap,dx,_,_,rfl,hp,T.cl_Heap,T.na_Heap_pairs,rfl,q⟩
 have J:vs.length≠0:=fun z=>r (Fu z)
 refine gz (b:=false) (cE (aA (dZ (cn (ah y ay) fun Q' q'=>⟨_,_,rfl,.inl ⟨_,bg.of eA,rfl⟩,q'⟩) az)) (decide_eq_false (by lia))) rfl ?_
 have h0:0<vs.length:=List.length_pos_iff.mpr r
 refine gy (bw (v:=vs.getD 0 .non) y az (bg.of eA) (cA (j:=0) (fK h0))) ?_
 refine a_ fun Rh hRh=>⟨_,rfl,p,cHeap,dx,_,_,rfl,hp,T.cl_Heap,T.na_Heap_pairs,rfl,.inl ⟨rfl,_,bg.of eA⟩,a,_,vs.getD (vs.length - 1) .non,rfl,rfl,eA,fK (by lia),?_⟩
 refine hRh _ _ ?_
 have c:upd H a (.lst vs.dropLast) p=some (.ins cHeap dx [("pairs",.ref a)]):=by rw[aj pa];exact hp
 have d:upd H a (.lst vs.dropLast) a=some (.lst vs.dropLast):=ag
 have l:TK H (upd H a (.lst vs.dropLast)):=TK.lst eA
 have b1:rR H (upd H a (.lst vs.dropLast)) p a:=fun b o e n1 n2=>by rw[aj n2];exact e
 revert c d l b1
 generalize upd H a (.lst vs.dropLast)=H1
 intro c d l b1
 have m:∀z∈ks,HT.lexLt z (ks.getD 0 [])=false:=fun z hz=>by
  obtain⟨n,hn,rfl⟩:=List.getElem_of_mem hz
  have:=Hp.Hpy.least pY B n hn
  rwa [show ks.getD n []=ks[n] by rw[Dc,Dd hn];rfl] at this
 have u:=(g.get h0).kept l
 dsimp only
 refine gp (aA (aZ (cn (ah (fun Q q=>⟨_,rfl,p,cHeap,dx,_,_,rfl,c,T.cl_Heap,T.na_Heap_pairs,rfl,q⟩) ay) fun Q' q'=>⟨_,_,rfl,.inl ⟨_,bg.of d,rfl⟩,q'⟩) az)) (fun e=>?_) (fun e=>?_)
 ·have hd:0<vs.dropLast.length:=by have:=of_decide_eq_true e;lia
  have x:=hd
  rw[Ez] at x
  refine⟨_,rfl,p,dx,_,rfl,c,rfl,_,rfl,p,a,vs.dropLast,ks.dropLast,_,ks.getD (ks.length - 1) [],rfl,⟨⟨dx,c⟩,d⟩,(g.kept l).drop,B.drop,hd,?_,by rw[Ez];lia,fun H2 vs2 ks2 hA2 hk2 hok2 perm2 b2=>?_⟩
  ·rw[←g.1]
   exact(g.get (by lia)).kept l
  ·have C:=b2.tk c d
   exact cw (ae rfl) (q2 _ _ _ _ _ (u.kept C) hA2 hk2 hok2 ((List.Perm.cons _ perm2).trans (uI (by rw[←g.1];lia))) m fun b o e n1 n2=>b2 b o (b1 b o e n1 n2) n1 n2)
 ·have hd:vs.dropLast=[]:=Fu (by have:=of_decide_eq_false e;lia)
  have x:vs.length - 1=0:=by rw[←Ez,hd];rfl
  rw[hd] at d
  have D:ks=[ks.getD 0 []]:=by
   have I:ks.length=1:=by rw[←g.1];lia
   match ks,I with
   |[k],_=>rfl
  exact cw (ae rfl) (q2 _ _ _ _ _ u ⟨⟨dx,c⟩,d⟩ (iL.nil _) (fun i _ hi=>absurd hi (EZ _)) (by rw[←D]) m b1)
theorem tN(F:dW K "spread" "spread" gH f fd)(T:eV K mg cFloor cHeap cMS)(gInit:ot P w K mg base cHeap "Heap" 1 ["self"] (rA cHeap))(gMany:cj P w K mg base cHeap "many" 1 ["self"] (oE cHeap))(gAdd:cj P w K mg base cHeap "add" 1 ["self", "price", "mark"] (pR cHeap))(gTake:cj P w K mg base cHeap "take" 2 ["self"] (qT cHeap)):bJ P w K mg base dw 3 f fd ["arcs", "starts"] (lC mg):=by
 have sc:aM ["arcs", "starts", "far", "back", "heap", "mark", "price", "other", "more"] ["arcs", "starts"] (au gH):=⟨rfl,rfl,rfl,by decide+kernel,rfl,by decide+kernel,by decide+kernel⟩
 refine F.ok sc (fun vs H Q E h=>by repeat (first|(obtain⟨rfl,_⟩:=h;rfl)|(obtain⟨_,h⟩:=h))) (fun cdv A outer s H vs Q E hr h=>?_)
 obtain⟨f0,L,e0,g,F',ss,ok,rfl,af,⟨a6,a8,bi⟩,c7,b0,q⟩:=h
 refine⟨_,(ao (aO (i:=2) sc.nd rfl (Or.inl rfl) dJ)
 (ao (aO (i:=3) sc.nd rfl (Or.inl rfl) dJ)
 (ao (aO (i:=4) sc.nd rfl (Or.inl rfl) (zU gInit (hr.mono (by decide)) (by rfl)))
 (ao (bP PassesOwn.never rfl (cg (pv 1)) (dY rfl (aY (aD (i:=5) sc.nd rfl (Or.inl rfl)) (aY (aD (i:=6) sc.nd rfl (Or.inl rfl)) cO)))
 (aw (bI (d_ (fI (eB (bj.one hr) (pv 5) (pv 2))) (dX (aI fR (pv 6) (dF (bj.one hr) (pv 2) (pv 5) (fun _ _=>rfl)) (aV _)))).pt
 (ao (dI (bj.one hr) (pv 2) (pv 5) (pv 6) (by rfl))
 (ao (dI (bj.one hr) (pv 3) (pv 5) o_ (by rfl))
 (aw (bS (h_ (pv 4) T.cl_Heap gAdd (hr.mono (by decide)) (ab (pv 6) (ab (pv 5) aq)))))))
 aQ)))
 (ao (gq PassesOwn.never (aI mM (sd (pv 4) T.cl_Heap gMany (hr.mono (by decide))) ai (aV _))
 (ao (dz (sd (pv 4) T.cl_Heap gTake (hr.mono (by decide))) (dY rfl (aY (aD (i:=6) sc.nd rfl (Or.inl rfl)) (aY (aD (i:=5) sc.nd rfl (Or.inl rfl)) cO))))
 (aw (bI (aI e_ (pv 6) (dF (bj.one hr) (pv 2) (pv 5) (fun _ _=>rfl)) (aV _))
 (aw (bP PassesOwn.never rfl (cg (uY (r:=Ag mg K) (pv 0) (xS T (hr.mono (by decide))) (ab (pv 5) aq))) (dY rfl (aY (aD (i:=7) sc.nd rfl (Or.inl rfl)) (aY (aD (i:=8) sc.nd rfl (Or.inl rfl)) cO)))
 (aw (bI (d_ (fI (eB (bj.one hr) (pv 7) (pv 2))) (dX (aI fR (aF bB (pv 6) (pv 8)) (dF (bj.one hr) (pv 2) (pv 7) (fun _ _=>rfl)) (aV _)))).pt
 (ao (dI (bj.one hr) (pv 2) (pv 7) (aF bB (pv 6) (pv 8)) (by rfl))
 (ao (dI (bj.one hr) (pv 3) (pv 7) (pv 5) (by rfl))
 (aw (bS (h_ (pv 4) T.cl_Heap gAdd (hr.mono (by decide)) (ab (aF bB (pv 6) (pv 8)) (ab (pv 7) aq)))))))
 aQ))))
 aQ))))
 (aw (aP (bM (ab (pv 2) (ab (pv 3) aq)))))))))),?_⟩
 have Z:=ok.S
 have hM:=ok.m
 have a5:a6.length=ss.length:=by rw[Paired.length bi,CK]
 refine a_ fun Rh hRh=>fun fa nfa=>?_
 refine hRh _ _ ?_
 have s1:ax H (upd H fa (.dT [])):=(ax.refl H).upd nfa
 have ac:upd H fa (.dT []) fa=some (.dT []):=ag
 revert s1 ac
 generalize upd H fa (.dT [])=H1
 intro s1 ac
 refine a_ fun Rh hRh=>fun ba nba=>?_
 refine hRh _ _ ?_
 have ck:fa≠ba:=ak ac nba
 have s2:ax H1 (upd H1 ba (.dT [])):=(ax.refl H1).upd nba
 have a1:upd H1 ba (.dT []) ba=some (.dT []):=ag
 revert s2 a1
 generalize upd H1 ba (.dT [])=H2
 intro s2 a1
 refine a_ fun Rh hRh=>fun p dx np ndx hdx=>⟨p,dx,rfl,ag,fun a H3 na hA bu=>⟨rfl,?_⟩⟩
 refine hRh _ _ ?_
 have sb:ax H2 (upd (upd H2 dx (.own p)) p (.ins cHeap dx [])):=((ax.refl H2).upd ndx).upd (by rw[aj (CQ hdx)];exact np)
 have s3:ax H2 H3:=fun b o e=>bu b o (sb _ _ e) (ak e np) (ak (sb _ _ e) na)
 have b3:H2 a=none:=by
  cases e:H2 a with
  |none=>rfl
  |some o=>rw[sb _ _ e] at na;cases na
 have a7:=(s1.trans s2).trans s3
 have nH:∀{b:Addr},H2 b=none→H b=none:=fun e=>(s1.trans s2).free e
 have S0:SS cHeap H H3 fa ba p a g [] [] (fun _=>none) (fun _=>none) [] [] []:=
  ⟨a7,s3 _ _ (s2 _ _ ac),s3 _ _ a1,Tb.nil,Tb.nil,fun _=>rfl,fun _=>⟨fun _=>rfl,(fun z=>nomatch z),(fun _ z=>nomatch z)⟩,hA,iL.nil _,(fun i _ hi=>absurd hi (EZ _)),List.Perm.refl _,(fun _ h=>nomatch h),ck,nfa,s1.free nba,nH np,nH b3⟩
 show dk _ _ _ _ _
 refine cu fun R0 hR0=>?_
 refine⟨_,rfl,L,rfl,⟨_,bg.of (a7 _ _ a8)⟩,cZ (K:=K) (a:=L) (xs:=a6.map V.ref) (fun i σ H'=>∃(Fr B:List (Nat×V)) (C:Dj.Far) (u:Dj.Back) (vs:List V) (ks:List (List Int)) (hq:List (Int×Nat)) (x5 x6:Option V),
   σ=[some (.ref f0),some (.ref L),some (.ref fa),some (.ref ba),some (.ref p),x5,x6,none,none]∧SS cHeap H H' fa ba p a g Fr B C u vs ks hq∧Dj.St ((ss.map fun n=>(n,(0:Int))).take i) C u hq∧hq.length≤i)
  ⟨[],[],_,_,[],[],[],none,none,rfl,S0,⟨(fun _ _ z=>nomatch z),(fun _ _ z=>nomatch z),fun _=>rfl,(fun _ _ z=>nomatch z),(fun _ z=>nomatch z)⟩,CM _⟩ (fun i σ H' _ hz=>by obtain⟨_,_,_,_,_,_,_,_,_,_,S,_⟩:=hz;exact bg.of (S.sm _ _ a8)) ?_ ?_⟩
 ·rintro i y σ H' hi ⟨Fr,B,C,u,vs,ks,hq,x5,x6,rfl,S,D,bc⟩
  obtain⟨ad,R,rfl⟩:=cC hi
  obtain⟨x,hx,b,h1,h2⟩:=eh bi R
  rw[CW] at hx
  obtain⟨o,ho,rfl⟩:=Do.mp hx
  have ep:(ss.map fun n=>(n,(0:Int)))[i]?=some (o,0):=by rw[CW,ho];rfl
  have U:(ss.map fun n=>(n,(0:Int))).take (i+1)=(ss.map fun n=>(n,(0:Int))).take i++[(o,0)]:=bE ep
  have dd:i<5:=by have:=(C7.mp ho).1;lia
  have an:=b0 _ (C2 ho)
  have cl:=S.len
  have h1:H' ad=some (.tup [.ref b,.int 0]):=S.sm _ _ h1
  have h2:lV g.R g.C H' b o:=S.sm _ _ h2
  refine dB fun Rg hRg=>?_
  refine⟨ad,_,rfl,bH.of h1,rfl,_,_,rfl,_,_,rfl,rfl,?_⟩
  refine hRg _ _ ?_
  have gg:=dg (.inl S.fd) h2
  rw[cJ Z,S.fr o] at gg
  have go:(∀qv,C o=some qv→0<qv)→∀{D0:eK},(∀σ H',(∃(Fr B:List (Nat×V)) (C:Dj.Far) (u:Dj.Back) (vs:List V) (ks:List (List Int)) (hq:List (Int×Nat)) (x5 x6:Option V),
   σ=[some (.ref f0),some (.ref L),some (.ref fa),some (.ref ba),some (.ref p),x5,x6,none,none]∧SS cHeap H H' fa ba p a g Fr B C u vs ks hq∧Dj.St ((ss.map fun n=>(n,(0:Int))).take (i+1)) C u hq∧hq.length≤i+1)→D0.nx σ H')→
   dk (iB (bQ 2) (bQ 5) (bQ 6)) (dk (iB (bQ 3) (bQ 5) (tC .non)) (v8 (lY cHeap "add" (pR cHeap) [] E0 (bQ 4) (cL (bQ 6) (cL (bQ 5) fc))))) D0 [some (.ref f0),some (.ref L),some (.ref fa),some (.ref ba),some (.ref p),some (.ref b),some (.int 0),none,none] H':=fun I D0 hD0=>by
   obtain⟨H4,H5,p1,p2,bl,co,ch,db,k5,nx⟩:=S.relax Z hM (bb:=none) (bv:=.non) 0 h2 an (.inl ⟨rfl,rfl⟩)
   refine ir (ae rfl) (ae rfl) (ae rfl) p1 ?_
   refine ir az (ae rfl) (ae rfl) p2 ?_
   obtain⟨ct,b5⟩:=bl.ob
   refine⟨_,rfl,p,ct,_,rfl,b5,rfl,_,rfl,_,rfl,p,a,vs,ks,0,.ref b,sN g.R g.C o,rfl,bl,co,S.ok,ch,by lia,fun H' vs' ks' q1 q2 q3 q4 q5=>?_⟩
   refine hD0 _ _ ⟨_,_,_,_,_,_,_,_,_,rfl,nx H' vs' ks' q1 q2 q3 q4 q5,?_,by rw[Dl];lia⟩
   rw[U]
   exact D.more I fun z=>by rw[CV]
  cases hfo:C o with
  |none=>
   rw[hfo] at gg
   refine wL (lU (b:=true) (aA (cW (ae rfl) (ae rfl) gg)) fun e=>nomatch e) rfl ?_
   exact go (fun qv z=>by rw[hfo] at z;cases z) fun _ _ z=>z
  |some qv=>
   rw[hfo] at gg
   refine fQ (lU (aA (cW (ae rfl) (ae rfl) gg)) fun _=>aA (aZ (ae rfl) (dH (ae rfl) (ae rfl) gg))) (fun e=>?_) (fun e=>?_)
   ·have I:0<qv:=by simpa using e
    exact go (fun qv' z=>by rw[hfo] at z;cases z;exact I) fun _ _ z=>z
   ·have I:¬0<qv:=by simpa using e
    refine⟨Fr,B,C,u,vs,ks,hq,_,_,rfl,S,?_,by lia⟩
    rw[U]
    exact D.skip hfo I
 rintro σ H' ⟨Fr,B,C,u,vs,ks,hq,x5,x6,rfl,S,D,bc⟩
 rw[CK,a5,←CK (as:=ss) (f:=fun n=>(n,(0:Int))),DR] at D
 rw[CK,a5] at bc
 have di:hq.length≤5:=by lia
 obtain⟨c0,M0⟩:=Dj.St.mid (g:=gG g F' ss ok) D
 refine hR0 _ _ ?_
 have c2:=Az (g:=g) (F:=F') (ss:=ss) (ok:=ok) g.M []
 refine gC (fun b σ H'=>∃(Fr B:List (Nat×V)) (C:Dj.Far) (u:Dj.Back) (vs:List V) (ks:List (List Int)) (hq:List (Int×Nat)) (dn:List Nat) (br:Int) (x5 x6 x7 x8:Option V),
   σ=[some (.ref f0),some (.ref L),some (.ref fa),some (.ref ba),some (.ref p),x5,x6,x7,x8]∧SS cHeap H H' fa ba p a g Fr B C u vs ks hq∧Dj.Mid (gG g F' ss ok) C u hq dn br none∧b=hq.length+Dj.bud (gG g F' ss ok) g.M dn∧b≤780)
  ⟨_,Fr,B,C,u,vs,ks,hq,[],c0,x5,x6,none,none,rfl,S,M0,rfl,by lia⟩ ?_
 rintro b σ H' ⟨Fr,B,C,u,vs,ks,hq,dn,br,x5,x6,x7,x8,rfl,S,M,rfl,c3⟩
 have cl:=S.len
 obtain⟨bd,aa⟩:=S.ha.ob
 have bD:∀{σ:St} {te:TE},Ev te σ H' (.ref p)→Ev (lY cHeap "many" (oE cHeap) [] E0 te fc) σ H' (.int (vs.length:Nat)):=fun h Q' q'=>h _ ⟨p,bd,_,rfl,aa,rfl,p,a,vs,rfl,S.ha,q'⟩
 refine⟨_,aA (aZ (bD (ae rfl)) az),fun hb N hN=>?_,fun hb=>?_⟩
 ·have a3:(0:Int)<((vs.length:Nat):Int):=of_decide_eq_true hb
  have b8:vs≠[]:=fun z=>by rw[z] at a3;exact absurd a3 (by decide)
  refine cu fun Rt hRt=>?_
  refine⟨_,rfl,p,bd,_,rfl,aa,rfl,p,a,vs,ks,rfl,S.ha,S.kh,S.ok,by lia,b8,fun v k H2 vs2 ks2 hpr hA2 hk2 hok2 pk hmin bu2=>?_⟩
  obtain⟨pr,m,rfl,bA,cF,hh,am,c5⟩:=vt S.pm pk hmin
  have ci:=S.hl _ bA
  have b7:TK H' H2:=bu2.tk aa S.ha.ls
  have e1:∀{d:Addr} {kvs:List (List cK×V)},H' d=some (.dT kvs)→H2 d=some (.dT kvs):=fun e=>bu2 _ _ e (fun z=>by rw[z,aa] at e;cases e) (fun z=>by rw[z,S.ha.ls] at e;cases e)
  have S2:SS cHeap H H2 fa ba p a g Fr B C u vs2 ks2 (hq.erase (pr,m)):=
   ⟨fun b x e=>bu2 b x (S.sm _ _ e) (ak e S.n3) (ak e S.n4),e1 S.fd,e1 S.bd,S.ft,S.bt,S.fr,S.br.kept b7,hA2,hk2,hok2,cF,fun z hz=>S.hl z (List.mem_of_mem_erase hz),S.ne,S.n1,S.n2,S.n3,S.n4⟩
  obtain⟨av,cr,mv,l,rfl,c1,⟨bm,i1,i2,i3,rfl,b4,rfl⟩,W⟩:=hpr
  have W:pr::sN g.R g.C m=cr::[i1,i2,i3]:=W
  injection W with hk1 hk2'
  subst hk1
  have Mv:lV g.R g.C H2 bm m:=by show H2 bm=some (.tup ((sN g.R g.C m).map V.int));rw[hk2'];exact b4
  refine⟨av,_,rfl,bH.of c1,rfl,_,_,rfl,_,_,rfl,rfl,?_⟩
  refine hRt _ _ ?_
  obtain⟨fq,a4,_⟩:=M.low pr m bA
  have gg:=dg (.inl S2.fd) Mv
  rw[cJ Z,S2.fr m,a4] at gg
  refine fQ (aA (dZ (ae rfl) (dH (ae rfl) (ae rfl) gg))) (fun e=>?_) (fun e=>?_)
  ·have X:C m=some pr:=by
    have:pr=fq:=by simpa using e
    rw[this];exact a4
   have bx:=af.same S2.sm
   obtain⟨c,c',c9,oc,oo,rd,_,ca,_⟩:=id bx
   refine⟨_,rfl,f0,_,_,rfl,rfl,_,rfl,ca,?_⟩
   refine u_ (K:=K) Z bx Mv fun l H3 s3 nl ⟨qs,hl3,uN⟩=>?_
   rw[gu ok] at uN
   have S3:=S2.grow s3
   have cv:l≠a:=fun z=>by rw[z,S2.ha.ls] at nl;cases nl
   have al:qs.length=(rows g F' m).length:=by rw[Paired.length uN,CK]
   have c6:=i_ g F' m
   by_cases hdn:m∈dn
   ·-- come to already:nothing is made cheaper
    have M3:=M.drop hh am (.inr hdn)
    refine⟨l,rfl,⟨_,bg.of hl3⟩,cZ (K:=K) (a:=l) (xs:=qs.map V.ref) (fun j σ H'=>∃x7 x8:Option V,σ=[some (.ref f0),some (.ref L),some (.ref fa),some (.ref ba),some (.ref p),some (.ref bm),some (.int pr),x7,x8]∧H'=H3) ⟨_,_,rfl,rfl⟩ (fun j σ H' _ ⟨_,_,_,e⟩=>e▸bg.of hl3) ?_ ?_⟩
    ·rintro j y σ H4 hj ⟨x7,x8,rfl,rfl⟩
     obtain⟨ad,R,rfl⟩:=cC hj
     obtain⟨x,hx,bo,h1,h2⟩:=eh uN R
     rw[CW] at hx
     obtain⟨⟨o,w1⟩,ho,rfl⟩:=Do.mp hx
     obtain⟨qq,cd,bf⟩:=M.arcs m hdn pr X (fun _ z=>nomatch z) (o,w1) (C2 ho)
     have h1:H4 ad=some (.tup [.ref bo,.int w1]):=h1
     have h2:lV g.R g.C H4 bo o:=h2
     have bf:qq≤pr+w1:=bf
     refine dB fun Rg hRg=>?_
     refine⟨ad,_,rfl,bH.of h1,rfl,_,_,rfl,_,_,rfl,rfl,?_⟩
     refine hRg _ _ ?_
     have gg:=dg (.inl S3.fd) h2
     rw[cJ Z,S3.fr o,show C o=some qq from cd] at gg
     refine fB (cE (lU (aA (cW (ae rfl) (ae rfl) gg)) fun _=>aA (aZ (aZ (ae rfl) (ae rfl)) (dH (ae rfl) (ae rfl) gg))) (c:=false) ?_) rfl ⟨_,_,rfl,rfl⟩
     have:¬pr+w1<qq:=by lia
     simp[this]
    ·rintro σ H4 ⟨x7,x8,rfl,rfl⟩
     exact hN _ _ _ (by lia) ⟨Fr,B,C,u,vs2,ks2,_,dn,pr,_,_,_,_,rfl,S3,M3,rfl,by lia⟩
   ·have M3:=M.take hh am X hdn
    have ar:=Dj.bud_cons (g:=gG g F' ss ok) (dn:=dn) ci hdn
    have ar:Dj.bud (gG g F' ss ok) g.M (m::dn)+(rows g F' m).length=Dj.bud (gG g F' ss ok) g.M dn:=ar
    refine⟨l,rfl,⟨_,bg.of hl3⟩,cZ (K:=K) (a:=l) (xs:=qs.map V.ref) (fun j σ H'=>∃(Fr B:List (Nat×V)) (C:Dj.Far) (u:Dj.Back) (vs:List V) (ks:List (List Int)) (J:List (Int×Nat)) (x7 x8:Option V),
      σ=[some (.ref f0),some (.ref L),some (.ref fa),some (.ref ba),some (.ref p),some (.ref bm),some (.int pr),x7,x8]∧SS cHeap H H' fa ba p a g Fr B C u vs ks J∧Dj.Mid (gG g F' ss ok) C u J (m::dn) pr (some (m,(rows g F' m).take j))∧J.length≤(hq.erase (pr,m)).length+j∧H' l=some (.lst (qs.map V.ref))∧Paired (wt H') qs ((rows g F' m).map (un g))∧lV g.R g.C H' bm m)
     ⟨Fr,B,C,u,vs2,ks2,_,_,_,rfl,S3,by rw[List.take_zero];exact M3,CM _,hl3,uN,s3 _ _ Mv⟩ (fun j σ H' _ hz=>by obtain⟨_,_,_,_,_,_,_,_,_,_,_,_,_,e,_⟩:=hz;exact bg.of e) ?_ ?_⟩
    ·rintro j y σ H4 hj ⟨Fr,B,C,u,vs,ks,J,x7,x8,rfl,S4,M4,a2,O,Y,Mv4⟩
     obtain⟨ad,R,rfl⟩:=cC hj
     obtain⟨x,hx,bo,h1,h2⟩:=eh Y R
     rw[CW] at hx
     obtain⟨⟨o,w1⟩,ep,rfl⟩:=Do.mp hx
     have h1:H4 ad=some (.tup [.ref bo,.int w1]):=h1
     have h2:lV g.R g.C H4 bo o:=h2
     have a0:=C2 ep
     have an:o<g.M:=(oq ok a0).1
     have U:(rows g F' m).take (j+1)=(rows g F' m).take j++[(o,w1)]:=bE ep
     have da:j<(rows g F' m).length:=(C7.mp ep).1
     have c4:=S4.len
     refine dB fun Rg hRg=>?_
     refine⟨ad,_,rfl,bH.of h1,rfl,_,_,rfl,_,_,rfl,rfl,?_⟩
     refine hRg _ _ ?_
     have gg:=dg (.inl S4.fd) h2
     rw[cJ Z,S4.fr o] at gg
     have go:(∀qv,C o=some qv→pr+w1<qv)→∀{D0:eK},(∀σ H',(∃(Fr B:List (Nat×V)) (C:Dj.Far) (u:Dj.Back) (vs:List V) (ks:List (List Int)) (J:List (Int×Nat)) (x7 x8:Option V),
      σ=[some (.ref f0),some (.ref L),some (.ref fa),some (.ref ba),some (.ref p),some (.ref bm),some (.int pr),x7,x8]∧SS cHeap H H' fa ba p a g Fr B C u vs ks J∧Dj.Mid (gG g F' ss ok) C u J (m::dn) pr (some (m,(rows g F' m).take (j+1)))∧J.length≤(hq.erase (pr,m)).length+(j+1)∧H' l=some (.lst (qs.map V.ref))∧Paired (wt H') qs ((rows g F' m).map (un g))∧lV g.R g.C H' bm m)→D0.nx σ H')→
      dk (iB (bQ 2) (bQ 7) (fb (rY fun i j=>V.int (i+j)) (bQ 6) (bQ 8))) (dk (iB (bQ 3) (bQ 7) (bQ 5)) (v8 (lY cHeap "add" (pR cHeap) [] E0 (bQ 4) (cL (fb (rY fun i j=>V.int (i+j)) (bQ 6) (bQ 8)) (cL (bQ 7) fc))))) D0
       [some (.ref f0),some (.ref L),some (.ref fa),some (.ref ba),some (.ref p),some (.ref bm),some (.int pr),some (.ref bo),some (.int w1)] H4:=fun I D0 hD0=>by
      obtain⟨H5,H6,p1,p2,ap,b1,b6,bn,k6,nx⟩:=S4.relax Z hM (bb:=some m) (bv:=.ref bm) (pr+w1) h2 an (.inr ⟨m,bm,rfl,rfl,Mv4⟩)
      refine ir (aZ (ae rfl) (ae rfl)) (ae rfl) (ae rfl) p1 ?_
      refine ir (ae rfl) (ae rfl) (ae rfl) p2 ?_
      obtain⟨ce,a9⟩:=ap.ob
      refine⟨_,rfl,p,ce,_,rfl,a9,rfl,_,rfl,_,rfl,_,_,rfl,rfl,_,rfl,p,a,vs,ks,pr+w1,.ref bo,sN g.R g.C o,rfl,ap,b1,S4.ok,b6,by lia,fun H' vs' ks' q1 q2 q3 q4 q5=>?_⟩
      have be:TK H6 H':=q5.tk a9 ap.ls
      obtain⟨c8,cm⟩:=S4.ha.ob
      have b2:H' l=some (.lst (qs.map V.ref)):=q5 _ _ (k6 _ _ (fun z=>by rw[z,S4.fd] at O;cases O) (fun z=>by rw[z,S4.bd] at O;cases O) O) (fun z=>by rw[z,cm] at O;cases O) cv
      refine hD0 _ _ ⟨_,_,_,_,_,_,_,_,_,rfl,nx H' vs' ks' q1 q2 q3 q4 q5,?_,by rw[Dl];lia,b2,cQ Y (fun b ys e=>be _ _ (bn _ _ e)),be _ _ (bn _ _ Mv4)⟩
      rw[U]
      exact M4.more a0 I fun z=>by rw[CV]
     cases hfo:C o with
     |none=>
      rw[hfo] at gg
      refine wL (lU (b:=true) (aA (cW (ae rfl) (ae rfl) gg)) fun e=>nomatch e) rfl ?_
      exact go (fun qv z=>by rw[hfo] at z;cases z) fun _ _ z=>z
     |some qv=>
      rw[hfo] at gg
      refine fQ (lU (aA (cW (ae rfl) (ae rfl) gg)) fun _=>aA (aZ (aZ (ae rfl) (ae rfl)) (dH (ae rfl) (ae rfl) gg))) (fun e=>?_) (fun e=>?_)
      ·have I:pr+w1<qv:=by simpa using e
       exact go (fun qv' z=>by rw[hfo] at z;cases z;exact I) fun _ _ z=>z
      ·have I:¬pr+w1<qv:=by simpa using e
       refine⟨Fr,B,C,u,vs,ks,J,_,_,rfl,S4,?_,by lia,O,Y,Mv4⟩
       rw[U]
       exact M4.skip a0 hfo I
    ·rintro σ H4 ⟨Fr,B,C,u,vs,ks,J,x7,x8,rfl,S4,M4,a2,O,Y,Mv4⟩
     rw[CK,al,DR] at M4
     rw[CK,al] at a2
     exact hN _ _ _ (by lia) ⟨Fr,B,C,u,vs,ks,J,m::dn,pr,_,_,_,_,rfl,S4,M4.end,rfl,by lia⟩
  ·have X:C m≠some pr:=fun z=>by
    rw[a4] at z;cases z
    simp at e
   have M3:=M.drop hh am (.inl X)
   exact hN _ _ _ (by lia) ⟨Fr,B,C,u,vs2,ks2,_,dn,pr,_,_,_,_,rfl,S2,M3,rfl,by lia⟩
 ·have a3:¬(0:Int)<((vs.length:Nat):Int):=of_decide_eq_false hb
  have b9:hq=[]:=Fu (by lia)
  subst b9
  refine oC (ah (ae rfl) (ah (ae rfl) ay)) (by show 2≤sizeLine;decide) fun t nt=>?_
  have S5:=S.grow ((ax.refl H').upd nt (o:=.tup [.ref fa,.ref ba]))
  exact q _ t fa ba Fr B C u S5.sm ag S5.n1 S5.n2 S5.fd S5.bd S5.ft S5.bt S5.fr S5.br M.told
theorem Ap(F:dW K "way_back" "way_back" tW f fd)(T:eV K mg cFloor cHeap cMS):bJ P w K mg base dw 1 f fd ["back", "mark"] wa:=by
 have sc:aM ["back", "mark", "way"] ["back", "mark"] (au tW):=⟨rfl,rfl,rfl,by decide+kernel,rfl,by decide+kernel,by decide+kernel⟩
 refine F.ok sc (fun vs H Q E h=>by repeat (first|(obtain⟨rfl,_⟩:=h;rfl)|(obtain⟨_,h⟩:=h))) (fun cdv A outer s H vs Q E hr h=>?_)
 obtain⟨ba,b,g,F',B,ss,M,I,n,W,rfl,Z,D,v,hb,hW,J,q⟩:=h
 refine⟨_,(ao (aO (i:=2) sc.nd rfl (Or.inl rfl) (cT (ab (pv 1) aq)))
 (ao (gq PassesOwn.never (aI y8 (dF (bj.one hr) (pv 0) (aC aU (pv 2) (vM rh ai) (fun _ _=>rfl)) (fun _ _=>rfl)) o_ (aV _))
 (aw (bS (eY Ek EO ER dj (pv 2) (ab (dF (bj.one hr) (pv 0) (aC aU (pv 2) (vM rh ai) (fun _ _=>rfl)) (fun _ _=>rfl)) aq)))))
 (aw (aP (qO rfl (by rfl) T.list_ (by rfl) T.reversed_ (pv 2)))))),?_⟩
 have O:sizeLine=2^24:=rfl
 obtain⟨r,l⟩:=hW.hd
 have x:∀{L:Addr},H L=none→b≠L:=fun e=>ak hb e
 refine zL (ah (ae rfl) ay) (by show 1≤sizeLine;decide) fun L nL=>?_
 refine gC (fun m σ H'=>∃(as:List Addr) (j:Nat),σ=[some (.ref ba),some (.ref b),some (.ref L)]∧m=W.length - j∧j<W.length∧ax H H'∧H' L=some (.lst (as.map V.ref))∧bN H' as ((W.take (j+1)).map (sN g.R g.C)))
  ⟨_,[b],0,rfl,rfl,by rw[l];simp,(ax.refl H).upd nL,ag,?_⟩ ?_
 ·rw[l]
  exact .cons (by rw[aj (x nL)];exact hb) .nil
 rintro m σ H' ⟨as,j,rfl,rfl,hj,s,hL,hT⟩
 have d:as.length=j+1:=by rw[Paired.length hT,CK,Dx];lia
 have k:as≠[]:=fun z=>by rw[z] at d;simp at d
 obtain⟨pre,u,hpre⟩:∃pre u,as=pre++[u]:=⟨as.dropLast,as.getLast k,(E8 k).symm⟩
 have C:pre.length=j:=by rw[hpre,C_] at d;simpa using d
 have hu:H' u=some (.tup ((sN g.R g.C (W.getD j 0)).map V.int)):=by
  have e:as[j]?=some u:=by rw[hpre,←C];simp
  obtain⟨c,hc,o⟩:=cc hT e
  rw[CW,D3 (by lia),Dd hj] at hc
  have hc:c=sN g.R g.C W[j]:=(Option.some.inj hc).symm
  rw[hc] at o
  rw[Dc,Dd hj];exact o
 have gg:=dg (.inl (s _ _ D)) hu
 rw[cJ Z] at gg
 have a:Ev (fb (oO K) (bQ 2) (BB (rU fun i=>V.int (-i)) (tC (.int 1)))) [some (.ref ba),some (.ref b),some (.ref L)] H' (.ref u):=bw (ae rfl) (AR az) (bg.of hL) (by rw[hpre,C3];exact p8 _ _)
 rcases hW.at j hj with ⟨hbk,hend⟩|⟨hbk,hlt⟩
 ·have hv:=(v _).2.1 hbk
  rw[hv] at gg
  refine⟨!decide (V.non=.non),aA (sV (dH (ae rfl) a gg) az),fun e=>by simp at e,fun _=>?_⟩
  refine⟨_,rfl,L,as.map V.ref,rfl,bg.of hL,fun p hp=>q _ p (s.upd hp) ⟨as.reverse,by rw[ag,List.map_reverse],?_⟩⟩
  rw[EB (by lia)] at hT
  have:=wm hT
  rw[←List.map_reverse] at this
  exact aB this fun b' xs e=>by rw[aj (ak e hp)];exact e
 ·obtain⟨b',hv,y⟩:=(v _).2.2 _ hbk
  rw[hv] at gg
  refine⟨!decide (V.ref b'=.non),aA (sV (dH (ae rfl) a gg) az),fun _ N hN=>?_,fun e=>by simp at e⟩
  refine⟨_,rfl,.inl ⟨rfl,_,bg.of hL⟩,dH (ae rfl) a gg _ ⟨L,_,_,rfl,rfl,hL,(by rw[CK];lia),?_⟩⟩
  refine hN (W.length - (j+1)) _ _ (by lia) ⟨as++[b'],j+1,rfl,rfl,hlt,bT s nL,by rw[ag,C3];rfl,?_⟩
  have e1:W[j+1]?=some (W.getD (j+1) 0):=by rw[Dc,Dd hlt];rfl
  rw[bE e1,C3]
  exact cU (aB hT (bU hL)) (.cons (bU hL _ _ (s _ _ y)) .nil)
theorem uU(F:dW K "cheapest" "cheapest" jm f fd)(T:eV K mg cFloor cHeap cMS)(gArcsIn:aJ P w K mg base "arcs_in" 6 ["floor", "free"] (kQ K mg cFloor))(gSpread:aJ P w K mg base "spread" 3 ["arcs", "starts"] (lC mg))(gWay:aJ P w K mg base "way_back" 1 ["back", "mark"] wa):bJ P w K mg base dw 7 f fd ["floor", "free", "starts", "goals"] (nX K cFloor):=by
 have sc:aM ["floor", "free", "starts", "goals", "far", "back", "found", "top", "goal", "heights"] ["floor", "free", "starts", "goals"] (au jm):=⟨rfl,rfl,rfl,by decide+kernel,rfl,by decide+kernel,by decide+kernel⟩
 refine F.ok sc (fun vs H Q E h=>by repeat (first|(obtain⟨rfl,_⟩:=h;rfl)|(obtain⟨_,h⟩:=h))) (fun cdv A outer s H vs Q E hr h=>?_)
 obtain⟨p,pr,vi,rd,td,e,b6,bm,g,F',ss,gs,rfl,bl,hg,he,hT,n1,n2,an,⟨b0,bD,av⟩,br,a2,⟨ac,bA,am⟩,b8,b5,q⟩:=h
 refine⟨_,(ao (dz (aN gSpread (hr.mono (by decide)) (by rfl) (ab (aN gArcsIn (hr.mono (by decide)) (by rfl) (ab (pv 0) (ab (pv 1) aq))) (ab (jX (ls:=["start"]) (ys:=[]) (ix:=[]) rfl ⟨rfl,by rfl,by rfl,by rfl,by rfl,rfl⟩ (cg (pv 2)) (fun _ _ _ _ _=>(aD (i:=0) (show(["start"]:List Str).Nodup by decide+kernel) rfl (Or.inl rfl))) (fun _ _ _ _ _=>gx) (fun _ _ _ _ _=>(bM (ab (pv 0) (ab ai aq))))) aq))) (dY rfl (aY (aD (i:=4) sc.nd rfl (Or.inr rfl)) (aY (aD (i:=5) sc.nd rfl (Or.inl rfl)) cO))))
 (ao (fz (i:=6) (ls:=["goal"]) (ys:=["far"]) (ix:=[4]) rfl sc.nd rfl (Or.inl rfl) ⟨rfl,by rfl,by rfl,by rfl,by rfl,rfl⟩ (cg (pv 3)) (fun _ _ _ _ _=>(aD (i:=0) (show(["goal", "far"]:List Str).Nodup by decide+kernel) rfl (Or.inl rfl))) (fun _ _ _ _ _=>(jf (fI (lB (by exact(bj.one hr)) (pv 0) (pv 1))))) (fun _ _ _ _ _=>(bM (ab (dF (by exact(bj.one hr)) (pv 1) (pv 0) (fun _ _=>rfl)) (ab (pv 0) aq)))))
 (ao (bI (aI e_ (aK bp (by rfl) T.len_ bW (ab (pv 6) aq)) ai (aV _))
 (aw (aP (bM (ab oV (ab (aK (oK rfl) (by rfl) T.sorted_ ji (ab (pv 4) aq)) aq)))))
 aQ)
 (ao (dz (aK (uq rfl hr) (by rfl) T.min_ qE (ab (pv 6) aq)) (dY rfl (aY (aD (i:=7) sc.nd rfl (Or.inr rfl)) (aY (aD (i:=8) sc.nd rfl (Or.inl rfl)) cO))))
 (ao (aO (i:=9) sc.nd rfl (Or.inl rfl) (bK (fZ rfl hr) (by rfl) T.dict_ fA (ab (zu (jX (ls:=["spot", "price"]) (ys:=["top"]) (ix:=[7]) rfl ⟨rfl,by rfl,by rfl,by rfl,by rfl,rfl⟩ (wW (pv 4)) (fun _ _ _ _ _=>(o3 (K:=K) (n:=2) rfl rfl (aY (aD (i:=0) (show(["spot", "price", "top"]:List Str).Nodup by decide+kernel) rfl (Or.inl rfl) (hf:=.inr rfl)) (aY (aD (i:=1) (show(["spot", "price", "top"]:List Str).Nodup by decide+kernel) rfl (Or.inl rfl) (hf:=.inr rfl)) cO)) rfl rfl)) (fun _ _ _ _ _=>(jf (aI fR (pv 1) (pv 2) (aV _)))) (fun _ _ _ _ _=>(bM (ab (pv 0) (ab (pv 1) aq)))))) aq)))
 (aw (aP (bM (ab oV (ab (aN gWay (hr.mono (by decide)) (by rfl) (ab (pv 5) (ab (pv 8) aq))) (ab (bM (ab (pv 7) (ab (pv 9) aq))) aq))))))))))),?_⟩
 have Z:=hg.S
 have hM:=hg.m
 have b7:sizeLine=2^24:=rfl
 have sl:b0.length=ss.length:=by rw[Paired.length av,CK]
 have gl:ac.length=gs.length:=by rw[Paired.length am,CK]
 refine cu fun R1 hR1=>?_
 refine yw (pV (cH (ah (ae rfl) (ah (ae rfl) ay)) ⟨p,pr,vi,rd,td,e,g,F',rfl,bl,hg,he,hT,n1,n2,an,fun H1 f sm hf=>?_⟩))
 have keep:∀{b:Addr} {x:HO},H b=some x→(∀ps,x≠.tbl ps)→H1 b=some x:=fun{b x} eb nx=>sm b x (fun z=>by rw[z,show H (dR K "arcs_in").2=some (.tbl #[]) from an] at eb;cases eb;exact nx _ rfl) eb
 have Y:=keep bD (fun _ z=>nomatch z)
 have a8:=aB av fun b xs z=>keep z (fun _ y=>nomatch y)
 have a5:=keep bA (fun _ z=>nomatch z)
 have a7:=aB am fun b xs z=>keep z (fun _ y=>nomatch y)
 refine uW (K:=K) (ae rfl) (bg.of Y) fun D nD=>?_
 refine pB (K:=K) (fun _=>true) (fun _=>0) [] nD (fun H' s=>bg.of (s _ _ Y)) a8 (by lia) (fun b c H' hc hb s=>⟨fun _ z=>z,fun _=>az⟩) fun H2 bs s2 hD2 hbs=>?_
 rw[List.filter_eq_self.mpr (fun _ _=>rfl),Dq] at hbs
 refine⟨f,D,e,g,F',ss,hg,rfl,hf.same s2,⟨bs,hD2,hbs⟩,br,fun n hn=>(a2 n hn).1,fun H3 t3 fa ba Fr B far back s3 ht3 nfa nba hfa hba hTf hTB hfr hbr told=>?_⟩
 have S:=tY.of hg told a2
 refine⟨t3,_,rfl,bH.of ht3,rfl,_,_,rfl,_,_,rfl,rfl,?_⟩
 refine hR1 _ _ ?_
 have L:=s2.trans s3
 have ap:B4 K H H3:=fun b x nb eb=>L _ _ (sm b x nb eb)
 have ad:=L _ _ a5
 have a9:=aB a7 fun b xs z=>L _ _ z
 refine cu fun R0 hR0=>?_
 refine⟨_,rfl,bm,rfl,⟨_,bg.of ad⟩,fun D4 nD4=>?_⟩
 refine dN (K:=K) (xs:=ac.map V.ref) (fun i τ H'=>∃(x0:Option V) (qs:List Addr),τ=[x0,some (.ref fa)]∧ax H3 H'∧H' D4=some (.lst (qs.map V.ref))∧Paired (BH g.R g.C far H') qs ((gs.take i).filter fun n=>(far n).isSome)∧qs.length≤i)
  ⟨none,[],rfl,(ax.refl H3).upd nD4,ag,.nil,CM _⟩ (fun i τ H' _ ⟨_,_,_,s,_⟩=>bg.of (s _ _ ad)) ?_ ?_
 ·rintro i x τ H' hx bv
  refine dB fun Rg1 hRg1=>?_
  obtain⟨x0,qs,rfl,s,hD,d,bn⟩:=bv
  obtain⟨b,hb,rfl⟩:=cC hx
  obtain⟨c,hc,bf⟩:=cc a9 hb
  rw[CW] at hc
  obtain⟨n,hn,rfl⟩:=Do.mp hc
  have hi:i<ac.length:=(C7.mp hb).1
  have a4:lV g.R g.C H' b n:=s _ _ bf
  have gg:=dg (.inl (s _ _ hfa)) a4
  rw[cJ Z,hfr n] at gg
  refine gn ?_
  refine hRg1 _ _ ?_
  refine aA (oU (ae rfl) (ae rfl) gg) _ ?_
  cases ff:far n with
  |none=>
   rw[ff] at gg
   refine hU ⟨_,qs,rfl,s,hD,?_,by lia⟩
   rw[bE hn,DH,DK (by rw[ff];decide),EF,Dw];exact d
  |some pc=>
   rw[ff] at gg
   refine lG (kW (vs:=[.int pc,.ref b]) (ah (dH (ae rfl) (ae rfl) gg) (ah (ae rfl) ay)) (by show 2≤sizeLine;decide) fun t nt=>?_)
   have I:t≠D4:=CQ (ak hD nt)
   refine⟨qs.map V.ref,by rw[aj (CQ I)];exact hD,by rw[CK];lia,_,qs++[t],rfl,bT (s.upd nt) nD4,by rw[ag,C3];rfl,?_,dQ (by assumption)⟩
   rw[bE hn,DH,DJ (by rw[ff];rfl)]
   exact ip (vZ d (bX hD nt)) (.cons ⟨b,pc,by rw[aj I,ag],bX hD nt _ _ a4,ff⟩ .nil)
 rintro τ H4 ⟨x0,qs,rfl,s4,a3,d,bn⟩
 rw[CK,gl,DR] at d
 have qf:qs.length=(gs.filter fun n=>(far n).isSome).length:=Paired.length d
 refine hR0 _ _ ?_
 dsimp only
 refine gp (aA (dZ (cn (v:=.int (qs.length:Nat)) (ah (ae rfl) ay) fun Q' q'=>⟨_,qs.length,rfl,.inl ⟨_,bg.of a3,by rw[CK]⟩,q'⟩) az)) (fun hz=>?_) (fun hz=>?_)
 ·have hz:qs.length=0:=by have:=of_decide_eq_true hz;lia
  have af:∀j∈gs,far j=none:=fun j hj=>by
   cases ff:far j with
   |none=>rfl
   |some pc=>
    have:j∈gs.filter fun n=>(far n).isSome:=DO.mpr ⟨hj,by rw[ff];rfl⟩
    have:=List.length_pos_of_mem this
    lia
  have bo:∀n,(aR Fr n).isSome=(far n).isSome:=fun n=>by rw[hfr n];cases far n<;>rfl
  refine⟨_,rfl,fa,aX g.R g.C Fr,(Fr.map (·.1)).map (sN g.R g.C),rfl,s4 _ _ hfa,qg,fun c hc=>?_,by rw[CK,CK];have:=hTf.few;lia,fun l bs ds nl hbs hp ho=>⟨by show 2≤sizeLine;decide,fun t nt=>?_⟩⟩
  ·obtain⟨n,_,rfl⟩:=CU.mp hc
   unfold sN;simp
  have ed:=jV Z hTf hp ho
  have s5:ax H4 (upd (upd H4 l (.lst (bs.map V.ref))) t (.tup [.str "shore",.ref l])):=((ax.refl H4).upd nl).upd nt
  have be:l≠t:=fun z=>by rw[←z,ag] at nt;cases nt
  refine q _ t far back (fun b x nb eb=>s5 _ _ (s4 _ _ (ap b x nb eb))) S (.inr ⟨l,ag,⟨bs,by rw[aj be,ag],?_⟩,af⟩)
  rw[show fS g.R g.C g.M (fun n=>(far n).isSome)=ds by rw[ed];congr 1;funext n;exact(bo n).symm]
  exact aB hbs fun b xs z=>s5 _ _ z
 have bc:0<qs.length:=by have:=of_decide_eq_false hz;lia
 generalize hms:gs.filter (fun n=>(far n).isSome)=ms at d qf
 refine cu fun R2 hR2=>?_
 refine⟨_,rfl,D4,qs.map V.ref,ms.map (fun n=>(far n).getD 0::sN g.R g.C n),rfl,bg.of a3,by rw[CK,CK];exact qf,by rw[CK];exact bc,fun i v hv=>?_,fun j v hv hmin=>?_⟩
 ·obtain⟨a,ha,rfl⟩:=cC hv
  obtain⟨n,hn,b,pc,e1,e2,e3⟩:=eh d ha
  rw[Dc,CW,hn]
  refine⟨a,pc,.ref b,sN g.R g.C n,rfl,bH.of e1,⟨b,_,_,_,rfl,bH.of e2,rfl⟩,?_⟩
  show(far n).getD 0::sN g.R g.C n=_
  rw[e3];rfl
 obtain⟨a,ha,rfl⟩:=cC hv
 obtain⟨n,hn,b,top,e1,e2,e3⟩:=eh d ha
 have ar:n∈ms:=C2 hn
 have bu:n∈gs:=by rw[←hms] at ar;exact(DO.mp ar).1
 have least:∀m∈gs,∀pc,far m=some pc→top≤pc:=fun m hm pc hp=>by
  have bx:m∈ms:=by rw[←hms];exact DO.mpr ⟨hm,by rw[hp];rfl⟩
  obtain⟨i,hi,ei⟩:=List.getElem_of_mem bx
  have h2:=hmin i (by rw[CK];exact hi)
  rw[Dc,Dc,CW,CW,hn,Dd hi,ei] at h2
  have h2:HT.lexLt ((far m).getD 0::sN g.R g.C m) ((far n).getD 0::sN g.R g.C n)=false:=h2
  rw[hp,e3] at h2
  have h2:HT.lexLt (pc::sN g.R g.C m) (top::sN g.R g.C n)=false:=h2
  rw[HT.lexLt_cons] at h2
  by_cases c:pc=top
  ·lia
  ·rw[if_neg c] at h2
   have:=of_decide_eq_false h2
   have:¬pc<top:=this
   lia
 refine⟨a,_,rfl,bH.of e1,rfl,_,_,rfl,_,_,rfl,rfl,?_⟩
 refine hR2 _ _ ?_
 have aa:=s4 _ _ hfa
 have a6:=s4 _ _ hba
 have few:=hTf.few
 refine a_ fun Rh hRh=>?_
 refine⟨fa,.dT (aX g.R g.C Fr),aa,trivial,fun o=>?_⟩
 have r:∀{H':Hp},ax (upd H4 fa (.frz o (.dT (aX g.R g.C Fr)))) H'→ax H4 (upd H' fa (.dT (aX g.R g.C Fr))):=fun s=>lQ aa s
 have k:upd H4 fa (.frz o (.dT (aX g.R g.C Fr))) fa=some (.frz o (.dT (aX g.R g.C Fr))):=ag
 have a1:∀{b:Addr},upd H4 fa (.frz o (.dT (aX g.R g.C Fr))) b=none→H4 b=none:=fun{b} z=>by
  rw[aj (fun y=>by rw[y,ag] at z;cases z)] at z;exact z
 revert r k a1
 generalize upd H4 fa (.frz o (.dT (aX g.R g.C Fr)))=HF
 intro r k a1
 refine⟨_,rfl,fa,o,.dT (aX g.R g.C Fr),rfl,k,trivial,fun D5 nD5=>?_⟩
 refine u4 (fun i τ H'=>∃(x0 x1:Option V) (rs:List Addr),τ=[x0,x1,some (.int top)]∧ax HF H'∧H' D5=some (.lst (rs.map V.ref))∧si H' rs (aX g.R g.C ((Fr.take i).filter (mm top)))∧rs.length≤i)
  ⟨none,none,[],rfl,(ax.refl HF).upd nD5,ag,.nil,CM _⟩ (fun i τ H' _ ⟨_,_,_,_,s,_⟩=>s _ _ k) ?_ ?_
 ·rintro i x v pp τ H' hk hi np ⟨x0,x1,rs,rfl,s,hD,N,bi⟩
  have hi:i<(aX g.R g.C Fr).length:=hi
  rw[b_] at hi
  obtain⟨y,b',hy,rfl,rfl,b3⟩:=iC hk
  obtain⟨w,hw⟩:∃w:Int,y.2=.int w:=by
   have e1:aR Fr y.1=some y.2:=by
    cases ev:aR Fr y.1 with
    |none=>exact absurd (cb.mpr (DG (C2 hy))) (by rw[ev];simp)
    |some v=>
     have m1:=gI ev
     have m2:=C2 hy
     have:=sP hTf.nd m1 m2 rfl
     rw[this]
   rw[hfr y.1] at e1
   cases ff:far y.1 with
   |none=>rw[ff] at e1;cases e1
   |some w=>rw[ff] at e1;exact⟨w,(Option.some.inj e1).symm⟩
  have s':ax H' (upd H' pp (.tup [.ref b',y.2])):=(ax.refl H').upd np
  have M:upd H' pp (.tup [.ref b',y.2]) pp=some (.tup [.ref b',y.2]):=ag
  revert s' M
  generalize upd H' pp (.tup [.ref b',y.2])=H5
  intro s' M
  rw[hw] at M
  refine⟨pp,_,rfl,bH.of M,rfl,?_⟩
  refine⟨_,_,rfl,gn ?_⟩
  refine⟨_,_,rfl,gn ?_⟩
  refine⟨rfl,?_⟩
  have C:=s' _ _ hD
  have b2:=s' _ _ b3
  have X:=si.mono N fun b xs z=>s' b _ z
  have al:mm top y=decide (w<top):=by unfold mm;rw[hw]
  refine aA (aZ (ae rfl) (ae rfl)) _ ?_
  by_cases c:w<top
  ·rw[decide_eq_true c]
   refine lG (kW (vs:=[.ref b',.int w]) (ah (ae rfl) (ah (ae rfl) ay)) (by show 2≤sizeLine;decide) fun t nt=>?_)
   have I:t≠D5:=CQ (ak C nt)
   refine⟨rs.map V.ref,by rw[aj (CQ I)];exact C,by rw[CK];lia,_,_,rs++[t],rfl,bT ((s.trans s').upd nt) nD5,by rw[ag,C3];rfl,?_,dQ (by assumption)⟩
   rw[bE hy,DH,DJ (by rw[al];exact decide_eq_true c)]
   rw[show aX g.R g.C (List.filter (mm top) (Fr.take i)++y::List.filter (mm top) [])=aX g.R g.C (List.filter (mm top) (Fr.take i))++[(iK (sN g.R g.C y.1),y.2)] from by unfold aX;rw[C3];rfl]
   refine ip (si.mono X (bX C nt)) (.cons ⟨b',by rw[aj I,ag,hw],bX C nt _ _ (f_ b2)⟩ .nil)
  ·rw[decide_eq_false c]
   refine hU ⟨_,_,rs,rfl,s.trans s',C,?_,by lia⟩
   rw[bE hy,DH,DK (by rw[al];simpa using c),EF,Dw]
   exact X
 rintro τ H5 ⟨x0,x1,rs,rfl,s5,bd,N,bi⟩
 rw[show er (.dT (aX g.R g.C Fr))=Fr.length from b_,DR] at N
 refine⟨s5 _ _ k,?_⟩
 have s6:=r s5
 have bb:D5≠fa:=fun z=>by rw[z,k] at nD5;cases nD5
 have U:upd H5 fa (.dT (aX g.R g.C Fr)) D5=some (.lst (rs.map V.ref)):=by rw[aj bb];exact bd
 have J:si (upd H5 fa (.dT (aX g.R g.C Fr))) rs (aX g.R g.C (Fr.filter (mm top))):=si.mono N fun b xs z=>by rw[aj (fun y=>by rw[y,s5 _ _ k] at z;cases z)];exact z
 revert s6 U J
 generalize upd H5 fa (.dT (aX g.R g.C Fr))=H6
 intro s6 U J
 have a0:=hTf.filter (mm top)
 refine⟨D5,rs,_,rfl,U,J,fun hd nhd=>?_⟩
 refine hRh _ _ ?_
 rw[Af _ (Aj Z a0)]
 have s7:ax H6 (upd H6 hd (.dT (aX g.R g.C (Fr.filter (mm top))))):=(ax.refl H6).upd nhd
 have R:upd H6 hd (.dT (aX g.R g.C (Fr.filter (mm top)))) hd=some (.dT (aX g.R g.C (Fr.filter (mm top)))):=ag
 revert s7 R
 generalize upd H6 hd (.dT (aX g.R g.C (Fr.filter (mm top))))=H7
 intro s7 R
 have O:=s6.trans s7
 obtain⟨W,hW⟩:=S.wb n top e3
 have b4:W.length≤128:=by
  have:W.length≤(List.range g.M).length:=dA hW.nd fun x hx=>by
   obtain⟨pc,hp⟩:=hW.inn x hx
   exact Ew.mpr (S.fr x pc hp).1
  rw[FR] at this
  lia
 refine cH (ah (ae rfl) (ah (ae rfl) ay)) ⟨ba,b,g,F',B,ss,far,back,n,W,rfl,Z,O _ _ a6,(hbr.kept (ke s4)).kept (ke O),O _ _ e2,hW,by lia,fun H8 l s8 hl=>?_⟩
 refine eS (vs:=[.int top,.ref hd]) (ah (ae rfl) (ah (ae rfl) ay)) (by show 2≤sizeLine;decide) fun u nu=>⟨by show 3≤sizeLine;decide,fun t nt=>?_⟩
 have s9:ax H8 (upd (upd H8 u (.tup [.int top,.ref hd])) t (.tup [.str "way",.ref l,.ref u])):=((ax.refl H8).upd nu).upd nt
 have b1:u≠t:=fun z=>by rw[←z,ag] at nt;cases nt
 refine q _ t far back (fun b x nb eb=>s9 _ _ (s8 _ _ (O _ _ (s4 _ _ (ap b x nb eb))))) S (.inl ⟨l,u,hd,n,W,top,_,ag,hl.same s9,by rw[aj b1,ag],s9 _ _ (s8 _ _ R),(fun b' x' eb nx=>CQ (ak (s6 _ _ (s4 _ _ (L _ _ (keep eb nx)))) nhd)),a0,bu,hW,e3,least,uk hTf.nd hfr⟩)
theorem xg(F:dW K "_law_cell_at" "_law_cell_at" mQ f fd)(T:eV K mg cFloor cHeap cMS):bJ P w K mg base dw 1 f fd ["script", "k"] (og K):=by
 have sc:aM ["script", "k"] ["script", "k"] (au mQ):=⟨rfl,rfl,rfl,by decide+kernel,rfl,by decide+kernel,by decide+kernel⟩
 refine F.ok sc (fun vs H Q E h=>by repeat (first|(obtain⟨rfl,_⟩:=h;rfl)|(obtain⟨_,h⟩:=h))) (fun cdv A outer s H vs Q E hr h=>?_)
 obtain⟨a,ns,i,rfl,ha,h0,q⟩:=h
 refine⟨_,(ao (bI (aI fR (pv 1) (aK bp (by rfl) T.len_ bW (ab (pv 0) aq)) (aV _))
 (aw (aP (aC aU (pv 0) (pv 1) (fun _ _=>rfl))))
 aQ)
 (aw (aP ai))),?_⟩
 refine fQ (aA (aZ (ae rfl) (cn (ah (ae rfl) ay) fun Q' q'=>⟨_,_,rfl,by first|exact .inl ⟨_,by assumption,rfl⟩|exact .inl ⟨_,bg.of (by assumption),rfl⟩|exact .inr ⟨_,by assumption,rfl⟩|exact .inr ⟨_,bH.of (by assumption),rfl⟩,q'⟩))) (fun e=>?_) (fun _=>?_)
 ·have b:i<((ns.map V.int).length:Int):=of_decide_eq_true e
  rw[CK] at b
  obtain⟨j,rfl⟩:=Eb h0
  have hj:j<ns.length:=by lia
  exact cw (bw (v:=.int ns[j]) (ae rfl) (ae rfl) ha (cA (by simp[hj]))) (q _)
 ·exact q 0
theorem uA(F:dW K "_law_folded" "_law_folded" gO f fd)(T:eV K mg cFloor cHeap cMS):bJ P w K mg base dw 1 f fd ["script", "behind", "many"] (lF K):=by
 have sc:aM ["script", "behind", "many", "gathered", "k", "at"] ["script", "behind", "many"] (au gO):=⟨rfl,rfl,rfl,by decide+kernel,rfl,by decide+kernel,by decide+kernel⟩
 refine F.ok sc (fun vs H Q E h=>by repeat (first|(obtain⟨rfl,_⟩:=h;rfl)|(obtain⟨_,h⟩:=h))) (fun cdv A outer s H vs Q E hr h=>?_)
 obtain⟨a,ns,rfl,ha,hn,q⟩:=h
 refine⟨_,(ao (fz (i:=3) (ls:=["k"]) (ys:=[]) (ix:=[]) rfl sc.nd rfl (Or.inl rfl) ⟨rfl,by rfl,by rfl,by rfl,by rfl,rfl⟩ (cG (by rfl) T.range_ (ab (pv 2) aq)) (fun _ _ _ _ _=>(aD (i:=0) (show(["k"]:List Str).Nodup by decide+kernel) rfl (Or.inl rfl))) (fun _ _ _ _ _=>gx) (fun _ _ _ _ _=>(aF bB (aF fO (pv 0) (pv 0)) (pv 0))))
 (ao (bP PassesOwn.never rfl (mS (by rfl) T.range_ (ab (pv 1) (ab (aK bp (by rfl) T.len_ bW (ab (pv 0) aq)) aq))) (aD (i:=4) sc.nd rfl (Or.inl rfl))
 (ao (aO (i:=5) sc.nd rfl (Or.inl rfl) (aF cx (aF dt (pv 4) (pv 1)) (pv 2)))
 (aw (dz (aF cx (aF bB (aF fO (aC aU (pv 3) (pv 5) (fun _ _=>rfl)) ai) (aC aU (pv 0) (pv 4) (fun _ _=>rfl))) ai) (jw (pv 3) (pv 5) fx)))))
 (aw (aP (pv 3))))),?_⟩
 have b:sizeLine=2^24:=rfl
 refine qQ (j:=16) (ah (ae rfl) ay) (by decide) (by decide) fun D nD=>?_
 refine kZ (fun i τ H'=>∃(x0:Option V) (cs:List Int),τ=[x0]∧H'=upd H D (.lst (cs.map V.int))∧cs.length=i) ⟨none,[],rfl,rfl,rfl⟩ ?_ ?_
 ·rintro i τ H' hi ⟨x0,cs,rfl,rfl,hl⟩
  have hi:i<16:=hi
  refine gn (qm ?_)
  refine(aZ (cP (ae rfl) (ae rfl) (AG (by lia) (by lia))) (ae rfl)) _ ?_
  refine⟨_,ag,by rw[CK];lia,_,cs++[(0+(i:Int))*(0+(i:Int))+(0+(i:Int))],rfl,?_,by rw[C_,hl];rfl⟩
  rw[xJ,C3];rfl
 rintro τ H' ⟨x0,cs,rfl,rfl,hl⟩
 have hl:cs.length=16:=hl
 have s1:ax H (upd H D (.lst (cs.map V.int))):=(ax.refl H).upd nD
 have hD:upd H D (.lst (cs.map V.int)) D=some (.lst (cs.map V.int)):=ag
 revert s1 hD
 generalize upd H D (.lst (cs.map V.int))=H1
 intro s1 hD
 try dsimp only[List.set]
 refine tm (i:=8) (j:=(ns.length:Nat)) (ah (ae rfl) (ah (cn (v:=.int (ns.length:Nat)) (ah (ae rfl) ay) fun Q' q'=>⟨_,_,rfl,.inl ⟨_,s1.seq ha,(by rw[CK])⟩,q'⟩) ay)) ⟨by lia,by lia,by lia,by lia⟩ ?_
 refine cM (n:=((ns.length:Int) - 8).toNat) (fun i σ H'=>∃(x4 x5:Option V) (cs:List Int),σ=[some (.ref a),some (.int 8),some (.int 16),some (.ref D),x4,x5]∧ax H H'∧H' D=some (.lst (cs.map V.int))∧cs.length=16) ⟨none,none,cs,rfl,s1,hD,hl⟩ ?_ ?_
 ·rintro i σ H' hi ⟨x4,x5,cs,rfl,s,hD,hl⟩
  refine gn ?_
  refine gy (v:=.int ((8+(i:Int) - 8)%16)) (cP (aZ (ae rfl) (ae rfl)) (ae rfl) (by show(0:Int)<16;decide)) ?_
  have b0:=ED (8+(i:Int) - 8) (show(16:Int)≠0 by decide)
  have b1:=EE (8+(i:Int) - 8) (show(0:Int)<16 by decide)
  obtain⟨c,ec,ei⟩:=om (cs:=cs) b0 (by rw[hl];exact b1)
  obtain⟨u,eu,_⟩:=om (cs:=ns) (i:=8+(i:Int)) (by lia) (by lia)
  refine yk (v:=.int ((c*31+u)%1000000000039)) ?_ ?_
  ·exact cP (aZ (cP (bw (v:=.int c) (ae rfl) (ae rfl) (bg.of hD) ec) az (AG (by decide) (by decide))) (bw (v:=.int u) (ae rfl) (ae rfl) (s.seq ha) eu)) az (by show(0:Int)<1000000000039;decide)
  refine⟨_,rfl,_,rfl,D,_,_,_,rfl,rfl,hD,ei,?_⟩
  refine⟨_,_,cs.set ((8+(i:Int) - 8)%16).toNat ((c*31+u)%1000000000039),rfl,bT s nD,by rw[ag,List.map_set],by rw[Es];exact hl⟩
 ·rintro σ H' ⟨x4,x5,cs,rfl,s,hD,hl⟩
  exact st (cw (ae rfl) (q _ D s ⟨cs,hD,hl⟩))
theorem vT(F:dW K "_law_sizes" "_law_sizes" jv f fd)(T:eV K mg cFloor cHeap cMS):bJ P w K mg base dw 1 f fd ["cell"] oS:=by
 have sc:aM ["cell"] ["cell"] (au jv):=⟨rfl,rfl,rfl,by decide+kernel,rfl,by decide+kernel,by decide+kernel⟩
 refine F.ok sc (fun vs H Q E h=>by repeat (first|(obtain⟨rfl,_⟩:=h;rfl)|(obtain⟨_,h⟩:=h))) (fun cdv A outer s H vs Q E hr h=>?_)
 obtain⟨n,rfl,q⟩:=h
 refine⟨_,(ao (bI (aI e_ (aF cx (aF bO (pv 0) ai) ai) ai (aV _))
 (aw (aP (bM (ab ai (ab ai (ab ai aq))))))
 aQ)
 (aw (aP (bM (ab (aF bB ai (aF cx (pv 0) ai)) (ab (aF bB ai (aF cx (aF bO (pv 0) ai) ai)) (ab (aF bB ai (aF cx (aF bO (pv 0) ai) ai)) aq))))))),?_⟩
 refine gp (aA (dZ (cP (cP (ae rfl) az (uJ (by lia) (by lia))) az (by first|(show(0:Int)<_;lia)|(show(0:Int)<_;decide))) az)) (fun e=>?_) (fun e=>?_)
 ·exact oC (vs:=[.int 4,.int 4,.int 4]) (ah az (ah az (ah az ay))) (by show 3≤sizeLine;decide) fun z nz=>q z _ _ _ nz ⟨by decide,by decide,by decide,by decide,by decide,by decide⟩ (by decide)
 ·exact oC (vs:=[.int (1+n%4),.int (1+n/4%3),.int (2+n/12%3)]) (ah (aZ az (cP (ae rfl) az (by first|(show(0:Int)<_;lia)|(show(0:Int)<_;decide)))) (ah (aZ az (cP (cP (ae rfl) az (uJ (by lia) (by lia))) az (by first|(show(0:Int)<_;lia)|(show(0:Int)<_;decide)))) (ah (aZ az (cP (cP (ae rfl) az (uJ (by lia) (by lia))) az (by first|(show(0:Int)<_;lia)|(show(0:Int)<_;decide)))) ay))) (by show 3≤sizeLine;decide) fun z nz=>q z _ _ _ nz ⟨by lia,by lia,by lia,by lia,by lia,by lia⟩ (x_ (a:=4) (b:=3) (c:=4) (by lia) (by lia) (by lia) (by lia) (by lia) (by lia) (by decide))
theorem vS(F:dW K "_law_price" "_law_price" jt f fd)(T:eV K mg cFloor cHeap cMS):bJ P w K mg base dw 1 f fd ["cell", "tight"] oX:=by
 have sc:aM ["cell", "tight"] ["cell", "tight"] (au jt):=⟨rfl,rfl,rfl,by decide+kernel,rfl,by decide+kernel,by decide+kernel⟩
 refine F.ok sc (fun vs H Q E h=>by repeat (first|(obtain⟨rfl,_⟩:=h;rfl)|(obtain⟨_,h⟩:=h))) (fun cdv A outer s H vs Q E hr h=>?_)
 obtain⟨c,k,rfl,q⟩:=h
 refine⟨_,(ao (bI (aI e_ (pv 1) ai (aV _))
 (aw (aP (aF bB ai (aF cx (pv 0) ai))))
 aQ)
 (aw (aP (aF bB ai (aF cx (aF fO (pv 0) ai) (aF zT ai ai)))))),?_⟩
 refine gp (aA (dZ (ae rfl) az)) (fun e=>?_) (fun e=>?_)
 ·exact cw (aZ az (cP (ae rfl) az (by first|(show(0:Int)<_;lia)|(show(0:Int)<_;decide)))) (q _ (by lia) (by lia))
 ·refine cw (v:=.int (1+c*48271%1000000000000)) (aZ az (cP (cP (ae rfl) az (AG (by decide) (by decide))) (cP az az (Ck (by decide) (by decide) (by decide))) (by show(0:Int)<1000000000000;decide))) (q _ ?_ ?_)
  ·have:=ED (c*48271) (show(1000000000000:Int)≠0 by decide);lia
  ·have:=EE (c*48271) (show(0:Int)<1000000000000 by decide);lia
theorem vk(F:dW K "_law_spots" "_law_spots" jG f fd)(T:eV K mg cFloor cHeap cMS):bJ P w K mg base dw 1 f fd ["sizes"] kr:=by
 have sc:aM ["sizes", "gathered", "layer", "row", "column"] ["sizes"] (au jG):=⟨rfl,rfl,rfl,by decide+kernel,rfl,by decide+kernel,by decide+kernel⟩
 refine F.ok sc (fun vs H Q E h=>by repeat (first|(obtain⟨rfl,_⟩:=h;rfl)|(obtain⟨_,h⟩:=h))) (fun cdv A outer s H vs Q E hr h=>?_)
 obtain⟨z,L,R,C,M,rfl,hz,S,hM,hm,q⟩:=h
 refine⟨_,(ao (aO (i:=1) sc.nd rfl (Or.inl rfl) (cT aq))
 (ao (bP PassesOwn.never rfl (cG (by rfl) T.range_ (ab (aC aH (pv 0) ai (fun _ _=>rfl)) aq)) (aD (i:=2) sc.nd rfl (Or.inl rfl))
 (aw (bP PassesOwn.never rfl (cG (by rfl) T.range_ (ab (aC aH (pv 0) ai (fun _ _=>rfl)) aq)) (aD (i:=3) sc.nd rfl (Or.inl rfl))
 (aw (bP PassesOwn.never rfl (cG (by rfl) T.range_ (ab (aC aH (pv 0) ai (fun _ _=>rfl)) aq)) (aD (i:=4) sc.nd rfl (Or.inl rfl))
 (aw (bS (eY Ek EO ER dj (pv 1) (ab (bM (ab (pv 2) (ab (pv 3) (ab (pv 4) aq)))) aq)))))))))
 (aw (aP (pv 1))))),?_⟩
 have m:sizeLine=2^24:=rfl
 have l0:=S.l0
 have l1:=S.l1
 have r0:=S.r0
 have r1:=S.r1
 have c0:=S.c0
 have c1:=S.c1
 obtain⟨l,rfl⟩:=Eb (show 0≤L by lia)
 obtain⟨r,rfl⟩:=Eb (show 0≤R by lia)
 obtain⟨c,rfl⟩:=Eb (show 0≤C by lia)
 have d:M=l*r*c:=by exact_mod_cast hM
 refine a_ fun Rh hRh=>(ie (vs:=[]) ay (C8 _) fun G nG=>?_)
 refine hRh _ _ ?_
 have s1:ax H (upd H G (.lst [])):=(ax.refl H).upd nG
 have b:upd H G (.lst []) G=some (.lst []):=ag
 revert s1 b
 generalize upd H G (.lst [])=H1
 intro s1 b
 have J:∀(n:Nat) (H':Hp),Prop:=fun n H'=>ax H H'∧∃as:List Addr,H' G=some (.lst (as.map V.ref))∧bN H' as (mw (r:Int) (c:Int) n)
 refine iO (j:=(l:Int)) (ah (aS (v:=.int (l:Int)) (ae rfl) az (bH.of (s1 _ _ hz)) rfl) ay) (by lia) (by lia) ?_
 refine cM (n:=(l:Int).toNat) (fun i σ H'=>∃x2 x3 x4:Option V,σ=[some (.ref z),some (.ref G),x2,x3,x4]∧ax H H'∧∃as:List Addr,H' G=some (.lst (as.map V.ref))∧bN H' as (mw (r:Int) (c:Int) (i*(r*c)))) ⟨none,none,none,rfl,s1,[],b,by rw[Nat.zero_mul];exact .nil⟩ ?_ ?_
 ·rintro i σ H' hi ⟨x2,x3,x4,rfl,s,as,hG,a⟩
  have hi:i<l:=by simpa using hi
  refine gn ?_
  refine rW (j:=(r:Int)) (ah (aS (v:=.int (r:Int)) (ae rfl) az (bH.of (s _ _ hz)) rfl) ay) (by lia) (by lia) ?_
  refine cM (n:=(r:Int).toNat) (fun j σ H'=>∃x3 x4:Option V,σ=[some (.ref z),some (.ref G),some (.int (0+(i:Int))),x3,x4]∧ax H H'∧∃as:List Addr,H' G=some (.lst (as.map V.ref))∧bN H' as (mw (r:Int) (c:Int) (i*(r*c)+j*c))) ⟨x3,x4,rfl,s,as,hG,by rw[Nat.zero_mul,Nat.add_zero];exact a⟩ ?_ ?_
  ·rintro j σ H' hj ⟨x3,x4,rfl,s,as,hG,a⟩
   have hj:j<r:=by simpa using hj
   refine gn ?_
   refine rW (j:=(c:Int)) (ah (aS (v:=.int (c:Int)) (ae rfl) az (bH.of (s _ _ hz)) rfl) ay) (by lia) (by lia) ?_
   refine cM (n:=(c:Int).toNat) (fun k σ H'=>∃x4:Option V,σ=[some (.ref z),some (.ref G),some (.int (0+(i:Int))),some (.int (0+(j:Int))),x4]∧ax H H'∧∃as:List Addr,H' G=some (.lst (as.map V.ref))∧bN H' as (mw (r:Int) (c:Int) (i*(r*c)+j*c+k))) ⟨x4,rfl,s,as,hG,a⟩ ?_ ?_
   ·rintro k σ H' hk ⟨x4,rfl,s,as,hG,a⟩
    have hk:k<c:=by simpa using hk
    have g:as.length=i*(r*c)+j*c+k:=by rw[Paired.length a,oR]
    have o:i*(r*c)+j*c+k<M:=by
     rw[d]
     have a1:(i+1)*(r*c)≤l*(r*c):=Nat.mul_le_mul_right _ hi
     have a2:(j+1)*c≤r*c:=Nat.mul_le_mul_right _ hj
     rw[Nat.add_mul,Nat.one_mul] at a1 a2
     rw[Nat.mul_assoc]
     lia
    have es:sN (r:Int) (c:Int) (i*(r*c)+j*c+k)=[(i:Int),(j:Int),(k:Int)]:=xW hj hk
    refine gn ?_
    refine⟨_,rfl,.inl ⟨rfl,_,bg.of hG⟩,?_⟩
    refine eS (vs:=[.int (0+(i:Int)),.int (0+(j:Int)),.int (0+(k:Int))]) ?_ (by show 3≤sizeLine;decide) fun T' nT=>?_
    ·exact ah (ae rfl) (ah (ae rfl) (ah (ae rfl) ay))
    have e:T'≠G:=CQ (ak hG nT)
    refine⟨G,_,_,rfl,rfl,by rw[aj (CQ e)];exact hG,by rw[CK];lia,?_⟩
    refine⟨_,rfl,bT (s.upd nT) nG,as++[T'],by rw[ag,C3];rfl,?_⟩
    unfold mw
    rw[←Nat.add_assoc,List.range_succ,C3]
    refine cU (aB a (bX hG nT)) (.cons ?_ .nil)
    rw[aj e,ag,es,E_,E_,E_];rfl
   ·rintro σ H' ⟨x4,rfl,s,as,hG,a⟩
    refine⟨_,_,rfl,s,as,hG,?_⟩
    rw[show i*(r*c)+(j+1)*c=i*(r*c)+j*c+(c:Int).toNat by rw[Nat.add_mul,Nat.one_mul,DQ,Nat.add_assoc]]
    exact a
  ·rintro σ H' ⟨x3,x4,rfl,s,as,hG,a⟩
   refine⟨_,_,_,rfl,s,as,hG,?_⟩
   rw[show(i+1)*(r*c)=i*(r*c)+(r:Int).toNat*c by rw[Nat.add_mul,Nat.one_mul,DQ]]
   exact a
 ·rintro σ H' ⟨x2,x3,x4,rfl,s,as,hG,a⟩
  refine st (cw (ae rfl) (q _ G s nG ⟨as,hG,?_⟩))
  rw[d,Nat.mul_assoc]
  exact a
theorem uw(F:dW K "_law_ground" "_law_ground" gE f fd)(T:eV K mg cFloor cHeap cMS)(gCell:aJ P w K mg base "_law_cell_at" 1 ["script", "k"] (og K))(gSizes:aJ P w K mg base "_law_sizes" 1 ["cell"] oS)(gPrice:aJ P w K mg base "_law_price" 1 ["cell", "tight"] oX)(gSpots:aJ P w K mg base "_law_spots" 1 ["sizes"] kr):bJ P w K mg base dw 2 f fd ["script", "cells", "tight"] (lj K):=by
 have sc:aM ["script", "cells", "tight", "sizes", "spots", "many", "rocks", "prices", "k", "ahead", "vias", "tolls", "spot"] ["script", "cells", "tight"] (au gE):=⟨rfl,rfl,rfl,by decide+kernel,rfl,by decide+kernel,by decide+kernel⟩
 refine F.ok sc (fun vs H Q E h=>by repeat (first|(obtain⟨rfl,_⟩:=h;rfl)|(obtain⟨_,h⟩:=h))) (fun cdv A outer s H vs Q E hr h=>?_)
 obtain⟨a,cl,ns,kt,rfl,ha,hn,⟨cs,bl,bf⟩,q⟩:=h
 refine⟨_,(ao (aO (i:=3) sc.nd rfl (Or.inl rfl) (aN gSizes (hr.mono (by decide)) (by rfl) (ab (aN gCell (hr.mono (by decide)) (by rfl) (ab (pv 0) (ab ai aq))) aq)))
 (ao (aO (i:=4) sc.nd rfl (Or.inr rfl) (aN gSpots (hr.mono (by decide)) (by rfl) (ab (pv 3) aq)))
 (ao (aO (i:=5) sc.nd rfl (Or.inr rfl) (aN gCell (hr.mono (by decide)) (by rfl) (ab (pv 0) (ab ai aq))))
 (ao (fz (i:=6) (ls:=["k"]) (ys:=["spots", "many"]) (ix:=[4,5]) rfl sc.nd rfl (Or.inl rfl) ⟨rfl,by rfl,by rfl,by rfl,by rfl,rfl⟩ (cG (by rfl) T.range_ (ab (aF cx (pv 5) ai) aq)) (fun _ _ _ _ _=>(aD (i:=0) (show(["k", "spots", "many"]:List Str).Nodup by decide+kernel) rfl (Or.inl rfl))) (fun _ _ _ _ _=>gx) (fun _ _ _ _ _=>(aC (kC (K:=K) rfl) (pv 1) (aF cx (aF bO (pv 2) (aF bB ai (aF fO ai (pv 0)))) (aK (uz (K:=K) rfl) (by rfl) (by exact T.len_) bW (ab (pv 1) aq))) (fun _ _=>rfl))))
 (ao (aO (i:=7) sc.nd rfl (Or.inl rfl) (cT aq))
 (ao (bP PassesOwn.never rfl (cG (by rfl) T.range_ (ab (aC aH (pv 3) ai (fun _ _=>rfl)) aq)) (aD (i:=8) sc.nd rfl (Or.inl rfl))
 (ao (aO (i:=9) sc.nd rfl (Or.inl rfl) (aN gPrice (hr.mono (by decide)) (by rfl) (ab (aC aU (pv 1) (pv 8) (fun _ _=>rfl)) (ab (pv 2) aq))))
 (aw (bS (eY Ek EO ER dj (pv 7) (ab (bM (ab (pv 9) (ab (aN gPrice (hr.mono (by decide)) (by rfl) (ab (aC aU (pv 1) (aF bB ai (pv 8)) (fun _ _=>rfl)) (ab (pv 2) aq))) aq))) aq))))))
 (ao (fz (i:=10) (ls:=["k"]) (ys:=["tight", "cells"]) (ix:=[2,1]) rfl sc.nd rfl (Or.inl rfl) ⟨rfl,by rfl,by rfl,by rfl,by rfl,rfl⟩ (cG (by rfl) T.range_ (ab (aF dt (aC aH (pv 3) ai (fun _ _=>rfl)) ai) aq)) (fun _ _ _ _ _=>(aD (i:=0) (show(["k", "tight", "cells"]:List Str).Nodup by decide+kernel) rfl (Or.inl rfl))) (fun _ _ _ _ _=>gx) (fun _ _ _ _ _=>(aN (by exact gPrice) (by exact(hr.mono (by decide))) (by rfl) (ab (aF bB (aC (kC (K:=K) rfl) (pv 2) ai (fun _ _=>rfl)) (aF fO (pv 0) ai)) (ab (pv 1) aq)))))
 (ao (aO (i:=11) sc.nd rfl (Or.inl rfl) dJ)
 (ao (bP PassesOwn.never rfl (cG (by rfl) T.range_ (ab (aF cx (aN gCell (hr.mono (by decide)) (by rfl) (ab (pv 0) (ab ai aq))) ai) aq)) (aD (i:=8) sc.nd rfl (Or.inl rfl))
 (ao (aO (i:=12) sc.nd rfl (Or.inl rfl) (aC aU (pv 4) (aF cx (aF bO (aC aU (pv 1) (aF bB ai (pv 8)) (fun _ _=>rfl)) ai) (aK bp (by rfl) T.len_ bW (ab (pv 4) aq))) (fun _ _=>rfl)))
 (aw (dI (bj.one hr) (pv 11) (pv 12) (aF dt (aN gPrice (hr.mono (by decide)) (by rfl) (ab (aC aU (pv 1) (aF bB ai (pv 8)) (fun _ _=>rfl)) (ab (pv 2) aq))) ai) (by rfl)))))
 (aw (aP (bM (ab (pv 3) (ab (pv 6) (ab (pv 7) (ab (pv 10) (ab (pv 11) aq))))))))))))))))),?_⟩
 have b1:sizeLine=2^24:=rfl
 refine zP (yq (cH (ah (ae rfl) (ah az ay)) ⟨a,ns,0,rfl,ha,Ea 0,fun v=>?_⟩))
 refine⟨v,rfl,fun z L R C nz S hP=>?_⟩
 have l0:=S.l0
 have l1:=S.l1
 have r0:=S.r0
 have r1:=S.r1
 have c0:=S.c0
 have c1:=S.c1
 have bu:0<L*R*C:=Int.mul_pos (Int.mul_pos (by lia) (by lia)) (by lia)
 obtain⟨M,hM⟩:=Eb (show 0≤L*R*C by lia)
 have s1:ax H (upd H z (.tup [.int L,.int R,.int C])):=(ax.refl H).upd nz
 have B:lL (upd H z (.tup [.int L,.int R,.int C])) z L R C:=ag
 revert s1 B
 generalize upd H z (.tup [.int L,.int R,.int C])=H1
 intro s1 B
 refine a_ fun Rh hRh=>(cH (ah (ae rfl) ay) ⟨z,L,R,C,M,rfl,B,S,by lia,by lia,fun H2 sp s2' nsp ⟨as,e1,e2⟩=>?_⟩)
 refine hRh _ _ ?_
 have s2:=s1.trans s2'
 have a3:as.length=M:=by rw[Paired.length e2,oR]
 have Mp:0<M:=by lia
 refine a_ fun Rh hRh=>(cH (ah (ae rfl) (ah az ay)) ⟨a,ns,1,rfl,s2.seq ha,by decide,fun mn=>?_⟩)
 refine hRh _ _ ?_
 have br:∀{H':Hp},H' sp=some (.lst (as.map V.ref))→∀{σ:St} {i:Nat},σ[i]?=some (some (.ref sp))→∀Q:VK,Q (.int (M:Nat)) H'→True:=fun _ _ _ _ _ _=>trivial
 have a4:∀w:Int,∃n b,n<M∧je (as.map V.ref) (w%(M:Int))=some (.ref b)∧∀H',ax H2 H'→H' b=some (.tup ((sN R C n).map V.int)):=fun w=>by
  have h0:=ED w (show(M:Int)≠0 by lia)
  have h1:=EE w (show(0:Int)<(M:Int) by lia)
  obtain⟨n,en⟩:=Eb h0
  have hn:n<as.length:=by lia
  obtain⟨b,hb⟩:∃b,as[n]?=some b:=⟨_,Dd hn⟩
  obtain⟨c,hc,a9⟩:=cc e2 hb
  have hc:c=sN R C n:=by
   unfold mw at hc
   rw[CW,List.getElem?_range (by lia)] at hc
   exact(Option.some.inj hc).symm
  subst hc
  refine⟨n,b,by lia,?_,fun H' s=>s _ _ a9⟩
  rw[en]
  refine cA ?_
  rw[CW,hb];rfl
 have m0:=ED mn (show(6:Int)≠0 by decide)
 have m1:=EE mn (show(0:Int)<6 by decide)
 refine qQ (j:=mn%6) (ah (cP (ae rfl) az (by show(0:Int)<6;decide)) ay) (by lia) (by lia) fun D nD=>?_
 refine kZ (fun i τ H'=>∃(x0:Option V) (rs:List Nat) (bs:List Addr),τ=[x0,some (.ref sp),some (.int mn)]∧ax H2 H'∧H' D=some (.lst (bs.map V.ref))∧bN H' bs (rs.map (sN R C))∧(∀n∈rs,n<M)∧rs.length=i) ⟨none,[],[],rfl,(ax.refl H2).upd nD,ag,.nil,(fun _ h=>nomatch h),rfl⟩ ?_ ?_
 ·rintro i τ H' hi ⟨x0,rs,bs,rfl,s,hD,av,aa,hl⟩
  have bx:bs.length=rs.length:=by rw[Paired.length av,CK]
  have bA:i<6:=by lia
  refine gn (qm ?_)
  obtain⟨n,b,X,W,hb⟩:=a4 (mn/(6+11*(0+(i:Int))))
  refine(bw (v:=.ref b) (ae rfl) (cP (i:=mn/(6+11*(0+(i:Int)))) (j:=(M:Int)) (cP (ae rfl) (aZ az (cP az (ae rfl) (Cb (by decide) (by decide)))) (uJ (by lia) (by lia))) (cn (v:=.int (M:Nat)) (ah (ae rfl) ay) fun Q' q'=>⟨_,_,rfl,.inl ⟨_,bg.of (s _ _ e1),(by rw[CK,a3])⟩,q'⟩) (by show(0:Int)<(M:Int);lia)) (bg.of (s _ _ e1)) W) _ ?_
  refine⟨bs.map V.ref,hD,by rw[CK];lia,_,rs++[n],bs++[b],rfl,bT s nD,by rw[ag,C3];rfl,?_,?_,by rw[C_,hl];rfl⟩
  ·rw[C3]
   exact cU (aB av (bU hD)) (.cons (bU hD _ _ (hb _ s)) .nil)
  ·intro m hm
   rcases Dm.mp hm with h|h
   ·exact aa m h
   ·rw[CP.mp h];exact X
 rintro τ H3 ⟨x0,rs,bs,rfl,O,ba,a6,aa,bb⟩
 have bo:rs.length≤6:=by rw[bb];lia
 have s3:=s2.trans O
 try dsimp only[List.set]
 have af:lL H3 z L R C:=O _ _ (s2' _ _ B)
 have a7:=s3 _ _ bl
 have d:∀{H':Hp},ax H3 H'→∀(i:Int),0≤i→i<16→∃u,H' cl=some (.lst (cs.map V.int))∧je (cs.map V.int) i=some (.int u):=fun{H'} s i h0 h1=>by
  obtain⟨u,eu,_⟩:=om (cs:=cs) h0 (by rw[bf];exact h1)
  exact⟨u,s _ _ a7,eu⟩
 refine a_ fun Rh hRh=>(ie (vs:=[]) ay (C8 _) fun G nG=>?_)
 refine hRh _ _ ?_
 have J:ax H3 (upd H3 G (.lst [])):=(ax.refl H3).upd nG
 have ar:upd H3 G (.lst []) G=some (.lst []):=ag
 revert J ar
 generalize upd H3 G (.lst [])=H4
 intro J ar
 refine iO (j:=L) (ah (aS (v:=.int L) (ae rfl) az (bH.of (J _ _ af)) rfl) ay) (by lia) (by lia) ?_
 refine cM (n:=L.toNat) (fun i σ H'=>∃(x8 x9:Option V) (us:List Addr) (ps:List T3),σ=[some (.ref a),some (.ref cl),some (.int kt),some (.ref z),some (.ref sp),some (.int mn),some (.ref D),some (.ref G),x8,x9,none,none,none]∧ax H3 H'∧H' G=some (.lst (us.map V.ref))∧bN H' us ps∧ps.length=i∧PP ps) ⟨none,none,[],[],rfl,J,ar,.nil,rfl,fun _ h=>nomatch h⟩ ?_ ?_
 ·rintro i σ H' hi ⟨x8,x9,us,ps,rfl,s,hG,a1,hl,ac⟩
  have b3:us.length=ps.length:=Paired.length a1
  obtain⟨u1,g,r⟩:=d s (0+(i:Int)) (by lia) (by lia)
  obtain⟨u2,_,an⟩:=d s (2+(0+(i:Int))) (by lia) (by lia)
  refine gn ?_
  refine a_ fun Rh hRh=>(cH (ah (bw (v:=.int u1) (ae rfl) (ae rfl) (bg.of g) r) (ah (ae rfl) ay)) ⟨u1,kt,rfl,fun p p0 p1=>?_⟩)
  refine hRh _ _ ?_
  refine⟨_,rfl,.inl ⟨rfl,_,bg.of hG⟩,?_⟩
  refine⟨_,rfl,?_⟩
  refine cH (ah (bw (v:=.int u2) (ae rfl) (aZ az (ae rfl)) (bg.of g) an) (ah (ae rfl) ay)) ⟨u2,kt,rfl,fun p' p0' p1'=>?_⟩
  refine⟨by show 2≤sizeLine;decide,fun T' nT=>?_⟩
  have a0:T'≠G:=CQ (ak hG nT)
  refine⟨G,_,_,rfl,rfl,by rw[aj (CQ a0)];exact hG,by rw[CK];lia,?_⟩
  refine⟨_,_,us++[T'],ps++[[p,p']],rfl,bT (s.upd nT) nG,by rw[ag,C3];rfl,?_,by rw[C_,hl];rfl,fun c hc=>?_⟩
  ·exact cU (aB a1 (bX hG nT)) (.cons (by rw[aj a0,ag];rfl) .nil)
  ·rcases Dm.mp hc with h|h
   ·exact ac c h
   ·rw[CP.mp h];exact⟨p,p',rfl,p0,p1,p0',p1'⟩
 rintro σ H5 ⟨x8,x9,us,ps,rfl,I,bm,a5,bi,ac⟩
 refine st ?_
 refine qQ (j:=L - 1) (ah (aZ (aS (v:=.int L) (ae rfl) az (bH.of (I _ _ af)) rfl) az) ay) (by lia) (by lia) fun E nE=>?_
 refine kZ (fun i τ H'=>∃(x0:Option V) (ws:List Int),τ=[x0,some (.int kt),some (.ref cl)]∧ax H5 H'∧H' E=some (.lst (ws.map V.int))∧ws.length=i∧∀v∈ws,1≤v∧v≤1000000000000) ⟨none,[],rfl,(ax.refl H5).upd nE,ag,rfl,fun _ h=>nomatch h⟩ ?_ ?_
 ·rintro i τ H' hi ⟨x0,ws,rfl,s,hE,hl,hv⟩
  obtain⟨u1,g,r⟩:=d (I.trans s) 4 (by decide) (by decide)
  refine gn (qm ?_)
  refine cH (ah (aZ (bw (v:=.int u1) (ae rfl) az (bg.of g) r) (cP (ae rfl) az (AG (by decide) (by decide)))) (ah (ae rfl) ay)) ⟨_,kt,rfl,fun p p0 p1=>?_⟩
  refine⟨ws.map V.int,hE,by rw[CK];lia,_,ws++[p],rfl,bT s nE,by rw[ag,C3];rfl,by rw[C_,hl];rfl,fun v hv'=>?_⟩
  rcases Dm.mp hv' with h|h
  ·exact hv v h
  ·rw[CP.mp h];exact⟨p0,p1⟩
 rintro τ H6 ⟨b0,ws,rfl,ap,bn,a8,bd⟩
 try dsimp only[List.set]
 have a2:=I.trans ap
 have b2:H3 E=none:=c_ I nE
 refine a_ fun Rh hRh=>fun td ntd=>?_
 refine hRh _ _ ?_
 have l:ax H6 (upd H6 td (.dT [])):=(ax.refl H6).upd ntd
 have x:upd H6 td (.dT []) td=some (.dT []):=ag
 revert l x
 generalize upd H6 td (.dT [])=H7
 intro l x
 have Y:=a2.trans l
 refine wV (mO (cH (ah (ae rfl) (ah az ay)) ⟨a,ns,2,rfl,(s3.trans Y).seq ha,by decide,fun mt=>⟨mt,4,rfl,rfl,(by show(0:Int)<4;decide),mt%4,rfl,by lia,by lia,?_⟩⟩))
 have bD:H3 G=none:=nG
 have am:H3 td=none:=c_ a2 ntd
 refine cM (n:=(mt%4).toNat) (fun i σ H'=>∃(x8 ad:Option V) (ts:List (Nat×V)),σ=[some (.ref a),some (.ref cl),some (.int kt),some (.ref z),some (.ref sp),some (.int mn),some (.ref D),some (.ref G),x8,x9,some (.ref E),some (.ref td),ad]∧Sb td H7 H'∧H' td=some (.dT (aX R C ts))∧Tb M ts∧TV ts) ⟨_,_,[],rfl,Sb.refl td H7,x,Tb.nil,fun _ h=>nomatch h⟩ ?_ ?_
 ·rintro i σ H' hi ⟨x8,ad,ts,rfl,sb,al,hT,hv⟩
  have few:=hT.few
  have bv:i<4:=by lia
  have N:ax H3 H':=fun b o e=>sb b o (fun z=>by rw[z,am] at e;cases e) (Y _ _ e)
  have Z:ax H2 H':=O.trans N
  obtain⟨u1,g,r⟩:=d N (5+(0+(i:Int))) (by lia) (by lia)
  obtain⟨u2,_,an⟩:=d N (6+(0+(i:Int))) (by lia) (by lia)
  obtain⟨n,b,X,W,hb⟩:=a4 (u1/7)
  refine gn ?_
  refine gy (v:=.ref b) ?_ ?_
  ·exact bw (v:=.ref b) (ae rfl) (cP (i:=u1/7) (j:=(M:Int)) (cP (bw (v:=.int u1) (ae rfl) (aZ az (ae rfl)) (bg.of g) r) az (uJ (by decide) (by decide))) (cn (v:=.int (M:Nat)) (ah (ae rfl) ay) fun Q' q'=>⟨_,_,rfl,.inl ⟨_,bg.of (Z _ _ e1),(by rw[CK,a3])⟩,q'⟩) (by show(0:Int)<(M:Int);lia)) (bg.of (Z _ _ e1)) W
  refine pU (mO (cH (ah (bw (v:=.int u2) (ae rfl) (aZ az (ae rfl)) (bg.of g) an) (ah (ae rfl) ay)) ⟨u2,kt,rfl,fun p p0 p1=>⟨p,1,rfl,rfl,?_⟩⟩))
  refine⟨_,rfl,_,rfl,td,_,rfl,fh.t (k:=iK (sN R C n)) al (f_ (hb _ Z)) (by rw[b_];lia),?_⟩
  refine⟨_,_,bF ts n (.int (p - 1)),rfl,sb.set,by rw[ag,ef S],hT.put X,fun y hy=>?_⟩
  rcases iE hy with h|h
  ·exact hv y h
  ·rw[h];exact⟨p - 1,rfl,by lia,by lia⟩
 rintro σ H8 ⟨x8,ad,ts,rfl,sb,al,hT,hv⟩
 refine st ?_
 have U:ax H3 H8:=fun b o e=>sb b o (fun z=>by rw[z,am] at e;cases e) (Y _ _ e)
 have bc:ax H5 H8:=fun b o e=>sb b o (fun z=>by rw[z] at e;rw[c_ ap ntd] at e;cases e) (l _ _ (ap _ _ e))
 have be:ax H6 H8:=fun b o e=>sb b o (fun z=>by rw[z,ntd] at e;cases e) (l _ _ e)
 refine oC (vs:=[.ref z,.ref D,.ref G,.ref E,.ref td]) (ah (ae rfl) (ah (ae rfl) (ah (ae rfl) (ah (ae rfl) (ah (ae rfl) ay))))) (by show 5≤sizeLine;decide) fun t nt=>?_
 have s9:ax H8 (upd H8 t (.tup [.ref z,.ref D,.ref G,.ref E,.ref td])):=(ax.refl H8).upd nt
 refine q _ t ⟨L,R,C,M,ps,ws,rs,ts⟩ ((s3.trans U).trans s9) ⟨z,D,G,E,td,ag,?_,?_,?_,?_,?_⟩ ⟨S,(show(M:Int)=L*R*C by lia),(show M≤128 by lia),?_,ac,?_,bd,(show rs.length≤63 by lia),aa,hT,hv⟩
 ·exact s9 _ _ (U _ _ af)
 ·exact eQ.same ⟨us,bm,a5⟩ (bc.trans s9)
 ·exact s9 _ _ (be _ _ bn)
 ·exact eQ.same ⟨bs,ba,a6⟩ (U.trans s9)
 ·exact s9 _ _ al
 ·show(ps.length:Int)=L
  rw[bi];lia
 ·show(ws.length:Int)=L - 1
  rw[a8];lia
theorem tS(F:dW K "_law_floor" "_law_floor" gR f fd)(T:eV K mg cFloor cHeap cMS)(gFInit:lx P w K mg base cFloor "Floor" 3 ["self", "sizes", "prices", "vias", "rocks", "tolls"] (oH cFloor)):bJ P w K mg base dw 5 f fd ["ground"] (kG cFloor):=by
 have sc:aM ["ground"] ["ground"] (au gR):=⟨rfl,rfl,rfl,by decide+kernel,rfl,by decide+kernel,by decide+kernel⟩
 refine F.ok sc (fun vs H Q E h=>by repeat (first|(obtain⟨rfl,_⟩:=h;rfl)|(obtain⟨_,h⟩:=h))) (fun cdv A outer s H vs Q E hr h=>?_)
 obtain⟨t,g,rfl,⟨z,ro,pr,vi,td,ht,hG⟩,hg,q⟩:=h
 refine⟨_,(aw (aP (yb gFInit (hr.mono (by decide)) (by rfl) (ab (aC aH (pv 0) ai (fun _ _=>rfl)) (ab (bK cq (by rfl) T.list_ cV (ab (aC aH (pv 0) ai (fun _ _=>rfl)) aq)) (ab (bK cq (by rfl) T.list_ cV (ab (aC aH (pv 0) ai (fun _ _=>rfl)) aq)) (ab (bK cq (by rfl) T.list_ cV (ab (aC aH (pv 0) ai (fun _ _=>rfl)) aq)) (ab (bK gL (by rfl) T.dict_ fA (ab (aC aH (pv 0) ai (fun _ _=>rfl)) aq)) aq)))))))),?_⟩
 have S:=hg.S
 obtain⟨d,l,o⟩:=id hG.pr
 obtain⟨a,m,n⟩:=id hG.ro
 refine⟨_,rfl,t,_,0,_,rfl,rfl,bH.of ht,rfl,?_⟩
 refine⟨_,rfl,t,_,2,_,rfl,rfl,bH.of ht,rfl,pr,_,rfl,.inl (bg.of l),fun l1 n1=>?_⟩
 have c1:ax H (upd H l1 (.lst (d.map V.ref))):=(ax.refl H).upd n1
 have x1:upd H l1 (.lst (d.map V.ref)) l1=some (.lst (d.map V.ref)):=ag
 revert c1 x1
 generalize upd H l1 (.lst (d.map V.ref))=H1
 intro c1 x1
 refine⟨_,rfl,t,_,3,_,rfl,rfl,bH.of (c1 _ _ ht),rfl,vi,_,rfl,.inl (bg.of (c1 _ _ hG.vi)),fun l2 n2=>?_⟩
 have c2:ax H1 (upd H1 l2 (.lst (g.vs.map V.int))):=(ax.refl H1).upd n2
 have x2:upd H1 l2 (.lst (g.vs.map V.int)) l2=some (.lst (g.vs.map V.int)):=ag
 revert c2 x2
 generalize upd H1 l2 (.lst (g.vs.map V.int))=H2
 intro c2 x2
 have j:=c1.trans c2
 refine⟨_,rfl,t,_,1,_,rfl,rfl,bH.of (j _ _ ht),rfl,ro,_,rfl,.inl (bg.of (j _ _ m)),fun l3 n3=>?_⟩
 have c3:ax H2 (upd H2 l3 (.lst (a.map V.ref))):=(ax.refl H2).upd n3
 have x3:upd H2 l3 (.lst (a.map V.ref)) l3=some (.lst (a.map V.ref)):=ag
 revert c3 x3
 generalize upd H2 l3 (.lst (a.map V.ref))=H3
 intro c3 x3
 have i:=j.trans c3
 refine⟨_,rfl,t,_,4,_,rfl,rfl,bH.of (i _ _ ht),rfl,td,rfl,.inr ⟨_,.inl (i _ _ hG.td),kf S hg.M hg.tt,fun l4 n4=>?_⟩⟩
 have c4:ax H3 (upd H3 l4 (.dT (aX g.R g.C g.ts))):=(ax.refl H3).upd n4
 have x4:upd H3 l4 (.dT (aX g.R g.C g.ts)) l4=some (.dT (aX g.R g.C g.ts)):=ag
 revert c4 x4
 generalize upd H3 l4 (.dT (aX g.R g.C g.ts))=H4
 intro c4 x4
 have k:=i.trans c4
 intro x dx nx nd ne
 have sm:ax H4 (upd (upd H4 dx (.own x)) x (.ins cFloor dx [])):=tR nx nd
 have c:=k.trans sm
 refine⟨x,dx,z,l1,l2,.ref l3,.ref l4,g,rfl,ag,hg,c _ _ hG.z,⟨d,sm _ _ (c4 _ _ (c3 _ _ (c2 _ _ x1))),aB o fun b xs e=>c _ _ e⟩,sm _ _ (c4 _ _ (c3 _ _ x2)),.inr ⟨l3,rfl,a,sm _ _ (c4 _ _ x3),aB n fun b xs e=>c _ _ e⟩,.inr ⟨l4,rfl,sm _ _ x4⟩,fun H' pr' vi' rd' td' bt m1 m2 m3 m4 hF=>⟨rfl,q H' x pr' vi' rd' td' (k.trans (fW.same sm nx bt)) (c_ c m3) (c_ c m4) hF⟩⟩
theorem yi(F:dW K "_law_free" "_law_free" ny f fd)(T:eV K mg cFloor cHeap cMS)(gSpots:aJ P w K mg base "_law_spots" 1 ["sizes"] kr):bJ P w K mg base dw 2 f fd ["ground", "cells", "way"] (rB K):=by
 have sc:aM ["ground", "cells", "way", "free", "spots", "k"] ["ground", "cells", "way"] (au ny):=⟨rfl,rfl,rfl,by decide+kernel,rfl,by decide+kernel,by decide+kernel⟩
 refine F.ok sc (fun vs H Q E h=>by repeat (first|(obtain⟨rfl,_⟩:=h;rfl)|(obtain⟨_,h⟩:=h))) (fun cdv A outer s H vs Q E hr h=>?_)
 obtain⟨t,cl,g,k,rfl,I,hg,⟨cs,r,J⟩,q⟩:=h
 refine⟨_,(ao (aO (i:=3) sc.nd rfl (Or.inl rfl) dJ)
 (ao (aO (i:=4) sc.nd rfl (Or.inl rfl) (aN gSpots (hr.mono (by decide)) (by rfl) (ab (aC aH (pv 0) ai (fun _ _=>rfl)) aq)))
 (ao (bP PassesOwn.never rfl (cG (by rfl) T.range_ (ab (aK bp (by rfl) T.len_ bW (ab (pv 4) aq)) aq)) (aD (i:=5) sc.nd rfl (Or.inl rfl))
 (aw (bI (d_ (aI e_ (pv 2) ai (aV _)) (dX (aI mM (aF cx (aF bO (aC aU (pv 1) (aF cx (pv 5) ai) (fun _ _=>rfl)) (aF bB ai (aF fO ai (aF bO (pv 5) ai)))) ai) ai (aV _)))).pt
 (aw (dI (bj.one hr) (pv 3) (aC aU (pv 4) (pv 5) (fun _ _=>rfl)) dy (by rfl)))
 aQ)))
 (aw (aP (pv 3)))))),?_⟩
 obtain⟨z,ro,pr,vi,td,ht,hG⟩:=id I
 have R:sizeLine=2^24:=rfl
 have S:=hg.S
 have hm:=hg.m
 refine a_ fun Rh hRh=>fun d nd=>?_
 refine hRh _ _ ?_
 have s1:ax H (upd H d (.dT [])):=(ax.refl H).upd nd
 have l:upd H d (.dT []) d=some (.dT []):=ag
 revert s1 l
 generalize upd H d (.dT [])=H1
 intro s1 l
 refine a_ fun Rh hRh=>(cH (ah (aS (v:=.ref z) (ae rfl) az (bH.of (s1 _ _ ht)) rfl) ay) ⟨z,g.L,g.R,g.C,g.M,rfl,s1 _ _ hG.z,S,hg.M,hm,fun H2 sp s2 nsp ⟨as,e1,e2⟩=>?_⟩)
 refine hRh _ _ ?_
 have D:as.length=g.M:=by rw[Paired.length e2,oR]
 have y:sp≠d:=fun z=>by rw[z,l] at nsp;cases nsp
 have x:=s1.trans s2
 refine iO (j:=(g.M:Nat)) (ah (cn (v:=.int (g.M:Nat)) (ah (ae rfl) ay) fun Q' q'=>⟨_,_,rfl,.inl ⟨_,bg.of e1,(by rw[CK,D])⟩,q'⟩) ay) (by lia) (by lia) ?_
 refine cM (n:=((g.M:Nat):Int).toNat) (fun i σ H'=>∃(x5:Option V) (F:List (Nat×V)),σ=[some (.ref t),some (.ref cl),some (.int k),some (.ref d),some (.ref sp),x5]∧Sb d H2 H'∧H' d=some (.dT (aX g.R g.C F))∧Tb g.M F∧(∀p∈F,p.2=.bl true)) ⟨none,[],rfl,Sb.refl d H2,s2 _ _ l,Tb.nil,fun _ h=>nomatch h⟩ ?_ ?_
 ·rintro i σ H' hi ⟨x5,F,rfl,sb,hd,hT,hv⟩
  have hi:i<g.M:=by simpa using hi
  have few:=hT.few
  have N:∀{a:Addr} {o:HO},H a=some o→a≠d:=fun e z=>by rw[z,nd] at e;cases e
  have B:H' cl=some (.lst (cs.map V.int)):=sb _ _ (N r) (x _ _ r)
  have M:=sb _ _ y e1
  obtain⟨a,ha⟩:∃a,as[i]?=some a:=⟨_,Dd (by lia)⟩
  obtain⟨c,hc,m⟩:=cc e2 ha
  have hc:c=sN g.R g.C i:=by
   unfold mw at hc
   rw[CW,List.getElem?_range hi] at hc
   exact(Option.some.inj hc).symm
  subst hc
  have C:H' a=some (.tup ((sN g.R g.C i).map V.int)):=sb _ _ (fun z=>by rw[z,s2 _ _ l] at m;cases m) m
  have L:je (as.map V.ref) (0+(i:Int))=some (.ref a):=by
   rw[E_]
   refine cA ?_
   rw[CW,ha];rfl
  have b0:=ED (0+(i:Int)) (show(16:Int)≠0 by decide)
  have b1:=EE (0+(i:Int)) (show(0:Int)<16 by decide)
  obtain⟨u,eu,_⟩:=om (cs:=cs) b0 (by rw[J];exact b1)
  refine gn ?_
  have O:(7+90*((0+(i:Int))/16))>0:=by lia
  refine fQ (lU (aA (dZ (ae rfl) az)) fun _=>aA (aZ (cP (cP (bw (v:=.int u) (ae rfl) (cP (ae rfl) az (by show(0:Int)<16;decide)) (bg.of B) eu) (aZ az (cP az (cP (ae rfl) az (uJ (by decide) (by decide))) (Cb (by decide) (by decide)))) (uJ (by lia) (by lia))) az (by show(0:Int)<4;decide)) az)) (fun h=>?_) (fun h=>?_)
  ·refine rZ az (ae rfl) (bw (v:=.ref a) (ae rfl) (ae rfl) (bg.of M) L) (fh.t (k:=iK (sN g.R g.C i)) hd (f_ C) (by rw[b_];lia)) ?_
   refine⟨_,bF F i (.bl true),rfl,sb.set,by rw[ag,ef S],hT.put hi,fun p hp=>?_⟩
   rcases iE hp with h|h
   ·exact hv p h
   ·rw[h]
  ·exact⟨_,F,rfl,sb,hd,hT,hv⟩
 ·rintro σ H' ⟨x5,F,rfl,sb,hd,hT,hv⟩
  have sH:ax H H':=fun b o e=>sb b o (fun z=>by rw[z,nd] at e;cases e) (x _ _ e)
  exact st (cw (ae rfl) (q _ d F sH nd hd hT hv))
theorem yI(F:dW K "_law_near" "_law_near" nO f fd)(T:eV K mg cFloor cHeap cMS):bJ P w K mg base dw 1 f fd ["ground", "one"] rf:=by
 have sc:aM ["ground", "one", "gathered", "way", "two"] ["ground", "one"] (au nO):=⟨rfl,rfl,rfl,by decide+kernel,rfl,by decide+kernel,by decide+kernel⟩
 refine F.ok sc (fun vs H Q E h=>by repeat (first|(obtain⟨rfl,_⟩:=h;rfl)|(obtain⟨_,h⟩:=h))) (fun cdv A outer s H vs Q E hr h=>?_)
 obtain⟨t,b,g,x,y,w,rfl,⟨z,ro,pr,vi,td,ht,hG⟩,hg,hb,hi,q⟩:=h
 refine⟨_,(ao (aO (i:=2) sc.nd rfl (Or.inl rfl) (cT aq))
 (ao (bP PassesOwn.never rfl (cG (by rfl) T.range_ (ab ai aq)) (aD (i:=3) sc.nd rfl (Or.inl rfl))
 (ao (aO (i:=4) sc.nd rfl (Or.inl rfl) (cT (ab (aC aH (pv 1) ai (fun _ _=>rfl)) (ab (aC aH (pv 1) ai (fun _ _=>rfl)) (ab (aC aH (pv 1) ai (fun _ _=>rfl)) aq)))))
 (ao (dz (aF dt (aF bB (aC aU (pv 4) (aF bO (pv 3) ai) (fun _ _=>rfl)) ai) (aF fO (aF cx (pv 3) ai) ai)) (jw (pv 4) (aF bO (pv 3) ai) fx))
 (aw (bI (kO (aI jL ai (aC aU (pv 4) (aF bO (pv 3) ai) (fun _ _=>rfl)) (aV _)) (iA (aI fR (aC aU (pv 4) (aF bO (pv 3) ai) (fun _ _=>rfl)) (aC aH (aC aH (pv 0) ai (fun _ _=>rfl)) (aF bO (pv 3) ai) (fun _ _=>rfl)) (aV _)))).pt
 (aw (bS (eY Ek EO ER dj (pv 2) (ab (bM (ab (aC aU (pv 4) ai (fun _ _=>rfl)) (ab (aC aU (pv 4) ai (fun _ _=>rfl)) (ab (aC aU (pv 4) ai (fun _ _=>rfl)) aq)))) aq))))
 aQ)))))
 (aw (aP (aK iw (by rfl) T.sorted_ ji (ab (pv 2) aq)))))),?_⟩
 have ac:sizeLine=2^24:=rfl
 have hz:=hG.z
 refine a_ fun Rh hRh=>(ie (vs:=[]) ay (C8 _) fun G nG=>?_)
 refine hRh _ _ ?_
 have s1:ax H (upd H G (.lst [])):=(ax.refl H).upd nG
 have B:upd H G (.lst []) G=some (.lst []):=ag
 revert s1 B
 generalize upd H G (.lst [])=H1
 intro s1 B
 have N:∀k,k<6→(gB x y w).take (k+1)=(gB x y w).take k++[(gB x y w).getD k []]:=fun k hk=>by
  refine bE ?_
  have:k<(gB x y w).length:=by unfold gB;simpa using hk
  rw[Dc,Dd this];rfl
 refine iO (j:=6) (ah az ay) (by decide) (by decide) ?_
 refine cM (n:=6) (fun i σ H'=>∃(x3 x4:Option V) (as:List Addr),σ=[some (.ref t),some (.ref b),some (.ref G),x3,x4]∧Sb G H1 H'∧H' G=some (.lst (as.map V.ref))∧bN H' as (((gB x y w).take i).filter (eg g))∧as.length≤i)
  ⟨none,none,[],rfl,Sb.refl G H1,B,.nil,CM _⟩ ?_ ?_
 ·rintro i σ H' O ⟨x3,x4,as,rfl,sb,r,D,W⟩
  have C:∀{a:Addr} {xs:List V},H1 a=some (.tup xs)→a≠G:=fun e z=>by rw[z,B] at e;cases e
  have J:H' b=some (.tup [.int x,.int y,.int w]):=sb _ _ (C (s1 _ _ hb)) (s1 _ _ hb)
  have M:GT H' t z ro pr vi td:=sb _ _ (C (s1 _ _ ht)) (s1 _ _ ht)
  have L:lL H' z g.L g.R g.C:=sb _ _ (C (s1 _ _ hz)) (s1 _ _ hz)
  refine gn ?_
  refine a_ fun Rh hRh=>(ie (vs:=[.int x,.int y,.int w]) (ah (aS (v:=.int x) (ae rfl) az (bH.of J) rfl) (ah (aS (v:=.int y) (ae rfl) az (bH.of J) rfl) (ah (aS (v:=.int w) (ae rfl) az (bH.of J) rfl) ay))) (by show 3≤sizeLine;decide) fun u nu=>?_)
  refine hRh _ _ ?_
  have s2:ax H' (upd H' u (.lst [.int x,.int y,.int w])):=(ax.refl H').upd nu
  have hu:upd H' u (.lst [.int x,.int y,.int w]) u=some (.lst [.int x,.int y,.int w]):=ag
  have aa:u≠G:=fun z=>by rw[z,r] at nu;cases nu
  revert s2 hu
  generalize upd H' u (.lst [.int x,.int y,.int w])=H2
  intro s2 hu
  obtain⟨a1,a2,a3,a4,a5,a6⟩:=hi
  have Z:=s2 _ _ r
  have base:∀{H3:Hp},Sb u H2 H3→Sb G H1 H3∧H3 G=some (.lst (as.map V.ref))∧bN H3 as (((gB x y w).take i).filter (eg g)):=fun{H3} su=>by
   have k2:∀b o,H' b=some o→H3 b=some o:=fun b o e=>su _ _ (ak e nu) (s2 _ _ e)
   exact⟨fun b o n e=>k2 _ _ (sb b o n e),k2 _ _ r,aB D fun b xs e=>k2 _ _ e⟩
  have no:∀{H3:Hp},Sb u H2 H3→eg g ((gB x y w).getD i [])=false→∃(x3 x4:Option V) (as':List Addr),[some (.ref t),some (.ref b),some (.ref G),some (.int (0+(i:Int))),some (.ref u)]=[some (.ref t),some (.ref b),some (.ref G),x3,x4]∧Sb G H1 H3∧H3 G=some (.lst (as'.map V.ref))∧bN H3 as' (((gB x y w).take (i+1)).filter (eg g))∧as'.length≤i+1:=fun{H3} su p=>by
   obtain⟨b1,b2,b3⟩:=base su
   refine⟨_,_,as,rfl,b1,b2,?_,by lia⟩
   rw[N i O,DH,DK (by rw[p];decide),EF,Dw]
   exact b3
  have S:∀{H3:Hp} {x' y' w':Int},Sb u H2 H3→(gB x y w).getD i []=[x',y',w']→eg g [x',y',w']=true→∀T',H3 T'=none→
    ∃(x3 x4:Option V) (as':List Addr),[some (.ref t),some (.ref b),some (.ref G),some (.int (0+(i:Int))),some (.ref u)]=[some (.ref t),some (.ref b),some (.ref G),x3,x4]∧Sb G H1 (upd (upd H3 T' (.tup [.int x',.int y',.int w'])) G (.lst (as.map V.ref++[.ref T'])))∧upd (upd H3 T' (.tup [.int x',.int y',.int w'])) G (.lst (as.map V.ref++[.ref T'])) G=some (.lst (as'.map V.ref))∧bN (upd (upd H3 T' (.tup [.int x',.int y',.int w'])) G (.lst (as.map V.ref++[.ref T']))) as' (((gB x y w).take (i+1)).filter (eg g))∧as'.length≤i+1:=fun{H3 x' y' w'} su ew p T' nT=>by
   obtain⟨b1,b2,b3⟩:=base su
   have R:T'≠G:=CQ (ak b2 nT)
   refine⟨_,_,as++[T'],rfl,(b1.trans (Sb.of ((ax.refl H3).upd nT))).set,by rw[ag,C3];rfl,?_,dQ (by assumption)⟩
   rw[N i O,ew,DH,DJ p]
   exact cU (aB b3 (bX b2 nT)) (.cons (by rw[aj R,ag];rfl) .nil)
  obtain⟨k,ck,v,sk,x',y',w',hk,hv,f1,f2,f3,f4,f5,f6,ew⟩:∃(k:Nat) (ck v sk x' y' w':Int),(0+(i:Int))/2=(k:Int)∧v=ck+1 - (0+(i:Int))%2*2∧je [V.int x,V.int y,V.int w] (k:Int)=some (.int ck)∧sO [V.int x,V.int y,V.int w].length (k:Int)=some k∧[V.int x,.int y,.int w].set k (.int v)=[.int x',.int y',.int w']∧
    je [V.int x',.int y',.int w'] (k:Int)=some (.int v)∧je [V.int g.L,.int g.R,.int g.C] (k:Int)=some (.int sk)∧(eg g [x',y',w']=true↔0≤v∧v<sk)∧(gB x y w).getD i []=[x',y',w']:=by
   have d:∀{a b c:Int},eg g [a,b,c]=true↔kR g.L g.R g.C a b c:=⟨fun h=>of_decide_eq_true h,fun h=>decide_eq_true h⟩
   have h6:i=0∨i=1∨i=2∨i=3∨i=4∨i=5:=by lia
   rcases h6 with rfl|rfl|rfl|rfl|rfl|rfl
   ·exact⟨0,x,x+1,_,_,_,_,rfl,by show x+1=x+1 - 0;lia,rfl,rfl,rfl,rfl,rfl,d.trans ⟨fun h=>⟨h.1,h.2.1⟩,fun h=>⟨h.1,h.2,a3,a4,a5,a6⟩⟩,rfl⟩
   ·exact⟨0,x,x - 1,_,_,_,_,rfl,by show x - 1=x+1 - 2;lia,rfl,rfl,rfl,rfl,rfl,d.trans ⟨fun h=>⟨h.1,h.2.1⟩,fun h=>⟨h.1,h.2,a3,a4,a5,a6⟩⟩,rfl⟩
   ·exact⟨1,y,y+1,_,_,_,_,rfl,by show y+1=y+1 - 0;lia,rfl,rfl,rfl,rfl,rfl,d.trans ⟨fun h=>⟨h.2.2.1,h.2.2.2.1⟩,fun h=>⟨a1,a2,h.1,h.2,a5,a6⟩⟩,rfl⟩
   ·exact⟨1,y,y - 1,_,_,_,_,rfl,by show y - 1=y+1 - 2;lia,rfl,rfl,rfl,rfl,rfl,d.trans ⟨fun h=>⟨h.2.2.1,h.2.2.2.1⟩,fun h=>⟨a1,a2,h.1,h.2,a5,a6⟩⟩,rfl⟩
   ·exact⟨2,w,w+1,_,_,_,_,rfl,by show w+1=w+1 - 0;lia,rfl,rfl,rfl,rfl,rfl,d.trans ⟨fun h=>⟨h.2.2.2.2.1,h.2.2.2.2.2⟩,fun h=>⟨a1,a2,a3,a4,h.1,h.2⟩⟩,rfl⟩
   ·exact⟨2,w,w - 1,_,_,_,_,rfl,by show w - 1=w+1 - 2;lia,rfl,rfl,rfl,rfl,rfl,d.trans ⟨fun h=>⟨h.2.2.2.2.1,h.2.2.2.2.2⟩,fun h=>⟨a1,a2,a3,a4,h.1,h.2⟩⟩,rfl⟩
  have kE:∀{σ:St} {H3:Hp},σ[3]?=some (some (.int (0+(i:Int))))→Ev (fb (rI mX fun i j=>V.int (i/j)) (bQ 3) (tC (.int 2))) σ H3 (.int (k:Int)):=fun e=>g9 (cP (ae e) az (uJ (by decide) (by decide))) (congrArg V.int hk)
  refine xl (v:=.int v) ?_ ?_
  ·rw[hv]
   exact aZ (aZ (bw (v:=.int ck) (ae rfl) (kE rfl) (bg.of hu) f1) az) (cP (cP (ae rfl) az (by show(0:Int)<2;decide)) az (AG (by decide) (by decide)))
  refine⟨_,rfl,_,rfl,_,_,rfl,rfl,uJ (by decide) (by decide),u,_,_,k,rfl,rfl,hu,by rw[hk];exact f2,?_⟩
  rw[f3]
  have su:Sb u H2 (upd H2 u (.lst [.int x',.int y',.int w'])):=(Sb.refl u H2).set
  have m:upd H2 u (.lst [.int x',.int y',.int w']) u=some (.lst [.int x',.int y',.int w']):=ag
  revert su m
  generalize upd H2 u (.lst [.int x',.int y',.int w'])=H3
  intro su m
  obtain⟨_,I,_⟩:=base su
  have X:lL H3 z g.L g.R g.C:=su _ _ (ak L nu) (s2 _ _ L)
  have Y:GT H3 t z ro pr vi td:=su _ _ (ak M nu) (s2 _ _ M)
  have vE:∀{σ:St},σ[4]?=some (some (.ref u))→σ[3]?=some (some (.int (0+(i:Int))))→Ev (fb (oO K) (bQ 4) (fb (rI mX fun i j=>V.int (i/j)) (bQ 3) (tC (.int 2)))) σ H3 (.int v):=fun e1 e2=>bw (ae e1) (kE e2) (bg.of m) f4
  refine fQ (jA (aA (aZ az (vE rfl rfl))) fun _=>aA (aZ (vE rfl rfl) (aS (v:=.int sk) (aS (v:=.ref z) (ae rfl) az (bH.of Y) rfl) (kE rfl) (bH.of X) f5))) (fun e=>?_) (fun e=>?_)
  ·have p:=f6.mpr (by simpa using e)
   refine⟨_,rfl,.inl ⟨rfl,_,bg.of I⟩,?_⟩
   refine eS (vs:=[.int x',.int y',.int w']) ?_ (by show 3≤sizeLine;decide) fun T' nT=>?_
   ·exact ah (bw (v:=.int x') (ae rfl) az (bg.of m) rfl) (ah (bw (v:=.int y') (ae rfl) az (bg.of m) rfl) (ah (bw (v:=.int w') (ae rfl) az (bg.of m) rfl) ay))
   exact⟨G,_,_,rfl,rfl,by rw[aj (ak I nT)];exact I,by rw[CK];lia,S su ew p T' nT⟩
  ·refine no su ?_
   rw[ew]
   cases e':eg g [x',y',w'] with
   |false=>rfl
   |true=>
    have h:=f6.mp e'
    rw[decide_eq_true h.1,decide_eq_true h.2] at e;cases e
 rintro σ H' ⟨x3,x4,as,rfl,sb,r,D,W⟩
 refine st ?_
 have U:as.length≤1000:=by lia
 refine⟨_,rfl,G,as,_,rfl,bg.of r,D,fun c hc=>?_,U,fun l bs ds nl hb hp ho=>?_⟩
 ·have:=(DO.mp hc).1
  rw[EB (by unfold gB;simp)] at this
  unfold gB at this
  simp only[CV,D9,or_false] at this
  rcases this with h|h|h|h|h|h<;>(rw[h];exact fun z=>nomatch z)
 ·rw[EB (by unfold gB;simp)] at hp
  have e:=pf hp ho
  subst e
  have sH:ax H H':=fun b o e=>sb b o (fun z=>by rw[z,nG] at e;cases e) (s1 _ _ e)
  exact q _ l (sH.upd nl) (c_ sH nl) ⟨bs,ag,aB hb fun b xs e=>by rw[aj (ak e nl)];exact e⟩
theorem tI(F:dW K "_law_step_price" "_law_step_price" gU f fd)(T:eV K mg cFloor cHeap cMS):bJ P w K mg base dw 1 f fd ["ground", "one", "two"] lM:=by
 have sc:aM ["ground", "one", "two", "toll"] ["ground", "one", "two"] (au gU):=⟨rfl,rfl,rfl,by decide+kernel,rfl,by decide+kernel,by decide+kernel⟩
 refine F.ok sc (fun vs H Q E h=>by repeat (first|(obtain⟨rfl,_⟩:=h;rfl)|(obtain⟨_,h⟩:=h))) (fun cdv A outer s H vs Q E hr h=>?_)
 obtain⟨t,a,b,g,x,y,w,x',y',w',rfl,⟨z,ro,pr,vi,td,ht,hG⟩,hg,ha,hb,hi,n,hn,q⟩:=h
 refine⟨_,(ao (aO (i:=3) sc.nd rfl (Or.inl rfl) (aF bB (eY Fw EJ Fx (iu hr) (aC aH (pv 0) ai (fun _ _=>rfl)) (ab (pv 1) (ab ai aq))) (eY Fw EJ Fx (iu hr) (aC aH (pv 0) ai (fun _ _=>rfl)) (ab (pv 2) (ab ai aq)))))
 (ao (bI (aI gk (aC aH (pv 1) ai (fun _ _=>rfl)) (aC aH (pv 2) ai (fun _ _=>rfl)) (aV _))
 (aw (aP (aF bB (pv 3) (aC aU (aC aH (pv 0) ai (fun _ _=>rfl)) (aK (nJ rfl) (by rfl) T.min_ qE (ab (aC aH (pv 1) ai (fun _ _=>rfl)) (ab (aC aH (pv 2) ai (fun _ _=>rfl)) aq))) (fun _ _=>rfl)))))
 aQ)
 (ao (bI (aI gk (aC aH (pv 1) ai (fun _ _=>rfl)) (aC aH (pv 2) ai (fun _ _=>rfl)) (aV _))
 (aw (aP (aF bB (pv 3) (aC aH (aC aU (aC aH (pv 0) ai (fun _ _=>rfl)) (aC aH (pv 1) ai (fun _ _=>rfl)) (fun _ _=>rfl)) ai (fun _ _=>rfl)))))
 aQ)
 (aw (aP (aF bB (pv 3) (aC aH (aC aU (aC aH (pv 0) ai (fun _ _=>rfl)) (aC aH (pv 1) ai (fun _ _=>rfl)) (fun _ _=>rfl)) ai (fun _ _=>rfl)))))))),?_⟩
 obtain⟨i1,i2,i3,i4,i5,i6⟩:=hi
 obtain⟨j1,j2,j3,j4,j5,j6⟩:=n
 have d1:=dg (x:=[x,y,w]) (.inl hG.td) ha
 have d2:=dg (x:=[x',y',w']) (.inl hG.td) hb
 have p:=hg.vl
 have B:=hg.pl
 have r:x'=x∨x'=x - 1∨x'=x+1:=by
  unfold oG nV at hn
  simp only[CV,List.cons.injEq,D9,or_false,and_true] at hn
  lia
 refine gy (v:=.int (eO g.R g.C g.ts [x,y,w]+eO g.R g.C g.ts [x',y',w'])) (aZ (g9 (ki (aS (v:=.ref td) (ae rfl) az (bH.of ht) rfl) (ae rfl) az hG.td d1) (gY hg.tv _)) (g9 (ki (aS (v:=.ref td) (ae rfl) az (bH.of ht) rfl) (ae rfl) az hG.td d2) (gY hg.tv _))) ?_
 refine gp (aA (eU (aS (v:=.int x) (ae rfl) az (bH.of ha) rfl) (aS (v:=.int x') (ae rfl) az (bH.of hb) rfl))) (fun e=>?_) (fun e=>?_)
 ·have e:x≠x':=by simpa using e
  have hm:(min x x').toNat<g.vs.length:=by lia
  have d:je (g.vs.map V.int) (if x'<x then x' else x)=some (.int (g.vs.getD (min x x').toNat 0)):=by
   rw[zm]
   have:min x x'=(((min x x').toNat:Nat):Int):=by lia
   rw[this]
   refine cA ?_
   rw[DQ,CW,Dc,Dd hm];rfl
  refine cw (g9 (aZ (ae rfl) (bw (v:=.int (g.vs.getD (min x x').toNat 0)) (aS (v:=.ref vi) (ae rfl) az (bH.of ht) rfl) (cn (v:=.int (if x'<x then x' else x)) (ah (aS (v:=.int x) (ae rfl) az (bH.of ha) rfl) (ah (aS (v:=.int x') (ae rfl) az (bH.of hb) rfl) ay)) fun Q' q'=>⟨_,_,rfl,q'⟩) (bg.of hG.vi) d)) (c:=.int (dv g [x,y,w] [x',y',w'])) ?_) q
  unfold dv bare
  rw[if_pos (show [x,y,w].getD 0 0≠[x',y',w'].getD 0 0 from e)]
  rfl
 have e:x=x':=by simpa using e
 obtain⟨as,p1,p2⟩:=hG.pr
 have hx:x.toNat<g.ps.length:=by lia
 have l:x.toNat<as.length:=by rw[Paired.length p2];exact hx
 obtain⟨aa,haa⟩:∃aa,as[x.toNat]?=some aa:=⟨_,Dd l⟩
 obtain⟨c,hc,k⟩:=cc p2 haa
 obtain⟨u,v,rfl,_⟩:=hg.pp c (C2 hc)
 have o:g.ps.getD x.toNat []=[u,v]:=by rw[Dc,hc];rfl
 have d:je (as.map V.ref) x=some (.ref aa):=by
  have:x=((x.toNat:Nat):Int):=by lia
  rw[this]
  refine cA ?_
  rw[CW,haa];rfl
 have j:bare g [x,y,w] [x',y',w']=if y=y' then u else v:=by
  unfold bare
  rw[if_neg (show¬[x,y,w].getD 0 0≠[x',y',w'].getD 0 0 from fun h=>h e)]
  show(if y=y' then (g.ps.getD x.toNat []).getD 0 0 else (g.ps.getD x.toNat []).getD 1 0)=_
  rw[o];rfl
 have m:dv g [x,y,w] [x',y',w']=eO g.R g.C g.ts [x,y,w]+eO g.R g.C g.ts [x',y',w']+(if y=y' then u else v):=by
  unfold dv
  rw[j]
 rw[m] at q
 refine gp (aA (eU (aS (v:=.int y) (ae rfl) az (bH.of ha) rfl) (aS (v:=.int y') (ae rfl) az (bH.of hb) rfl))) (fun e2=>?_) (fun e2=>?_)
 ·have e2:¬y=y':=by simpa using e2
  rw[if_neg e2] at q
  exact cw (aZ (ae rfl) (aS (v:=.int v) (bw (v:=.ref aa) (aS (v:=.ref pr) (ae rfl) az (bH.of ht) rfl) (aS (v:=.int x) (ae rfl) az (bH.of ha) rfl) (bg.of p1) d) az (bH.of k) rfl)) q
 ·have e2:y=y':=by simpa using e2
  rw[if_pos e2] at q
  exact cw (aZ (ae rfl) (aS (v:=.int u) (bw (v:=.ref aa) (aS (v:=.ref pr) (ae rfl) az (bH.of ht) rfl) (aS (v:=.int x) (ae rfl) az (bH.of ha) rfl) (bg.of p1) d) az (bH.of k) rfl)) q
theorem yV(F:dW K "_law_arcs" "_law_arcs" mE f fd)(T:eV K mg cFloor cHeap cMS)(gNear:aJ P w K mg base "_law_near" 1 ["ground", "one"] rf)(gSPrice:aJ P w K mg base "_law_step_price" 1 ["ground", "one", "two"] lM):bJ P w K mg base dw 2 f fd ["ground", "free", "one"] k_:=by
 have sc:aM ["ground", "free", "one", "gathered", "two"] ["ground", "free", "one"] (au mE):=⟨rfl,rfl,rfl,by decide+kernel,rfl,by decide+kernel,by decide+kernel⟩
 refine F.ok sc (fun vs H Q E h=>by repeat (first|(obtain⟨rfl,_⟩:=h;rfl)|(obtain⟨_,h⟩:=h))) (fun cdv A outer s H vs Q E hr h=>?_)
 obtain⟨t,e,b,g,F',n,rfl,y,hg,he,hT,hn,hb,q⟩:=h
 refine⟨_,(ao (bI (d_ (fI (eB (bj.one hr) (pv 2) (pv 1))) (dX (aI (rE hr) (pv 2) (aC aH (pv 0) ai (fun _ _=>rfl)) (by with_unfolding_all rfl)))).pt
 (aw (aP (cT aq)))
 aQ)
 (ao (aO (i:=3) sc.nd rfl (Or.inl rfl) (cT aq))
 (ao (bP PassesOwn.never rfl (cg (aN gNear (hr.mono (by decide)) (by rfl) (ab (pv 0) (ab (pv 2) aq)))) (aD (i:=4) sc.nd rfl (Or.inl rfl))
 (aw (bI (kO (fI (lB (bj.one hr) (pv 4) (pv 1))) (iA (aI (gP hr) (pv 4) (aC aH (pv 0) ai (fun _ _=>rfl)) (by with_unfolding_all rfl)))).pt
 (aw (bS (eY Ek EO ER dj (pv 3) (ab (bM (ab (pv 4) (ab (aN gSPrice (hr.mono (by decide)) (by rfl) (ab (pv 0) (ab (pv 2) (ab (pv 4) aq)))) aq))) aq))))
 aQ)))
 (aw (aP (pv 3)))))),?_⟩
 obtain⟨z,ro,pr,vi,td,ht,hG⟩:=id y
 have ac:sizeLine=2^24:=rfl
 have S:=hg.S
 obtain⟨ad,I,C⟩:=id hG.ro
 have N:=dg he hb
 have L:=jF S (n:=n) (by have:=hg.M;lia)
 have J:lL H b ((n:Int)/g.C/g.R) ((n:Int)/g.C%g.R) ((n:Int)%g.C):=hb
 refine gp (lU (aA (cW (ae rfl) (ae rfl) N)) fun _=>aA (uO (ae rfl) (aS (v:=.ref ro) (ae rfl) az (bH.of ht) rfl) hb (bg.of I) C)) (fun h=>?_) (fun h=>?_)
 ·refine⟨C8 _,fun l nl=>q _ l ((ax.refl H).upd nl) nl ⟨[],ag,?_⟩⟩
  have:fJ g F' (sN g.R g.C n)=[]:=by
   unfold fJ iT dS
   rw[Bool.or_eq_true] at h
   rcases h with h|h
   ·rw[if_neg (by unfold jN;simpa using h)]
   ·rw[if_pos (show qD g (sN g.R g.C n)=true from h)];simp
  rw[this];exact .nil
 rw[Bool.or_eq_false_iff] at h
 have R:jN g.R g.C F' (sN g.R g.C n)=true:=by unfold jN;simpa using h.1
 have Z:qD g (sN g.R g.C n)=false:=h.2
 refine a_ fun Rh hRh=>(ie (vs:=[]) ay (C8 _) fun G nG=>?_)
 refine hRh _ _ ?_
 have s1:ax H (upd H G (.lst [])):=(ax.refl H).upd nG
 have m:upd H G (.lst []) G=some (.lst []):=ag
 revert s1 m
 generalize upd H G (.lst [])=H1
 intro s1 m
 refine y7 (K:=K) (ah (ae rfl) (ah (ae rfl) ay)) ⟨t,b,g,_,_,_,rfl,y.same s1,hg,s1 _ _ J,L,fun H2 l s2 nl hl=>?_⟩
 obtain⟨as,e1,e2⟩:=hl
 refine⟨l,rfl,⟨_,bg.of e1⟩,?_⟩
 have aa:as.length≤6:=by rw[Paired.length e2];exact Df (Fv _ _) (by unfold nV;simp)
 have U:l≠G:=fun z=>by rw[z,m] at nl;cases nl
 refine cZ (K:=K) (xs:=as.map V.ref) (fun i σ H'=>∃(x4:Option V) (qs:List Addr),σ=[some (.ref t),some (.ref e),some (.ref b),some (.ref G),x4]∧Sb G H2 H'∧H' G=some (.lst (qs.map V.ref))∧Paired (wt H') qs (((((ig (sN g.R g.C n)).filter (eg g)).take i).filter fun d=>jN g.R g.C F' d&&!qD g d).map fun d=>(d,dv g (sN g.R g.C n) d))∧qs.length≤i)
  ⟨none,[],rfl,Sb.refl G H2,s2 _ _ m,.nil,CM _⟩ (fun i σ H' _ ⟨_,_,_,sb,_⟩=>bg.of (sb _ _ U e1)) ?_ ?_
 ·rintro i x σ H' hx ⟨x4,qs,rfl,sb,j,k,W⟩
  obtain⟨a,ha,rfl⟩:=cC hx
  obtain⟨c,hc,ea⟩:=cc e2 ha
  have hi:i<as.length:=(C7.mp ha).1
  replace hc:((ig (sN g.R g.C n)).filter (eg g))[i]?=some c:=hc
  obtain⟨r,X⟩:=DO.mp (C2 hc)
  obtain⟨x',y',w',rfl⟩:∃x' y' w',c=[x',y',w']:=by
   unfold ig nV at r
   simp only[CV,D9,or_false] at r
   rcases r with h|h|h|h|h|h<;>exact⟨_,_,_,h⟩
  have B:=s1.trans s2
  have M:∀{a:Addr} {o:HO},H a=some o→a≠G:=fun e z=>by rw[z,nG] at e;cases e
  have kH:∀{a:Addr} {o:HO},H a=some o→H' a=some o:=fun e=>sb _ _ (M e) (B _ _ e)
  have Y:ax H H':=fun b o e=>kH e
  have u:H' a=some (.tup ([x',y',w'].map V.int)):=sb _ _ (fun z=>by rw[z,s2 _ _ m] at ea;cases ea) ea
  have O:=dg (by rcases he with z|⟨o,z⟩;exact .inl (kH z);exact .inr ⟨o,kH z⟩) u
  refine gn ?_
  refine fQ (jA (aA (oU (ae rfl) (ae rfl) O)) fun _=>aA (gN (ae rfl) (aS (v:=.ref ro) (ae rfl) az (bH.of (kH ht)) rfl) u (bg.of (kH I)) (aB C fun b xs e=>kH e))) (fun h=>?_) (fun h=>?_)
  ·refine⟨_,rfl,.inl ⟨rfl,_,bg.of j⟩,?_⟩
   refine⟨_,rfl,?_⟩
   refine cH (ah (ae rfl) (ah (ae rfl) (ah (ae rfl) ay))) ⟨t,b,a,g,_,_,_,x',y',w',rfl,y.same Y,hg,kH J,u,L,of_decide_eq_true X,r,?_⟩
   refine⟨by show 2≤sizeLine;decide,fun T' nT=>?_⟩
   have D:T'≠G:=CQ (ak j nT)
   refine⟨G,_,_,rfl,rfl,by rw[aj (CQ D)];exact j,by rw[CK];lia,?_⟩
   refine⟨_,qs++[T'],rfl,(sb.trans (Sb.of ((ax.refl H').upd nT))).set,by rw[ag,C3];rfl,?_,dQ (by assumption)⟩
   rw[bE hc,DH,DJ (p:=fun d=>jN g.R g.C F' d&&!qD g d) (a:=[x',y',w']) h,C3]
   exact ip (cQ k (bX j nT)) (.cons ⟨a,by rw[aj D,ag];rfl,bX j nT _ _ u⟩ .nil)
  ·refine⟨_,qs,rfl,sb,j,?_,by lia⟩
   rw[bE hc,DH,DK (p:=fun d=>jN g.R g.C F' d&&!qD g d) (a:=[x',y',w']) (by show¬(jN g.R g.C F' [x',y',w']&&!qD g [x',y',w'])=true;rw[show(jN g.R g.C F' [x',y',w']&&!qD g [x',y',w'])=false from h];decide),EF,Dw]
   exact k
 ·rintro σ H' ⟨x4,qs,rfl,sb,j,k,W⟩
  have B:=s1.trans s2
  have sH:ax H H':=fun b o e=>sb b o (fun z=>by rw[z,nG] at e;cases e) (B _ _ e)
  refine st (cw (ae rfl) (q _ G sH nG ⟨qs,j,?_⟩))
  have e5:fJ g F' (sN g.R g.C n)=(((ig (sN g.R g.C n)).filter (eg g)).filter fun d=>jN g.R g.C F' d&&!qD g d).map fun d=>(d,dv g (sN g.R g.C n) d):=by
   unfold fJ iT dS
   rw[if_pos R,if_neg (by rw[Z];decide),List.filter_map,List.filter_filter,List.filter_filter]
   congr 1
   refine List.filter_congr fun d _=>?_
   unfold w9
   show(jN g.R g.C F' d&&(eg g d&&!qD g d))=((jN g.R g.C F' d&&!qD g d)&&eg g d)
   cases jN g.R g.C F' d<;>cases eg g d<;>cases qD g d<;>rfl
  rw[e5]
  rw[CK,Paired.length e2] at k
  rw[show((ig (sN g.R g.C n)).filter (eg g)).take ((nV ((n:Int)/g.C/g.R) ((n:Int)/g.C%g.R) ((n:Int)%g.C)).filter (eg g)).length=(ig (sN g.R g.C n)).filter (eg g) from DR] at k
  exact k
theorem xr(F:dW K "_law_some" "_law_some" m9 f fd)(T:eV K mg cFloor cHeap cMS):bJ P w K mg base dw 1 f fd ["usable", "cell", "many"] qF:=by
 have sc:aM ["usable", "cell", "many", "gathered", "k"] ["usable", "cell", "many"] (au m9):=⟨rfl,rfl,rfl,by decide+kernel,rfl,by decide+kernel,by decide+kernel⟩
 refine F.ok sc (fun vs H Q E h=>by repeat (first|(obtain⟨rfl,_⟩:=h;rfl)|(obtain⟨_,h⟩:=h))) (fun cdv A outer s H vs Q E hr h=>?_)
 obtain⟨u,c,k,R,C,us,rfl,⟨as,hu,ht⟩,h0,h9,k1,k4,q⟩:=h
 refine⟨_,(ao (aO (i:=3) sc.nd rfl (Or.inl rfl) (cT aq))
 (ao (bP PassesOwn.never rfl (cG (by rfl) T.range_ (ab (pv 2) aq)) (aD (i:=4) sc.nd rfl (Or.inl rfl))
 (ao (bS (eY Ek EO ER dj (pv 3) (ab (aC aU (pv 0) (aF cx (pv 1) (aK bp (by rfl) T.len_ bW (ab (pv 0) aq))) (fun _ _=>rfl)) aq)))
 (aw (aO (i:=1) sc.nd rfl (Or.inl rfl) (aF bB (aF bO (pv 1) (aK bp (by rfl) T.len_ bW (ab (pv 0) aq))) (aF fO (pv 4) ai))))))
 (aw (aP (pv 3))))),?_⟩
 have I:sizeLine=2^24:=rfl
 have la:as.length=us.length:=by rw[Paired.length ht,CK]
 refine a_ fun Rh hRh=>(ie (vs:=[]) ay (C8 _) fun G nG=>?_)
 refine hRh _ _ ?_
 have s1:ax H (upd H G (.lst [])):=(ax.refl H).upd nG
 have g:upd H G (.lst []) G=some (.lst []):=ag
 revert s1 g
 generalize upd H G (.lst [])=H1
 intro s1 g
 refine iO (j:=k) (ah (ae rfl) ay) (by lia) (by lia) ?_
 refine cM (n:=k.toNat) (fun i σ H'=>∃(c':Int) (x4:Option V) (bs:List Addr) (ss:List Nat),σ=[some (.ref u),some (.int c'),some (.int k),some (.ref G),x4]∧Sb G H1 H'∧H' G=some (.lst (bs.map V.ref))∧bN H' bs (ss.map (sN R C))∧ss.length=i∧∀n∈ss,n∈us)
  ⟨c,none,[],[],rfl,Sb.refl G H1,g,.nil,rfl,fun _ h=>nomatch h⟩ ?_ ?_
 ·rintro i σ H' hi D
  refine dB fun Rg1 hRg1=>?_
  obtain⟨c',x4,bs,ss,rfl,sb,hG,hT,hl,m⟩:=D
  have d:H' u=some (.lst (as.map V.ref)):=sb _ _ (ak hu nG) (s1 _ _ hu)
  have lb:bs.length=ss.length:=by rw[Paired.length hT,CK]
  have b0:=ED c' (show((us.length:Nat):Int)≠0 by lia)
  have b1:=EE c' (show(0:Int)<((us.length:Nat):Int) by lia)
  obtain⟨j,ej⟩:=Eb b0
  have hj:j<us.length:=by lia
  obtain⟨a,ha⟩:∃a,as[j]?=some a:=⟨_,Dd (by lia)⟩
  obtain⟨x,hx,p⟩:=cc ht ha
  rw[CW,Dd hj] at hx
  have hx:x=sN R C us[j]:=(Option.some.inj hx).symm
  subst hx
  have y:H' a=some (.tup ((sN R C us[j]).map V.int)):=sb _ _ (ak p nG) (s1 _ _ p)
  have l:∀{σ:St} {H2:Hp},H2 u=some (.lst (as.map V.ref))→σ[0]?=some (some (.ref u))→Ev (zQ (fun xs H Q=>∃x n,xs=[x]∧yU K x H n∧Q (V.int ↑n) H) (cL (bQ 0) fc)) σ H2 (.int (us.length:Nat)):=fun e1 e=>cn (ah (ae e) ay) fun Q' q'=>⟨_,us.length,rfl,.inl ⟨_,bg.of e1,by rw[CK,la]⟩,q'⟩
  have r:u≠G:=ak hu nG
  refine gn ?_
  refine hRg1 _ _ ?_
  refine⟨_,rfl,.inl ⟨rfl,_,bg.of hG⟩,bw (v:=.ref a) (ae rfl) (cP (ae rfl) (l d rfl) (by show(0:Int)<((us.length:Nat):Int);lia)) (bg.of d) (by rw[ej];exact cA (by rw[CW,ha];rfl)) _ ⟨G,_,_,rfl,rfl,hG,(by rw[CK];lia),?_⟩⟩
  have B:upd H' G (.lst (bs.map V.ref++[.ref a])) u=some (.lst (as.map V.ref)):=by rw[aj r];exact d
  dsimp only
  refine lS (aZ (cP (ae rfl) (l B rfl) (uJ (by lia) (by lia))) (cP (ae rfl) az (AG (by decide) (by decide)))) ?_
  refine⟨_,_,bs++[a],ss++[us[j]],rfl,sb.set,by rw[ag,C3];rfl,?_,by rw[C_,hl];rfl,fun n hn=>?_⟩
  ·rw[C3]
   exact cU (aB hT (bU hG)) (.cons (bU hG _ _ y) .nil)
  ·rcases Dm.mp hn with z|z
   ·exact m n z
   ·rw[CP.mp z];exact List.getElem_mem _
 ·rintro σ H' ⟨c',x4,bs,ss,rfl,sb,hG,hT,hl,m⟩
  have sH:ax H H':=fun b o e=>sb b o (ak e nG) (s1 _ _ e)
  exact st (cw (ae rfl) (q _ G ss sH nG ⟨bs,hG,hT⟩ (by lia) m))
theorem tG(F:dW K "_law_number" "_law_number" gZ f fd)(T:eV K mg cFloor cHeap cMS):bJ P w K mg base dw 1 f fd ["found"] jd:=by
 have sc:aM ["found"] ["found"] (au gZ):=⟨rfl,rfl,rfl,by decide+kernel,rfl,by decide+kernel,by decide+kernel⟩
 refine F.ok sc (fun vs H Q E h=>by repeat (first|(obtain⟨rfl,_⟩:=h;rfl)|(obtain⟨_,h⟩:=h))) (fun cdv A outer s H vs Q E hr h=>?_)
 obtain⟨i,rfl,q⟩:=h
 refine⟨_,(aw (aP (kK (aK cR (by rfl) T.isinstance_ cy (ab (pv 0) (ab (fN (v:=.ty "int") (by rfl) T.int_ zN (by rfl)) aq))) (o8 (we (aK cR (by rfl) T.isinstance_ cy (ab (pv 0) (ab (fN (v:=.ty "bool") (by rfl) T.bool_ xx (by rfl)) aq)))))))),?_⟩
 exact cw (g9 (rJ (cn (ah (ae rfl) (ah az ay)) fun Q' q'=>⟨_,_,_,_,_,rfl,.ty "int",.int i,T.ii,q'⟩) fun _=>z9 (cn (ah (ae rfl) (ah az ay)) fun Q' q'=>⟨_,_,_,_,_,rfl,.ty "bool",.int i,T.ib,q'⟩)) rfl) q
theorem rN(F:dW K "_law_height" "_law_height" fj f fd)(T:eV K mg cFloor cHeap cMS):bJ P w K mg base dw 1 f fd ["hill", "spot"] ju:=by
 have sc:aM ["hill", "spot"] ["hill", "spot"] (au fj):=⟨rfl,rfl,rfl,by decide+kernel,rfl,by decide+kernel,by decide+kernel⟩
 refine F.ok sc (fun vs H Q E h=>by repeat (first|(obtain⟨rfl,_⟩:=h;rfl)|(obtain⟨_,h⟩:=h))) (fun cdv A outer s H vs Q E hr h=>?_)
 obtain⟨a,b,L,R,C,hl,n,rfl,S,⟨d,h1,h2,h3⟩,hb,q⟩:=h
 refine⟨_,(ao (bI (fI (lB (bj.one hr) (pv 1) (aC aH (pv 0) ai (fun _ _=>rfl))))
 (aw (aP (dF (bj.one hr) (aC aH (pv 0) ai (fun _ _=>rfl)) (pv 1) (fun _ _=>rfl))))
 aQ)
 (aw (aP (aC aH (pv 0) ai (fun _ _=>rfl))))),?_⟩
 have c:=dg (.inl h2) hb
 rw[cJ S] at c
 have hg:=zY h3 n
 have ix:∀(i:Int) (v:V),je [V.int hl.1,V.ref d] i=some v→Ev (fb (jZ K) (bQ 0) (tC (.int i))) [some (.ref a),some (.ref b)] H v:=fun i v e=>aS (ae rfl) az (bH.of h1) e
 refine gp (aA (oU (ae rfl) (ix 1 _ rfl) c)) (fun e=>?_) (fun e=>?_)
 ·obtain⟨v,ev⟩:=Ey.mp e
  rw[ev] at c hg
  have hg:v=.int (ht hl n):=hg
  subst hg
  exact cw (dH (ix 1 _ rfl) (ae rfl) c) q
 ·have e:aR hl.2 n=none:=by simpa using e
  rw[e] at hg
  have hg:V.int hl.1=.int (ht hl n):=hg
  rw[←hg] at q
  exact cw (ix 0 _ rfl) q
theorem vf(F:dW K "_law_hill_fine" "_law_hill_fine" jB f fd)(T:eV K mg cFloor cHeap cMS)(gArcs:aJ P w K mg base "_law_arcs" 2 ["ground", "free", "one"] k_)(gNumber:aJ P w K mg base "_law_number" 1 ["found"] jd)(gLHeight:aJ P w K mg base "_law_height" 1 ["hill", "spot"] ju):bJ P w K mg base dw 3 f fd ["ground", "free", "hill", "starts", "goals"] oN:=by
 have sc:aM ["ground", "free", "hill", "starts", "goals", "spot", "one", "arc"] ["ground", "free", "hill", "starts", "goals"] (au jB):=⟨rfl,rfl,rfl,by decide+kernel,rfl,by decide+kernel,by decide+kernel⟩
 refine F.ok sc (fun vs H Q E h=>by repeat (first|(obtain⟨rfl,_⟩:=h;rfl)|(obtain⟨_,h⟩:=h))) (fun cdv A outer s H vs Q E hr h=>?_)
 obtain⟨t,e,u,d,C,k,g,F',hs,ss,gs,am,bd,top,rfl,a4,hg,he,hT,a9,hu,hd,X,af,⟨a5,aa,a3⟩,⟨bb,Y,av⟩,hS,hH,bc,al,q⟩:=h
 refine⟨_,(ao (bI (d_ (eE (eI (aK cR (by rfl) T.isinstance_ cy (ab (pv 2) (ab (fN (v:=.ty "tuple") (by rfl) T.tuple_ p9 (by rfl)) aq))))) (dX (aI gk (aK bp (by rfl) T.len_ bW (ab (pv 2) aq)) ai (aV _)))).pt
 (aw (aP dy))
 aQ)
 (ao (bI (d_ (eE (eI (aN gNumber (hr.mono (by decide)) (by rfl) (ab (aC aH (pv 2) ai (fun _ _=>rfl)) aq)))) (dX (eE (eI (aK cR (by rfl) T.isinstance_ cy (ab (aC aH (pv 2) ai (fun _ _=>rfl)) (ab (fN (v:=.ty "dict") (by rfl) T.dict_ fA (by rfl)) aq))))))).pt
 (aw (aP dy))
 aQ)
 (ao (jx (bP PassesOwn.never rfl (iM (aC aH (pv 2) ai (fun _ _=>rfl))) (aD (i:=5) sc.nd rfl (Or.inl rfl))
 (ao (bI (d_ (fI (eB (bj.one hr) (pv 5) (pv 1))) (dX (eE (eI (aN gNumber (hr.mono (by decide)) (by rfl) (ab (dF (bj.one hr) (aC aH (pv 2) ai (fun _ _=>rfl)) (pv 5) (fun _ _=>rfl)) aq)))))).pt
 (aw (aP dy))
 aQ)
 (aw (bI (d_ (aI fR (dF (bj.one hr) (aC aH (pv 2) ai (fun _ _=>rfl)) (pv 5) (fun _ _=>rfl)) ai (aV _)) (dX (aI AK (dF (bj.one hr) (aC aH (pv 2) ai (fun _ _=>rfl)) (pv 5) (fun _ _=>rfl)) (aC aH (pv 2) ai (fun _ _=>rfl)) (aV _)))).pt
 (aw (aP dy))
 aQ)))))
 (ao (bP PassesOwn.never rfl (cg (pv 3)) (aD (i:=5) sc.nd rfl (Or.inl rfl))
 (aw (bI (aI gk (aN gLHeight (hr.mono (by decide)) (by rfl) (ab (pv 2) (ab (pv 5) aq))) ai (aV _))
 (aw (aP dy))
 aQ)))
 (ao (bP PassesOwn.never rfl (cg (pv 4)) (aD (i:=5) sc.nd rfl (Or.inl rfl))
 (aw (bI (aI gk (aN gLHeight (hr.mono (by decide)) (by rfl) (ab (pv 2) (ab (pv 5) aq))) (aC aH (pv 2) ai (fun _ _=>rfl)) (aV _))
 (aw (aP dy))
 aQ)))
 (ao (jx (bP PassesOwn.never rfl (iM (pv 1)) (aD (i:=6) sc.nd rfl (Or.inl rfl))
 (aw (bP PassesOwn.never rfl (cg (aN gArcs (hr.mono (by decide)) (by rfl) (ab (pv 0) (ab (pv 1) (ab (pv 6) aq))))) (aD (i:=7) sc.nd rfl (Or.inl rfl))
 (aw (bI (aI mM (aF dt (aN gLHeight (hr.mono (by decide)) (by rfl) (ab (pv 2) (ab (aC aH (pv 7) ai (fun _ _=>rfl)) aq))) (aN gLHeight (hr.mono (by decide)) (by rfl) (ab (pv 2) (ab (pv 6) aq)))) (aC aH (pv 7) ai (fun _ _=>rfl)) (aV _))
 (aw (aP dy))
 aQ))))))
 (aw (aP dy)))))))),?_⟩
 have Z:=hg.S
 have ix:∀{H':Hp} {σ:St} (i:Int) (v:V),H' u=some (.tup [.int top,.ref d])→σ[2]?=some (some (.ref u))→je [V.int top,V.ref d] i=some v→Ev (fb (jZ K) (bQ 2) (tC (.int i))) σ H' v:=fun i v e1 e2 e3=>aS (ae e2) az (bH.of e1) e3
 refine gz (b:=false) (eR (eo (pZ (cn (v:=.bl true) (ah (ae rfl) (ah az ay)) fun Q' q'=>⟨_,_,_,_,_,rfl,.ty "tuple",.tup hu,T.tt,q'⟩))) (cE (aA (eU (cn (v:=.int 2) (ah (ae rfl) ay) fun Q' q'=>⟨_,2,rfl,.inr ⟨_,bH.of hu,rfl⟩,q'⟩) az)) rfl)) rfl ?_
 refine gz (b:=false) (eR (eo (pZ (jc (v:=.bl true) (ah (ix 0 _ hu rfl rfl) ay) fun Q' z=>⟨top,rfl,z⟩))) (eo (pZ (cn (v:=.bl true) (ah (ix 1 _ hu rfl rfl) (ah az ay)) fun Q' q'=>⟨_,_,_,_,_,rfl,.ty "dict",.dT hd,T.dd,q'⟩)))) rfl ?_
 refine cu fun R0 hR0=>?_
 refine⟨d,.dT (aX g.R g.C hs),hd,trivial,fun o=>?_⟩
 have a7:u≠d:=fun z=>by rw[z,hd] at hu;cases hu
 have B:upd H d (.frz o (.dT (aX g.R g.C hs))) u=some (.tup [.int top,.ref d]):=by rw[aj a7];exact hu
 have M:upd H d (.frz o (.dT (aX g.R g.C hs))) e=some (.dT (aX g.R g.C F')):=by rw[aj (CQ X)];exact he
 have a:upd H d (.frz o (.dT (aX g.R g.C hs))) d=some (.frz o (.dT (aX g.R g.C hs))):=ag
 have s1:ax H (upd (upd H d (.frz o (.dT (aX g.R g.C hs)))) d (.dT (aX g.R g.C hs))):=jn hd
 revert B M a s1
 generalize upd H d (.frz o (.dT (aX g.R g.C hs)))=HF
 intro B M a s1
 refine ix 1 _ B rfl rfl _ ⟨d,o,.dT (aX g.R g.C hs),rfl,a,trivial,?_⟩
 refine iU (fun i σ H'=>∃x5:Option V,σ=[some (.ref t),some (.ref e),some (.ref u),some (.ref C),some (.ref k),x5,none,none]∧H'=HF) ⟨none,rfl,rfl⟩ (fun i σ H' _ ⟨_,_,z⟩=>z▸a) ?_ ?_
 ·rintro i x v σ H' hk hi a1
  refine dB fun Rg1 hRg1=>?_
  obtain⟨x5,rfl,rfl⟩:=a1
  obtain⟨y,b,hy,rfl,rfl,hb⟩:=iC hk
  obtain⟨w,be,an,S⟩:=hH.ints af.nd y (C2 hy)
  obtain⟨_,a8⟩:=hS.fr _ _ S
  have bf:=hS.nn _ _ S
  have gf:=dg (.inl M) hb
  rw[cJ Z] at gf
  have gh:=dg (.inr ⟨o,a⟩) hb
  rw[cJ Z,hH y.1,S] at gh
  have gh:hZ H' d (.ref b) (if w<top then some (V.int w) else none):=gh
  rw[if_pos an] at gh
  have hv:∀{σ:St},σ[2]?=some (some (.ref u))→σ[5]?=some (some (.ref b))→Ev (wk (fb (jZ K) (bQ 2) (tC (.int 1))) (bQ 5)) σ H' (.int w):=fun e1 e2=>dH (ix 1 _ B e1 rfl) (ae e2) gh
  refine gn ?_
  refine hRg1 _ _ ?_
  refine gz (b:=false) (eR (cE (aA (cW (ae rfl) (ae rfl) gf)) (by rw[a8];rfl)) (eo (pZ (jc (v:=.bl true) (ah (hv rfl rfl) ay) fun Q' z=>⟨w,rfl,z⟩)))) rfl ?_
  exact fB (b:=false) (eR (cE (aA (aZ (hv rfl rfl) az)) (decide_eq_false (by lia))) (cE (aA (aZ (hv rfl rfl) (ix 0 _ B rfl rfl))) (decide_eq_false (by lia)))) rfl ⟨_,rfl,rfl⟩
 rintro σ H' ⟨x5,rfl,rfl⟩
 refine⟨a,?_⟩
 refine hR0 _ _ ?_
 revert s1
 generalize upd H' d (.dT (aX g.R g.C hs))=H1
 intro s1
 clear B M a
 have N:=s1 _ _ hu
 have ac:=s1 _ _ hd
 have R:ox g.R g.C H1 u (top,hs):=⟨d,N,ac,fun p hp=>let ⟨i,e1,_⟩:=hH.ints af.nd p hp;⟨i,e1⟩⟩
 refine cu fun R0 hR0=>?_
 refine⟨_,rfl,C,rfl,⟨_,bg.of (s1 _ _ aa)⟩,?_⟩
 refine cZ (K:=K) (xs:=a5.map V.ref) (fun i σ H'=>∃x5:Option V,σ=[some (.ref t),some (.ref e),some (.ref u),some (.ref C),some (.ref k),x5,none,none]∧H'=H1) ⟨x5,rfl,rfl⟩ (fun i σ H' _ ⟨_,_,z⟩=>z▸bg.of (s1 _ _ aa)) ?_ ?_
 ·rintro i x σ H' hx a2
  refine dB fun Rg2 hRg2=>?_
  obtain⟨x5,rfl,rfl⟩:=a2
  obtain⟨b,hb,rfl⟩:=cC hx
  obtain⟨c,hc,O⟩:=cc a3 hb
  rw[CW] at hc
  obtain⟨n,hn,rfl⟩:=Do.mp hc
  have f0:=hS.st n (C2 hn)
  refine gn ?_
  refine hRg2 _ _ ?_
  refine fB (b:=false) (cE (aA (eU (jc (v:=.int (ht (top,hs) n)) (ah (ae rfl) (ah (ae rfl) ay)) fun Q' z=>⟨u,b,g.L,g.R,g.C,(top,hs),n,rfl,Z,R,s1 _ _ O,z⟩) az)) ?_) rfl ⟨_,rfl,rfl⟩
  rw[hH.val,f0]
  show(!decide (min 0 top=0))=false
  rw[decide_eq_true (by lia)];rfl
 rintro σ H' ⟨x5,rfl,rfl⟩
 refine hR0 _ _ ?_
 refine cu fun R1 hR1=>?_
 refine⟨_,rfl,k,rfl,⟨_,bg.of (s1 _ _ Y)⟩,?_⟩
 refine cZ (K:=K) (xs:=bb.map V.ref) (fun i σ H2=>∃x5:Option V,σ=[some (.ref t),some (.ref e),some (.ref u),some (.ref C),some (.ref k),x5,none,none]∧H2=H') ⟨x5,rfl,rfl⟩ (fun i σ H' _ ⟨_,_,z⟩=>z▸bg.of (s1 _ _ Y)) ?_ ?_
 ·rintro i x σ H2 hx a0
  refine dB fun Rg3 hRg3=>?_
  obtain⟨x5,rfl,rfl⟩:=a0
  obtain⟨b,hb,rfl⟩:=cC hx
  obtain⟨c,hc,O⟩:=cc av hb
  rw[CW] at hc
  obtain⟨n,hn,rfl⟩:=Do.mp hc
  refine gn ?_
  refine hRg3 _ _ ?_
  refine fB (b:=false) (cE (aA (eU (jc (v:=.int (ht (top,hs) n)) (ah (ae rfl) (ah (ae rfl) ay)) fun Q' z=>⟨u,b,g.L,g.R,g.C,(top,hs),n,rfl,Z,R,s1 _ _ O,z⟩) (ix 0 _ N rfl rfl))) ?_) rfl ⟨_,rfl,rfl⟩
  rw[hH.val]
  cases f:am n with
  |none=>show(!decide (top=top))=false;rw[decide_eq_true rfl];rfl
  |some p=>
   have:=al n (C2 hn) p f
   show(!decide (min p top=top))=false
   rw[decide_eq_true (by lia)];rfl
 rintro σ H2 ⟨x5,rfl,rfl⟩
 refine hR1 _ _ ?_
 have L:=s1 _ _ he
 refine⟨e,.dT (aX g.R g.C F'),L,trivial,fun o=>?_⟩
 have D:∀{H3:Hp},ax (upd H2 e (.frz o (.dT (aX g.R g.C F')))) H3→ax H2 (upd H3 e (.dT (aX g.R g.C F'))):=fun s=>lQ L s
 have kp:∀{b:Addr} {x:HO},b≠e→H2 b=some x→upd H2 e (.frz o (.dT (aX g.R g.C F'))) b=some x:=fun nb eb=>by rw[aj nb];exact eb
 have nt:∀{b:Addr} {x:HO},H2 b=some x→(∀kvs,x≠.dT kvs)→b≠e:=fun eb nx z=>by rw[z,L] at eb;cases eb;exact nx _ rfl
 have r:upd H2 e (.frz o (.dT (aX g.R g.C F'))) e=some (.frz o (.dT (aX g.R g.C F'))):=ag
 have I:Gr (upd H2 e (.frz o (.dT (aX g.R g.C F')))) t g:=by
  obtain⟨z,ro,pr,vi,td,ht,hG⟩:=a4
  have a6:=a9 z ro pr vi td ht
  have J:=hG.same s1
  obtain⟨u1,p1,_⟩:=id J.pr
  obtain⟨u2,p2,_⟩:=id J.ro
  have bt:Bt [e] H2 (upd H2 e (.frz o (.dT (aX g.R g.C F')))):=(Bt.refl _ H2).set (CP.mpr rfl)
  exact⟨z,ro,pr,vi,td,kp (nt (s1 _ _ ht) fun _ z=>nomatch z) (s1 _ _ ht),J.bt bt (fun l hl xs=>by rw[CP.mp hl,L];exact fun z=>nomatch z) (fun m=>nt p1 (fun _ z=>nomatch z) (CP.mp m)) (fun m=>nt J.vi (fun _ z=>nomatch z) (CP.mp m)) (fun m=>nt p2 (fun _ z=>nomatch z) (CP.mp m)) (fun m=>a6 (CP.mp m))⟩
 have U:ox g.R g.C (upd H2 e (.frz o (.dT (aX g.R g.C F')))) u (top,hs):=by
  obtain⟨_,_,_,k3⟩:=R
  exact⟨d,kp (nt N fun _ z=>nomatch z) N,kp X ac,k3⟩
 revert D r I U
 clear kp nt
 generalize upd H2 e (.frz o (.dT (aX g.R g.C F')))=HE
 intro D r I U
 refine⟨_,rfl,e,o,.dT (aX g.R g.C F'),rfl,r,trivial,?_⟩
 refine iU (fun i σ H'=>∃x6 x7:Option V,σ=[some (.ref t),some (.ref e),some (.ref u),some (.ref C),some (.ref k),x5,x6,x7]∧ax HE H') ⟨none,none,rfl,ax.refl HE⟩ (fun i σ H' _ ⟨_,_,_,s⟩=>s _ _ r) ?_ ?_
 ·rintro i x v σ H' hk hi ba
  refine dB fun Rg4 hRg4=>?_
  obtain⟨x6,x7,rfl,s⟩:=ba
  obtain⟨y,b,hy,rfl,rfl,hb⟩:=iC hk
  have hn:=hT.lt y (C2 hy)
  refine gn ?_
  refine hRg4 _ _ ?_
  refine yD (K:=K) (ah (ae rfl) (ah (ae rfl) (ah (ae rfl) ay))) ⟨t,e,b,g,F',y.1,rfl,I.same s,hg,.inr ⟨o,s _ _ r⟩,hT,hn,hb,fun H3 l s3 nl ⟨qs,q1,q2⟩=>?_⟩
  rw[gu hg] at q2
  refine⟨l,rfl,⟨_,bg.of q1⟩,?_⟩
  refine cZ (K:=K) (xs:=qs.map V.ref) (fun i σ H'=>∃x7:Option V,σ=[some (.ref t),some (.ref e),some (.ref u),some (.ref C),some (.ref k),x5,some (.ref b),x7]∧H'=H3) ⟨x7,rfl,rfl⟩ (fun i σ H' _ ⟨_,_,z⟩=>z▸bg.of q1) ?_ ?_
  ·rintro j x σ H4 hx ar
   refine dB fun Rg5 hRg5=>?_
   obtain⟨x7,rfl,rfl⟩:=ar
   obtain⟨ad,ap,rfl⟩:=cC hx
   obtain⟨x,hx,bo,h1,h2⟩:=eh q2 ap
   rw[CW] at hx
   obtain⟨⟨m,w⟩,hm,rfl⟩:=Do.mp hx
   have hA:=hH.arc hg hS (C2 hm)
   have h1:H4 ad=some (.tup [.ref bo,.int w]):=h1
   have h2:lV g.R g.C H4 bo m:=h2
   have W:ox g.R g.C H4 u (top,hs):=by
    obtain⟨d',k1,k2,k3⟩:=U
    exact⟨d',s3 _ _ (s _ _ k1),s3 _ _ (s _ _ k2),k3⟩
   refine gn ?_
   refine hRg5 _ _ ?_
   refine fB (b:=false) (cE (aA (aZ (aZ (jc (v:=.int (ht (top,hs) m)) (ah (ae rfl) (ah (aS (v:=.ref bo) (ae rfl) az (bH.of h1) rfl) ay)) fun Q' z=>⟨u,bo,g.L,g.R,g.C,(top,hs),m,rfl,Z,W,h2,z⟩) (jc (v:=.int (ht (top,hs) y.1)) (ah (ae rfl) (ah (ae rfl) ay)) fun Q' z=>⟨u,b,g.L,g.R,g.C,(top,hs),y.1,rfl,Z,W,s3 _ _ hb,z⟩)) (aS (v:=.int w) (ae rfl) az (bH.of h1) rfl))) (decide_eq_false hA)) rfl ⟨_,rfl,rfl⟩
  ·rintro σ H4 ⟨x7,rfl,rfl⟩
   exact⟨_,_,rfl,s.trans s3⟩
 ·rintro σ H' ⟨x6,x7,rfl,s⟩
  exact⟨s _ _ r,st (cw az (q _ (s1.trans (D s))))⟩
theorem yR(F:dW K "_law_way_fine" "_law_way_fine" nC f fd)(T:eV K mg cFloor cHeap cMS)(gArcs:aJ P w K mg base "_law_arcs" 2 ["ground", "free", "one"] k_):bJ P w K mg base dw 3 f fd ["ground", "free", "way", "price", "starts", "goals"] q_:=by
 have sc:aM ["ground", "free", "way", "price", "starts", "goals", "k", "steps"] ["ground", "free", "way", "price", "starts", "goals"] (au nC):=⟨rfl,rfl,rfl,by decide+kernel,rfl,by decide+kernel,by decide+kernel⟩
 refine F.ok sc (fun vs H Q E h=>by repeat (first|(obtain⟨rfl,_⟩:=h;rfl)|(obtain⟨_,h⟩:=h))) (fun cdv A outer s H vs Q E hr h=>?_)
 obtain⟨t,e,l,am,Y,g,F',ss,gs,a4,br,top,k,W,rfl,bi,hg,he,hT,⟨o,r,J⟩,⟨bu,bm,be⟩,⟨bx,bl,a8⟩,hS,hk,hW,bc,q⟩:=h
 refine⟨_,(ao (bI (d_ (eE (eI (aK cR (by rfl) T.isinstance_ cy (ab (pv 2) (ab (fN (v:=.ty "list") (by rfl) T.list_ cV (by rfl)) aq))))) (d_ (aI e_ (aK bp (by rfl) T.len_ bW (ab (pv 2) aq)) ai (aV _)) (d_ (aI (gP hr) (aC aU (pv 2) ai (fun _ _=>rfl)) (pv 4) (by with_unfolding_all rfl)) (dX (aI (gP hr) (aC aU (pv 2) (vM rh ai) (fun _ _=>rfl)) (pv 5) (by with_unfolding_all rfl)))))).pt
 (aw (aP dy))
 aQ)
 (ao (bP PassesOwn.never rfl (mS (by rfl) T.range_ (ab ai (ab (aK bp (by rfl) T.len_ bW (ab (pv 2) aq)) aq))) (aD (i:=6) sc.nd rfl (Or.inr rfl))
 (ao (fz (i:=7) (ls:=["arc"]) (ys:=["way", "k"]) (ix:=[2,6]) rfl sc.nd rfl (Or.inl rfl) ⟨rfl,by rfl,by rfl,by rfl,by rfl,rfl⟩ (cg (aN gArcs (hr.mono (by decide)) (by rfl) (ab (pv 0) (ab (pv 1) (ab (aC aU (pv 2) (aF dt (pv 6) ai) (fun _ _=>rfl)) aq))))) (fun _ _ _ _ _=>(aD (i:=0) (show(["arc", "way", "k"]:List Str).Nodup by decide+kernel) rfl (Or.inl rfl))) (fun _ _ _ _ _=>(jf (aI (yA (K:=K) rfl (by exact hr)) (aC (iP (K:=K) rfl) (pv 0) ai (fun _ _=>rfl)) (aC (kC (K:=K) rfl) (pv 1) (pv 2) (fun _ _=>rfl)) (aV _)))) (fun _ _ _ _ _=>(aC (iP (K:=K) rfl) (pv 0) ai (fun _ _=>rfl))))
 (ao (bI (d_ (aI gk (aK bp (by rfl) T.len_ bW (ab (pv 7) aq)) ai (aV _)) (dX (aI (rE hr) (aC aU (pv 2) (pv 6) (fun _ _=>rfl)) (wJ xG (pv 2) xt (xc (pv 6))) (by with_unfolding_all rfl)))).pt
 (aw (aP dy))
 aQ)
 (aw (aO (i:=3) sc.nd rfl (Or.inl rfl) (aF dt (pv 3) (aC aU (pv 7) ai (fun _ _=>rfl))))))))
 (aw (aP (oA e_ (pv 3) ai (aV _)))))),?_⟩
 have Z:=hg.S
 have bv:sizeLine=2^24:=rfl
 obtain⟨W',M⟩:=hW.hd
 have h0:0<W.length:=by rw[M];simp
 have wl:o.length=W.length:=by rw[Paired.length J,CK,Fk]
 have few:W.length≤128:=by
  have:W.length≤(List.range g.M).length:=dA hW.nd fun x hx=>by
   obtain⟨p,hp⟩:=hW.inn x hx
   exact Ew.mpr (hS.fr x p hp).1
  rw[FR] at this
  have:=hg.m
  lia
 have B:∀i,i<W.length→∃a,o[i]?=some a∧lV g.R g.C H a (W.getD (W.length - 1 - i) 0):=fun i hi=>by
  obtain⟨a,ha⟩:∃a,o[i]?=some a:=⟨_,Dd (by lia)⟩
  obtain⟨c,hc,ar⟩:=cc J ha
  have a3:i<W.reverse.length:=by rw[Fk];exact hi
  rw[CW,pF (d:=0) a3] at hc
  have hc:c=sN g.R g.C (W.reverse.getD i 0):=(Option.some.inj hc).symm
  rw[hc,sr hi] at ar
  exact⟨a,ha,ar⟩
 have L:∀{H':Hp} {σ:St} {te:TE} {i:Int} {j:Nat} {a:Addr},H' l=some (.lst (o.map V.ref))→σ[2]?=some (some (.ref l))→Ev te σ H' (.int i)→i=(j:Int)→o[j]?=some a→Ev (fb (oO K) (bQ 2) te) σ H' (.ref a):=fun e1 e2 e3 e4 e5=>bw (ae e2) e3 (bg.of e1) (by rw[e4];exact cA (by rw[CW,e5];rfl))
 obtain⟨a0,bf,al⟩:=B 0 h0
 obtain⟨an,bd,aa⟩:=B (W.length - 1) (by lia)
 rw[Nat.sub_zero] at al
 rw[Nat.sub_self,show W.getD 0 0=k by rw[M];rfl] at aa
 have O:je (o.map V.ref) (-1)=some (.ref an):=by
  have ac:o≠[]:=fun z=>by rw[z] at wl;simp at wl;lia
  have e1:o=o.dropLast++[an]:=by
   have h2:=(E8 ac).symm
   have h3:o.getLast ac=an:=by
    rw[List.getLast_eq_getElem]
    have:=C7.mp bd
    obtain⟨h4,h5⟩:=this
    rw[←h5]
    congr 1
    lia
   rw[h3] at h2;exact h2
  rw[e1,C3]
  exact p8 _ _
 refine gz (b:=false) (eR (eo (pZ (cn (v:=.bl true) (ah (ae rfl) (ah az ay)) fun Q' q'=>⟨_,_,_,_,_,rfl,.ty "list",.lst r,T.ll,q'⟩))) (eR (cE (aA (dZ (cn (v:=.int (W.length:Nat)) (ah (ae rfl) ay) fun Q' q'=>⟨_,W.length,rfl,.inl ⟨_,bg.of r,by rw[CK,wl]⟩,q'⟩) az)) (decide_eq_false (by lia)))
  (eR (cE (aA (gN (L r rfl az rfl bf) (ae rfl) al (bg.of bm) be)) (by rw[decide_eq_true (DG hW.last.1)];rfl))
   (cE (aA (gN (bw (v:=.ref an) (ae rfl) (AR az) (bg.of r) O) (ae rfl) aa (bg.of bl) a8)) (by rw[decide_eq_true (DG hk)];rfl))))) rfl ?_
 refine tm (i:=1) (j:=(W.length:Nat)) (ah az (ah (cn (v:=.int (W.length:Nat)) (ah (ae rfl) ay) fun Q' q'=>⟨_,W.length,rfl,.inl ⟨_,bg.of r,by rw[CK,wl]⟩,q'⟩) ay)) ⟨by decide,by decide,by lia,by lia⟩ ?_
 refine cM (n:=(((W.length:Nat):Int) - 1).toNat) (fun j σ H'=>∃(pr f:Int) (x6 x7:Option V),σ=[some (.ref t),some (.ref e),some (.ref l),some (.int pr),some (.ref am),some (.ref Y),x6,x7]∧ax H H'∧a4 (W.getD (W.length - 1 - j) 0)=some f∧pr=top - f)
  ⟨top,0,none,none,rfl,ax.refl H,by rw[Nat.sub_zero];exact hW.last.2,by lia⟩ ?_ ?_
 ·rintro j σ H' hj ⟨pr,f,x6,x7,rfl,s,hf,a9⟩
  have hj:j+1<W.length:=by lia
  obtain⟨a1,bb,S⟩:=B j (by lia)
  obtain⟨a2,af,N⟩:=B (j+1) hj
  obtain⟨p,q',X,I,C⟩:=hW.step (W.length - 1 - (j+1)) (by lia)
  rw[show W.length - 1 - (j+1)+1=W.length - 1 - j by lia] at I C
  generalize hx:W.getD (W.length - 1 - (j+1)) 0=x at N X C
  generalize hm:W.getD (W.length - 1 - j) 0=m at S I C hf
  have ba:m<g.M:=(hS.fr m _ hf).1
  rw[hf] at I
  cases I
  refine gn ?_
  refine Ak (K:=K) (ah (ae rfl) (ah (ae rfl) (ah (L (s _ _ r) rfl (aZ (ae rfl) az) (show(1+(j:Int)) - 1=(j:Int) by lia) bb) ay))) ⟨t,e,a1,g,F',m,rfl,bi.same s,hg,.inl (s _ _ he),hT,ba,s _ _ S,fun H2 l2 s2 nl2 ⟨qs,q1,q2⟩=>?_⟩
  rw[gu hg] at q2
  have ql:qs.length=(rows g F' m).length:=by rw[Paired.length q2,CK]
  have r6:=i_ g F' m
  refine⟨l2,rfl,⟨_,bg.of q1⟩,fun D nD=>?_⟩
  have av:=s2 _ _ (s _ _ r)
  refine dN (K:=K) (xs:=qs.map V.ref) (fun i τ H3=>∃(x0:Option V) (zs:List Int),τ=[x0,some (.ref l),some (.int (1+(j:Int)))]∧ax H2 H3∧H3 D=some (.lst (zs.map V.int))∧zs=(((rows g F' m).take i).filter fun a=>decide (a.1=x)).map (·.2)∧zs.length≤i)
   ⟨none,[],rfl,(ax.refl H2).upd nD,ag,rfl,CM _⟩ (fun i τ H3 _ ⟨_,_,_,s3,_⟩=>bg.of (s3 _ _ q1)) ?_ ?_
  ·rintro i y τ H3 hy ⟨x0,zs,rfl,s3,hD,hz,a6⟩
   obtain⟨ad,U,rfl⟩:=cC hy
   obtain⟨v,hv,bo,h1,h2⟩:=eh q2 U
   rw[CW] at hv
   obtain⟨⟨n,w⟩,hn,rfl⟩:=Do.mp hv
   have hi:i<qs.length:=(C7.mp U).1
   have h1:H3 ad=some (.tup [.ref bo,.int w]):=s3 _ _ h1
   have h2:lV g.R g.C H3 bo n:=s3 _ _ h2
   have d1:Dp K H3 (.ref bo) (.tuple ((sN g.R g.C n).map .int)):=Dp.ints (bH.of h2)
   have d2:Dp K H3 (.ref a2) (.tuple ((sN g.R g.C x).map .int)):=Dp.ints (bH.of (s3 _ _ (s2 _ _ (s _ _ N))))
   have a7:Ev (fb (zZ K) (fb (jZ K) (bQ 0) (tC (.int 0))) (fb (oO K) (bQ 1) (bQ 2))) [some (.ref ad),some (.ref l),some (.int (1+(j:Int)))] H3 (.bl (decide (n=x))):=fun Q' z=>by
    refine aS (v:=.ref bo) (ae rfl) az (bH.of h1) rfl _ (bw (v:=.ref a2) (ae rfl) (ae rfl) (bg.of (s3 _ _ av)) (by rw[show(1+(j:Int))=((j+1:Nat):Int) by lia];exact cA (by rw[CW,af];rfl)) _ ⟨_,_,d1,d2,wH _,?_⟩)
    rw[jy,show decide (sN g.R g.C n=sN g.R g.C x)=decide (n=x) from decide_eq_decide.mpr ⟨fun z=>gj Z z,fun z=>by rw[z]⟩]
    exact z
   refine gn (aA a7 _ ?_)
   by_cases c:n=x
   ·rw[decide_eq_true c]
    refine lG (aS (v:=.int w) (ae rfl) az (bH.of h1) rfl _ ?_)
    refine⟨zs.map V.int,hD,by rw[CK];lia,_,zs++[w],rfl,bT s3 nD,by rw[ag,C3];rfl,?_,dQ (by assumption)⟩
    rw[bE hn,DH,DJ (by simpa using c),C3,hz];rfl
   ·rw[decide_eq_false c]
    refine hU ⟨_,zs,rfl,s3,hD,?_,by lia⟩
    rw[bE hn,DH,DK (by simpa using c),EF,Dw];exact hz
  rintro τ H3 ⟨x0,zs,rfl,s3,hD,hz,a6⟩
  rw[CK,ql,DR,lr (xh hg F' m) C] at hz
  have hz:zs=[p - f]:=hz
  subst hz
  have u:=(s.trans s2).trans s3
  have ap:=u _ _ r
  dsimp only
  refine vd (fun σ H4=>σ=[some (.ref t),some (.ref e),some (.ref l),some (.int pr),some (.ref am),some (.ref Y),some (.int (1+(j:Int))),some (.ref D)]∧ax H3 H4) (fun R hR=>?_) ?_
  ·refine p7 (AX (a:=false) (cE (aA (eU (cn (v:=.int 1) (ah (ae rfl) ay) fun Q' q'=>⟨_,1,rfl,.inl ⟨_,bg.of hD,rfl⟩,q'⟩) az)) rfl) rfl ?_)
   refine L (j:=j+1) (a:=a2) ap rfl (ae rfl) (by lia) af _ ?_
   refine⟨_,rfl,_,rfl,_,rfl,l,_,rfl,bg.of ap,fun c nc=>?_⟩
   have s4:ax H3 (upd H3 c (.lst (pQ (o.map V.ref) none (some (1+(j:Int)))))):=(ax.refl H3).upd nc
   have e4:upd H3 c (.lst (pQ (o.map V.ref) none (some (1+(j:Int))))) c=some (.lst ((o.take (j+1)).map V.ref)):=by
    rw[ag,show(1+(j:Int))=((j+1:Nat):Int) by lia,vo _ _ (by rw[CK];lia),List.map_take]
   refine⟨a2,c,o.take (j+1),sN g.R g.C x,(W.reverse.map (sN g.R g.C)).take (j+1),rfl,rfl,s4 _ _ (u _ _ N),bg.of e4,jg (aB J fun b xs eb=>s4 _ _ (u _ _ eb)) (j+1),?_⟩
   have bn:sN g.R g.C x∉(W.reverse.map (sN g.R g.C)).take (j+1):=by
    have a5:(W.reverse.map (sN g.R g.C)).Nodup:=rH ((List.reverse_perm W).nodup_iff.mpr hW.nd) fun a _ b _ z=>gj Z z
    refine oI a5 ?_
    rw[CW,pF (d:=0) (by rw[Fk];exact hj),sr hj,hx];rfl
   rw[decide_eq_false bn]
   exact⟨false,rfl,hU (hR _ _ ⟨rfl,s4⟩)⟩
  rintro σ H4 ⟨rfl,s4⟩
  refine lS (aZ (ae rfl) (bw (v:=.int (p - f)) (ae rfl) az (bg.of (s4 _ _ hD)) rfl)) ?_
  exact⟨_,p,_,_,rfl,u.trans s4,X,by lia⟩
 ·rintro σ H' ⟨pr,f,x6,x7,rfl,s,hf,a9⟩
  refine st (cw (v:=.bl true) (g9 (dZ (ae rfl) az) ?_) (q _ s))
  rw[show W.length - 1 - (((W.length:Nat):Int) - 1).toNat=0 by lia,show W.getD 0 0=k by rw[M];rfl,bc] at hf
  cases hf
  rw[decide_eq_true (by lia)]
theorem wy(F:dW K "_law_shore" "_law_shore" jb f fd)(T:eV K mg cFloor cHeap cMS)(gArcs:aJ P w K mg base "_law_arcs" 2 ["ground", "free", "one"] k_):bJ P w K mg base dw 3 f fd ["ground", "free", "starts"] oy:=by
 have sc:aM ["ground", "free", "starts", "marks", "ahead", "spot"] ["ground", "free", "starts"] (au jb):=⟨rfl,rfl,rfl,by decide+kernel,rfl,by decide+kernel,by decide+kernel⟩
 refine F.ok sc (fun vs H Q E h=>by repeat (first|(obtain⟨rfl,_⟩:=h;rfl)|(obtain⟨_,h⟩:=h))) (fun cdv A outer s H vs Q E hr h=>?_)
 obtain⟨t,e,a6,g,F',ss,J,bu,rfl,be,hg,he,hT,⟨r,bf,a5⟩,bd,hS,q⟩:=h
 refine⟨_,(ao (aO (i:=3) sc.nd rfl (Or.inl rfl) dJ)
 (ao (aO (i:=4) sc.nd rfl (Or.inl rfl) (bK cq (by rfl) T.list_ cV (ab (pv 2) aq)))
 (ao (gq PassesOwn.never (aI mM (aK bp (by rfl) T.len_ bW (ab (pv 4) aq)) ai (aV _))
 (ao (aO (i:=5) sc.nd rfl (Or.inl rfl) (u6 Ek PySem.F.slot_list_pop PySem.F.type_list_pop wF (pv 4)))
 (aw (bI (fI (eB (bj.one hr) (pv 5) (pv 3)))
 (ao (dI (bj.one hr) (pv 3) (pv 5) dy (by rfl))
 (aw (bS (eY Ek PySem.F.slot_list_extend PySem.F.type_list_extend tF (pv 4) (ab (jX (ls:=["arc"]) (ys:=[]) (ix:=[]) rfl ⟨rfl,by rfl,by rfl,by rfl,by rfl,rfl⟩ (cg (aN gArcs (hr.mono (by decide)) (by rfl) (ab (pv 0) (ab (pv 1) (ab (pv 5) aq))))) (fun _ _ _ _ _=>(aD (i:=0) (show(["arc"]:List Str).Nodup by decide+kernel) rfl (Or.inl rfl))) (fun _ _ _ _ _=>gx) (fun _ _ _ _ _=>(aC (iP (K:=K) rfl) (pv 0) ai (fun _ _=>rfl)))) aq)))))
 aQ))))
 (aw (aP (aK iw (by rfl) T.sorted_ ji (ab (bK (kN rfl) (by rfl) T.list_ cV (ab (pv 3) aq)) aq))))))),?_⟩
 have Z:=hg.S
 have hm:=hg.m
 have bx:sizeLine=2^24:=rfl
 have sl:r.length=ss.length:=by rw[Paired.length a5,CK]
 refine a_ fun Rh hRh=>fun d nd=>?_
 refine hRh _ _ ?_
 have s1:ax H (upd H d (.dT [])):=(ax.refl H).upd nd
 have U:upd H d (.dT []) d=some (.dT []):=ag
 revert s1 U
 generalize upd H d (.dT [])=H1
 intro s1 U
 refine a_ fun Rh hRh=>⟨_,rfl,a6,_,rfl,.inl (bg.of (s1 _ _ bf)),fun A nA=>?_⟩
 refine hRh _ _ ?_
 have s2:ax H1 (upd H1 A (.lst (r.map V.ref))):=(ax.refl H1).upd nA
 have aa:upd H1 A (.lst (r.map V.ref)) A=some (.lst (r.map V.ref)):=ag
 revert s2 aa
 generalize upd H1 A (.lst (r.map V.ref))=H2
 intro s2 aa
 have av:A≠d:=CQ (ak U nA)
 have a0:H A=none:=s1.free nA
 refine gC (fun b σ H'=>∃(as:List Addr) (ms:List Nat) (Mk:List (Nat×V)) (x5:Option V),σ=[some (.ref t),some (.ref e),some (.ref a6),some (.ref d),some (.ref A),x5]∧ax H H'∧H' A=some (.lst (as.map V.ref))∧bN H' as (ms.map (sN g.R g.C))∧H' d=some (.dT (aX g.R g.C Mk))∧Tb g.M Mk∧(∀p∈Mk,p.2=.bl true)∧
   (∀n∈ms,∃p,J n=some p)∧(∀n,(aR Mk n).isSome=true→∃p,J n=some p)∧(∀n∈ss,n∈ms∨(aR Mk n).isSome=true)∧(∀n,(aR Mk n).isSome=true→∀a∈rows g F' n,a.1∈ms∨(aR Mk a.1).isSome=true)∧ms.length≤4+6*Mk.length∧b=(g.M - Mk.length)*7+ms.length)
  ⟨_,r,ss,[],none,rfl,s1.trans s2,aa,aB a5 (fun b xs z=>s2 _ _ (s1 _ _ z)),s2 _ _ U,Tb.nil,(fun _ h=>nomatch h),fun n hn=>⟨0,hS.st n hn⟩,(fun n h=>by simp[iW] at h),fun n hn=> .inl hn,(fun n h=>by simp[iW] at h),by simpa using bd,rfl⟩ ?_
 rintro b σ H' ⟨as,ms,Mk,x5,rfl,s,hA,R,hd,O,a9,f1,f2,f3,f4,I,rfl⟩
 have al:as.length=ms.length:=by rw[Paired.length R,CK]
 have br:=O.few
 refine⟨decide ((0:Int)<((ms.length:Nat):Int)),aA (aZ (cn (v:=.int (ms.length:Nat)) (ah (ae rfl) ay) fun Q' q'=>⟨_,ms.length,rfl,.inl ⟨_,bg.of hA,by rw[CK,al]⟩,q'⟩) az),fun hb N hN=>?_,fun hb=>?_⟩
 ·have ap:0<ms.length:=by have:=of_decide_eq_true hb;lia
  have a4:ms≠[]:=fun z=>by rw[z] at ap;simp at ap
  obtain⟨pre,n,hpre⟩:∃pre n,ms=pre++[n]:=⟨ms.dropLast,ms.getLast a4,(E8 a4).symm⟩
  have W:as≠[]:=fun z=>by rw[z] at al;simp at al;lia
  obtain⟨bs,a,Y⟩:∃bs a,as=bs++[a]:=⟨as.dropLast,as.getLast W,(E8 W).symm⟩
  subst hpre Y
  have bl:bs.length=pre.length:=by simpa using al
  have bv:pre.length+1≤4+6*Mk.length:=by simpa using I
  rw[C3] at R
  have ha:lV g.R g.C H' a n:=by
   obtain⟨c,hc,a8⟩:=cc R (i:=bs.length) (a:=a) (by simp)
   rw[bl,Ee (by rw[CK];exact CM _),CK,Nat.sub_self] at hc
   have hc:c=sN g.R g.C n:=(Option.some.inj hc).symm
   rw[hc] at a8;exact a8
  have bi:bN H' bs (pre.map (sN g.R g.C)):=by
   have:=jg R bs.length
   rw[List.take_left] at this
   rw[bl,←CK (as:=pre) (f:=sN g.R g.C),List.take_left] at this
   exact this
  obtain⟨fn,X⟩:=f1 n (by simp)
  have a2:=(hS.fr n fn X).1
  refine a_ fun Rh hRh=>⟨_,rfl,.inl ⟨rfl,_,bg.of hA⟩,A,_,.ref a,rfl,rfl,hA,by simp,?_⟩
  refine hRh _ _ ?_
  rw[C3,FQ,List.dropLast_concat]
  have s3:ax H (upd H' A (.lst (bs.map V.ref))):=bT s a0
  have L:upd H' A (.lst (bs.map V.ref)) A=some (.lst (bs.map V.ref)):=ag
  have j:upd H' A (.lst (bs.map V.ref)) d=some (.dT (aX g.R g.C Mk)):=by rw[aj (CQ av)];exact hd
  have B:lV g.R g.C (upd H' A (.lst (bs.map V.ref))) a n:=bU hA _ _ ha
  have u:=aB bi (bU (y:=bs.map V.ref) hA)
  revert s3 L j B u
  generalize upd H' A (.lst (bs.map V.ref))=H3
  intro s3 L j B u
  dsimp only
  have gg:=dg (.inl j) B
  rw[cJ Z] at gg
  have bC:∀m,m∈pre++[n]→m∈pre∨m=n:=fun m hm=>by
   rcases Dm.mp hm with z|z
   ·exact .inl z
   ·exact .inr (CP.mp z)
  refine fQ (aA (cW (ae rfl) (ae rfl) gg)) (fun hz=>?_) (fun hz=>?_)
  ·have bn:aR Mk n=none:=by
    cases z:aR Mk n with
    |none=>rfl
    |some v=>rw[z] at hz;simp at hz
   have ml:(bF Mk n (.bl true)).length=Mk.length+1:=by
    have:=congrArg List.length (mL Mk n (.bl true))
    rw[bn] at this
    simpa using this
   have a7:=O.put (v:=.bl true) a2
   have lp:=a7.few
   have vp:∀m,(aR (bF Mk n (.bl true)) m).isSome=true↔m=n∨(aR Mk m).isSome=true:=fun m=>by
    rw[fg]
    by_cases c:m=n
    ·simp[c]
    ·rw[if_neg c];simp[c]
   refine ir az (ae rfl) (ae rfl) (fh.t (k:=iK (sN g.R g.C n)) j (f_ B) (by rw[b_];lia)) ?_
   have s4:ax H (upd H3 d (.dT (bF (aX g.R g.C Mk) (iK (sN g.R g.C n)) (.bl true)))):=bT s3 nd
   have S:upd H3 d (.dT (bF (aX g.R g.C Mk) (iK (sN g.R g.C n)) (.bl true))) A=some (.lst (bs.map V.ref)):=by rw[aj av];exact L
   have ac:upd H3 d (.dT (bF (aX g.R g.C Mk) (iK (sN g.R g.C n)) (.bl true))) d=some (.dT (aX g.R g.C (bF Mk n (.bl true)))):=by rw[ag,ef Z]
   have kt:∀b xs,H3 b=some (.tup xs)→upd H3 d (.dT (bF (aX g.R g.C Mk) (iK (sN g.R g.C n)) (.bl true))) b=some (.tup xs):=fun b xs z=>by rw[aj (fun y=>by rw[y,j] at z;cases z)];exact z
   have an:=kt _ _ B
   have am:=aB u kt
   revert s4 S ac an am
   clear kt
   generalize upd H3 d (.dT (bF (aX g.R g.C Mk) (iK (sN g.R g.C n)) (.bl true)))=H4
   intro s4 S ac an am
   refine⟨_,rfl,.inl ⟨rfl,_,bg.of S⟩,?_⟩
   refine zG (K:=K) (ah (ae rfl) (ah (ae rfl) (ah (ae rfl) ay))) ⟨t,e,a,g,F',n,rfl,be.same s4,hg,.inl (s4 _ _ he),hT,a2,an,fun H5 l5 s5 nl5 ⟨qs,q1,q2⟩=>?_⟩
   rw[gu hg] at q2
   have ql:qs.length=(rows g F' n).length:=by rw[Paired.length q2,CK]
   have r6:=i_ g F' n
   refine⟨l5,rfl,⟨_,bg.of q1⟩,fun D nD=>?_⟩
   refine dN (K:=K) (xs:=qs.map V.ref) (fun i τ H6=>∃(x0:Option V) (cs:List Addr),τ=[x0]∧ax H5 H6∧H6 D=some (.lst (cs.map V.ref))∧bN H6 cs ((((rows g F' n).take i).map (·.1)).map (sN g.R g.C))∧cs.length≤i)
    ⟨none,[],rfl,(ax.refl H5).upd nD,ag,.nil,CM _⟩ (fun i τ H6 _ ⟨_,_,_,s6,_⟩=>bg.of (s6 _ _ q1)) ?_ ?_
   ·rintro i y τ H6 hy ⟨x0,cs,rfl,s6,hD,C,bm⟩
    obtain⟨ad,a1,rfl⟩:=cC hy
    obtain⟨v,hv,bo,h1,h2⟩:=eh q2 a1
    rw[CW] at hv
    obtain⟨⟨m,w⟩,bb,rfl⟩:=Do.mp hv
    have hi:i<qs.length:=(C7.mp a1).1
    have h1:H6 ad=some (.tup [.ref bo,.int w]):=s6 _ _ h1
    have h2:lV g.R g.C H6 bo m:=s6 _ _ h2
    refine gn ?_
    dsimp only[yJ]
    rw[if_pos rfl]
    refine aS (v:=.ref bo) (ae rfl) az (bH.of h1) rfl _ ?_
    refine⟨cs.map V.ref,hD,by rw[CK];lia,_,cs++[bo],rfl,bT s6 nD,by rw[ag,C3];rfl,?_,dQ (by assumption)⟩
    rw[bE bb,C3,C3]
    exact cU (aB C (bU hD)) (.cons (bU hD _ _ h2) .nil)
   rintro τ H6 ⟨x0,cs,rfl,s6,hD,C,bm⟩
   rw[CK,ql,DR] at C
   have cl:cs.length=(rows g F' n).length:=by rw[Paired.length C,CK,CK]
   have M:=s5.trans s6
   have af:=M _ _ S
   refine⟨A,D,_,_,rfl,rfl,af,hD,by rw[CK,CK];lia,?_⟩
   refine hN ((g.M - (bF Mk n (.bl true)).length)*7+(pre++(rows g F' n).map (·.1)).length) _ _ ?_ ⟨bs++cs,pre++(rows g F' n).map (·.1),bF Mk n (.bl true),_,rfl,bT (s4.trans M) a0,by rw[ag,C3],?_,by rw[aj (CQ av)];exact M _ _ ac,a7,fun p hp=>?_,fun m hm=>?_,fun m hm=>?_,fun m hm=>?_,fun m hm a' o=>?_,?_,rfl⟩
   ·rw[ml] at lp⊢
    rw[C_,CK,C_,EX]
    lia
   ·rw[C3]
    exact cU (aB am fun b xs z=>bU af _ _ (M _ _ z)) (aB C (bU af))
   ·rcases iE hp with z|z
    ·exact a9 p z
    ·rw[z]
   ·rcases Dm.mp hm with z|z
    ·exact f1 m (ET _ z)
    ·obtain⟨a',o,rfl⟩:=CU.mp z
     obtain⟨q',ba,_⟩:=hS.ar n fn X a' o
     exact⟨q',ba⟩
   ·rcases(vp m).mp hm with z|z
    ·rw[z];exact⟨fn,X⟩
    ·exact f2 m z
   ·rcases f3 m hm with z|z
    ·rcases bC m z with y|y
     ·exact .inl (ET _ y)
     ·exact .inr ((vp m).mpr (.inl y))
    ·exact .inr ((vp m).mpr (.inr z))
   ·rcases(vp m).mp hm with z|z
    ·subst z
     exact .inl (DZ _ (DG o))
    ·rcases f4 m z a' o with y|y
     ·rcases bC _ y with x|x
      ·exact .inl (ET _ x)
      ·exact .inr ((vp _).mpr (.inl x))
     ·exact .inr ((vp _).mpr (.inr y))
   ·rw[ml,C_,CK]
    rw[C_,EX] at I
    lia
  ·have ar:(aR Mk n).isSome=true:=by simpa using hz
   refine hN ((g.M - Mk.length)*7+pre.length) _ _ (by rw[C_,EX];lia) ⟨bs,pre,Mk,_,rfl,s3,L,u,j,O,a9,fun m hm=>f1 m (ET _ hm),f2,fun m hm=>?_,fun m hm a' o=>?_,by rw[C_,EX] at I;lia,rfl⟩
   ·rcases f3 m hm with z|z
    ·rcases bC m z with y|y
     ·exact .inl y
     ·rw[y];exact .inr ar
    ·exact .inr z
   ·rcases f4 m hm a' o with z|z
    ·rcases bC _ z with y|y
     ·exact .inl y
     ·rw[y];exact .inr ar
    ·exact .inr z
 ·have h0:ms=[]:=Fu (by have:=of_decide_eq_false hb;lia)
  subst h0
  have bc:∀n,(aR Mk n).isSome=(J n).isSome:=fun n=>by
   rw[Em]
   constructor
   ·intro z
    obtain⟨p,hp⟩:=f2 n z
    rw[hp];rfl
   ·intro z
    obtain⟨p,hp⟩:=Ey.mp z
    refine hS.all (P:=fun n=>(aR Mk n).isSome=true) (fun n hn=>?_) (fun n hn a ha=>?_) n p hp
    ·rcases f3 n hn with y|y
     ·cases y
     ·exact y
    ·rcases f4 n hn a ha with y|y
     ·cases y
     ·exact y
  refine⟨_,rfl,d,.dT (aX g.R g.C Mk),rfl,hd,trivial,trivial,by show(aX g.R g.C Mk).length≤1000;rw[b_];lia,fun l ys nl hyl hys=>?_⟩
  obtain⟨ks,rfl,a3⟩:=mP (by rw[hyl];exact b_) hys
  have s5:ax H' (upd H' l (.lst (ks.map V.ref))):=(ax.refl H').upd nl
  have e5:upd H' l (.lst (ks.map V.ref)) l=some (.lst (ks.map V.ref)):=ag
  revert s5 e5
  generalize upd H' l (.lst (ks.map V.ref))=H5
  intro s5 e5
  refine⟨l,ks,_,rfl,bg.of e5,aB a3 (fun b xs z=>s5 _ _ z),fun c hc=>?_,by rw[Paired.length a3,CK,CK];lia,fun l6 bs ds nl6 Y hp ho=>?_⟩
  ·obtain⟨n,_,rfl⟩:=CU.mp hc
   unfold sN;simp
  ·have:=jV Z O hp ho
   refine q _ l6 ((s.trans s5).upd nl6) ⟨bs,ag,?_⟩
   rw[show fS g.R g.C g.M (fun n=>(J n).isSome)=ds by rw[this];congr 1;funext n;exact(bc n).symm]
   exact aB Y fun b xs z=>by rw[aj (ak z nl6)];exact z
theorem zR(F:dW K "law" "law" ly f fd)(T:eV K mg cFloor cHeap cMS)(gCheap:aJ P w K mg base "cheapest" 7 ["floor", "free", "starts", "goals"] (nX K cFloor))(gCell:aJ P w K mg base "_law_cell_at" 1 ["script", "k"] (og K))(gFolded:aJ P w K mg base "_law_folded" 1 ["script", "behind", "many"] (lF K))(gGround:aJ P w K mg base "_law_ground" 2 ["script", "cells", "tight"] (lj K))(gLFloor:aJ P w K mg base "_law_floor" 5 ["ground"] (kG cFloor))(gFree:aJ P w K mg base "_law_free" 2 ["ground", "cells", "way"] (rB K))(gSome:aJ P w K mg base "_law_some" 1 ["usable", "cell", "many"] qF)(gHillF:aJ P w K mg base "_law_hill_fine" 3 ["ground", "free", "hill", "starts", "goals"] oN)(gWayF:aJ P w K mg base "_law_way_fine" 3 ["ground", "free", "way", "price", "starts", "goals"] q_)(gShore:aJ P w K mg base "_law_shore" 3 ["ground", "free", "starts"] oy):bJ P w K mg base dw 8 f fd ["script"] (sF K):=by
 have sc:aM ["script", "cells", "ground", "free", "usable", "starts", "goals", "given", "spot", "handed", "found"] ["script"] (au ly):=⟨rfl,rfl,rfl,by decide+kernel,rfl,by decide+kernel,by decide+kernel⟩
 refine F.ok sc (fun vs H Q E h=>by repeat (first|(obtain⟨rfl,_⟩:=h;rfl)|(obtain⟨_,h⟩:=h))) (fun cdv A outer s H vs Q E hr h=>?_)
 obtain⟨a,ns,rfl,ha,hn,ec,q⟩:=h
 refine⟨_,(ao (aO (i:=1) sc.nd rfl (Or.inl rfl) (aN gFolded (hr.mono (by decide)) (by rfl) (ab (pv 0) (ab ai (ab ai aq)))))
 (ao (aO (i:=2) sc.nd rfl (Or.inr rfl) (aN gGround (hr.mono (by decide)) (by rfl) (ab (pv 0) (ab (pv 1) (ab (aF cx (aN gCell (hr.mono (by decide)) (by rfl) (ab (pv 0) (ab ai aq))) ai) aq)))))
 (ao (aO (i:=3) sc.nd rfl (Or.inl rfl) (aN gFree (hr.mono (by decide)) (by rfl) (ab (pv 2) (ab (pv 1) (ab (aF cx (aF bO (aN gCell (hr.mono (by decide)) (by rfl) (ab (pv 0) (ab ai aq))) ai) ai) aq)))))
 (ao (jx (fz (i:=4) (ls:=["spot"]) (ys:=["ground"]) (ix:=[2]) rfl sc.nd rfl (Or.inl rfl) ⟨rfl,by rfl,by rfl,by rfl,by rfl,rfl⟩ (iM (pv 3)) (fun _ _ _ _ _=>(aD (i:=0) (show(["spot", "ground"]:List Str).Nodup by decide+kernel) rfl (Or.inl rfl))) (fun _ _ _ _ _=>(jf (aI (qM (K:=K) rfl (by exact hr)) (pv 0) (aC (iP (K:=K) rfl) (pv 1) ai (fun _ _=>rfl)) (by with_unfolding_all rfl)))) (fun _ _ _ _ _=>(pv 0))))
 (ao (bI (aI e_ (aK bp (by rfl) T.len_ bW (ab (pv 4) aq)) ai (aV _))
 (ao (aO (i:=3) sc.nd rfl (Or.inl rfl) (bK gL (by rfl) T.dict_ fA (ab (pv 3) aq)))
 (ao (aO (i:=2) sc.nd rfl (Or.inr rfl) (bM (ab (aC aH (pv 2) ai (fun _ _=>rfl)) (ab (cT aq) (ab (aC aH (pv 2) ai (fun _ _=>rfl)) (ab (aC aH (pv 2) ai (fun _ _=>rfl)) (ab (aC aH (pv 2) ai (fun _ _=>rfl)) aq)))))))
 (ao (dI (bj.one hr) (pv 3) (bM (ab ai (ab ai (ab ai aq)))) dy (by rfl))
 (aw (aO (i:=4) sc.nd rfl (Or.inl rfl) (cT (ab (bM (ab ai (ab ai (ab ai aq)))) aq)))))))
 aQ)
 (ao (aO (i:=5) sc.nd rfl (Or.inl rfl) (aN gSome (hr.mono (by decide)) (by rfl) (ab (pv 4) (ab (aN gCell (hr.mono (by decide)) (by rfl) (ab (pv 0) (ab ai aq))) (ab (aF bB ai (aF cx (aN gCell (hr.mono (by decide)) (by rfl) (ab (pv 0) (ab ai aq))) ai)) aq)))))
 (ao (aO (i:=6) sc.nd rfl (Or.inl rfl) (aN gSome (hr.mono (by decide)) (by rfl) (ab (pv 4) (ab (aN gCell (hr.mono (by decide)) (by rfl) (ab (pv 0) (ab ai aq))) (ab (aF bB ai (aF cx (aF bO (aN gCell (hr.mono (by decide)) (by rfl) (ab (pv 0) (ab ai aq))) ai) ai)) aq)))))
 (ao (aO (i:=7) sc.nd rfl (Or.inl rfl) (bK gL (by rfl) T.dict_ fA (ab (pv 3) aq)))
 (ao (bI (aI e_ (aF cx (aN gCell (hr.mono (by decide)) (by rfl) (ab (pv 0) (ab ai aq))) ai) ai (aV _))
 (ao (aO (i:=7) sc.nd rfl (Or.inl rfl) dJ)
 (aw (bP PassesOwn.never rfl (zI (by rfl) T.reversed_ (bK (kN rfl) (by rfl) T.list_ cV (ab (pv 3) aq))) (aD (i:=8) sc.nd rfl (Or.inl rfl))
 (aw (dI (bj.one hr) (pv 7) (pv 8) dy (by rfl))))))
 aQ)
 (ao (aO (i:=9) sc.nd rfl (Or.inl rfl) (cT (ab (pv 7) (ab (bK cq (by rfl) T.list_ cV (ab (pv 5) aq)) (ab (bK cq (by rfl) T.list_ cV (ab (pv 6) aq)) aq)))))
 (ao (aO (i:=10) sc.nd rfl (Or.inr rfl) (aN gCheap (hr.mono (by decide)) (by rfl) (ab (aN gLFloor (hr.mono (by decide)) (by rfl) (ab (pv 2) aq)) (ab (aC aU (pv 9) ai (fun _ _=>rfl)) (ab (aC aU (pv 9) ai (fun _ _=>rfl)) (ab (aC aU (pv 9) ai (fun _ _=>rfl)) aq))))))
 (ao (bI (d_ (aI (yX hr) (pv 9) (cT (ab (pv 3) (ab (pv 5) (ab (pv 6) aq)))) (aV _)) (d_ (eE (eI (aK cR (by rfl) T.isinstance_ cy (ab (pv 10) (ab (fN (v:=.ty "tuple") (by rfl) T.tuple_ p9 (by rfl)) aq))))) (dX (aI fR (aK bp (by rfl) T.len_ bW (ab (pv 10) aq)) ai (aV _))))).pt
 (aw (aP dy))
 aQ)
 (ao (bI (kO (aI e_ (aC aH (pv 10) ai (fun _ _=>rfl)) oV (aV _)) (iA (aI e_ (aK bp (by rfl) T.len_ bW (ab (pv 10) aq)) ai (aV _)))).pt
 (ao (bI (eE (eI (aN gHillF (hr.mono (by decide)) (by rfl) (ab (pv 2) (ab (pv 3) (ab (aC aH (pv 10) ai (fun _ _=>rfl)) (ab (pv 5) (ab (pv 6) aq))))))))
 (aw (aP dy))
 aQ)
 (aw (aP (aN gWayF (hr.mono (by decide)) (by rfl) (ab (pv 2) (ab (pv 3) (ab (aC aH (pv 10) ai (fun _ _=>rfl)) (ab (aC aH (aC aH (pv 10) ai (fun _ _=>rfl)) ai (fun _ _=>rfl)) (ab (pv 5) (ab (pv 6) aq))))))))))
 aQ)
 (ao (bI (d_ (aI gk (aC aH (pv 10) ai (fun _ _=>rfl)) oV (aV _)) (d_ (aI gk (aK bp (by rfl) T.len_ bW (ab (pv 10) aq)) ai (aV _)) (dX (eE (eI (aK cR (by rfl) T.isinstance_ cy (ab (aC aH (pv 10) ai (fun _ _=>rfl)) (ab (fN (v:=.ty "list") (by rfl) T.list_ cV (by rfl)) aq)))))))).pt
 (aw (aP dy))
 aQ)
 (aw (aP (kK (oA (wC hr) (aC aH (pv 10) ai (fun _ _=>rfl)) (aN gShore (hr.mono (by decide)) (by rfl) (ab (pv 2) (ab (pv 3) (ab (pv 5) aq)))) (aV _)) (o8 (we (aK (vO rfl) (by rfl) T.any_ AA (ab (jX (ls:=["goal"]) (ys:=["found"]) (ix:=[10]) rfl ⟨rfl,by rfl,by rfl,by rfl,by rfl,rfl⟩ (cg (pv 6)) (fun _ _ _ _ _=>(aD (i:=0) (show(["goal", "found"]:List Str).Nodup by decide+kernel) rfl (Or.inl rfl))) (fun _ _ _ _ _=>gx) (fun _ _ _ _ _=>(oA (yt (K:=K) rfl (by exact hr)) (pv 0) (aC (iP (K:=K) rfl) (pv 1) ai (fun _ _=>rfl)) (by with_unfolding_all rfl)))) aq))))))))))))))))))))),?_⟩
 have eX:sizeLine=2^24:=rfl
 refine a_ fun Rh hRh=>(cH (ah (ae rfl) (ah az (ah az ay))) ⟨a,ns,rfl,ha,hn,fun H1 cl s1 hcl=>?_⟩)
 refine hRh _ _ ?_
 refine a_ fun Rh hRh=>?_
 refine⟨_,rfl,_,rfl,?_⟩
 refine mO (cH (ah (ae rfl) (ah az ay)) ⟨a,ns,3,rfl,s1.seq ha,by decide,fun v3=>⟨v3,2,rfl,rfl,(by show(0:Int)<2;decide),?_⟩⟩)
 refine⟨a,cl,ns,_,rfl,s1.seq ha,hn,hcl,fun H2 t g s2' ad hg=>?_⟩
 refine hRh _ _ ?_
 have s2:=s1.trans s2'
 have dL:Cl H2 cl:=by obtain⟨cs,e1,e2⟩:=hcl;exact⟨cs,s2' _ _ e1,e2⟩
 refine a_ fun Rh hRh=>?_
 refine⟨_,rfl,_,rfl,?_⟩
 refine mO (mO (cH (ah (ae rfl) (ah az ay)) ⟨a,ns,3,rfl,s2.seq ha,by decide,fun v4=>⟨v4,2,rfl,rfl,uJ (by decide) (by decide),v4/2,2,rfl,rfl,(by show(0:Int)<2;decide),?_⟩⟩))
 refine⟨t,cl,g,_,rfl,ad,hg,dL,fun H3 fr F' s3' nfr Y hT hv=>?_⟩
 refine hRh _ _ ?_
 have s3:=s2.trans s3'
 have S:=hg.S
 have hm:=hg.m
 have few:=hT.few
 obtain⟨z,ro,pr,vi,td,ht,hG⟩:=id ad
 have du:td≠fr:=ak hG.td nfr
 have J:=s3' _ _ ht
 have b4:=hG.same s3'
 obtain⟨ff,ds,db⟩:=id b4.ro
 refine cu fun R0 hR0=>?_
 refine⟨fr,.dT (aX g.R g.C F'),Y,trivial,fun o=>?_⟩
 have U:∀{H':Hp},ax (upd H3 fr (.frz o (.dT (aX g.R g.C F')))) H'→ax H3 (upd H' fr (.dT (aX g.R g.C F'))):=fun s=>lQ Y s
 have O:upd H3 fr (.frz o (.dT (aX g.R g.C F'))) fr=some (.frz o (.dT (aX g.R g.C F'))):=ag
 have kp:∀{b:Addr} {x:HO},H3 b=some x→(∀kvs,x≠.dT kvs)→upd H3 fr (.frz o (.dT (aX g.R g.C F'))) b=some x:=fun{b x} eb nx=>by
  rw[aj (fun y=>by rw[y,Y] at eb;cases eb;exact nx _ rfl)];exact eb
 have b8:=kp J (fun _ z=>nomatch z)
 have al:=kp ds (fun _ z=>nomatch z)
 have ar:=aB db fun b xs z=>kp z (fun _ y=>nomatch y)
 revert U O b8 al ar
 clear kp
 generalize upd H3 fr (.frz o (.dT (aX g.R g.C F')))=HF
 intro U O b8 al ar
 refine⟨_,rfl,fr,o,.dT (aX g.R g.C F'),rfl,O,trivial,fun D nD=>?_⟩
 refine xj (fun i τ H'=>∃(x0:Option V) (bs:List Addr),τ=[x0,some (.ref t)]∧ax HF H'∧H' D=some (.lst (bs.map V.ref))∧bN H' bs ((((F'.take i).map (·.1)).filter fun n=>!decide (n∈g.rs)).map (sN g.R g.C))∧bs.length≤i)
  ⟨none,[],rfl,(ax.refl HF).upd nD,ag,.nil,CM _⟩ (fun i τ H' _ ⟨_,_,_,s,_⟩=>s _ _ O) ?_ ?_
 ·rintro i x v τ H' hk hi ek
  refine dB fun Rg1 hRg1=>?_
  obtain⟨x0,bs,rfl,s,hD,Z,c3⟩:=ek
  have hi:i<(aX g.R g.C F').length:=hi
  rw[b_] at hi
  obtain⟨y,b,hy,rfl,rfl,hb⟩:=iC hk
  have a7:Ev (fb (qh K true) (bQ 0) (fb (jZ K) (bQ 1) (tC (.int 1)))) [some (.ref b),some (.ref t)] H' (.bl (!decide (sN g.R g.C y.1∈g.rs.map (sN g.R g.C)))):=gN (K:=K) (ae rfl) (aS (v:=.ref ro) (ae rfl) az (bH.of (s _ _ b8)) rfl) hb (bg.of (s _ _ al)) (aB ar fun b xs z=>s _ _ z)
  rw[show decide (sN g.R g.C y.1∈g.rs.map (sN g.R g.C))=decide (y.1∈g.rs) from decide_eq_decide.mpr (zz S)] at a7
  refine gn ?_
  refine hRg1 _ _ ?_
  refine aA a7 _ ?_
  cases hf:(!decide (y.1∈g.rs)) with
  |true=>
   refine lG ⟨_,rfl,bs.map V.ref,hD,by rw[CK];lia,_,bs++[b],rfl,bT s nD,by rw[ag,C3];rfl,?_,dQ (by assumption)⟩
   rw[bE hy,C3,DH,FQ,DJ (p:=fun n=>!decide (n∈g.rs)) (a:=y.1) hf,C3]
   exact cU (aB Z (bU hD)) (.cons (bU hD _ _ hb) .nil)
  |false=>
   refine hU ⟨_,bs,rfl,s,hD,?_,by lia⟩
   rw[bE hy,C3,DH,FQ,DK (p:=fun n=>!decide (n∈g.rs)) (a:=y.1) (by rw[hf];decide),EF,Dw]
   exact Z
 rintro τ H5 ⟨x0,bs,rfl,s5,hD,Z,c3⟩
 rw[show er (.dT (aX g.R g.C F'))=F'.length from b_] at Z c3
 rw[DR] at Z
 refine⟨s5 _ _ O,?_⟩
 have af:=U s5
 have d7:D≠fr:=fun y=>by rw[y,O] at nD;cases nD
 have a2:upd H5 fr (.dT (aX g.R g.C F')) D=some (.lst (bs.map V.ref)):=by rw[aj d7];exact hD
 have N:bN (upd H5 fr (.dT (aX g.R g.C F'))) bs (((F'.map (·.1)).filter fun n=>!decide (n∈g.rs)).map (sN g.R g.C)):=aB Z fun b xs y=>by rw[aj (fun w=>by rw[w,s5 _ _ O] at y;cases y)];exact y
 revert af a2 N
 generalize upd H5 fr (.dT (aX g.R g.C F'))=H4
 intro af a2 N
 have s4:=s3.trans af
 have bl:=af _ _ Y
 have bx:=af _ _ J
 have ch:=b4.same af
 clear U O b8 al ar Z hD s5 nD
 generalize a6:(F'.map (·.1)).filter (fun n=>!decide (n∈g.rs))=us at N
 have ul:bs.length=us.length:=by rw[Paired.length N,CK]
 have M:∀n∈us,n<g.M∧(aR F' n).isSome=true:=fun n hn=>by
  rw[←a6] at hn
  have hn:=(DO.mp hn).1
  obtain⟨p,hp,e⟩:=CU.mp hn
  exact⟨by rw[←e];exact hT.lt p hp,cb.mpr hn⟩
 refine hR0 _ _ ?_
 refine vd (fun σ H'=>∃(t' fr' u:Addr) (g':Gd) (F'':List (Nat×V)) (us:List Nat),σ=[some (.ref a),some (.ref cl),some (.ref t'),some (.ref fr'),some (.ref u),none,none,none,none,none,none]∧ax H4 H'∧Gr H' t' g'∧cX g'∧H' fr'=some (.dT (aX g'.R g'.C F''))∧Tb g'.M F''∧(∀p∈F'',p.2=.bl true)∧eQ H' u (us.map (sN g'.R g'.C))∧0<us.length∧us.length≤900∧
   (∀n∈us,n<g'.M∧(aR F'' n).isSome=true)∧∀z ro pr vi td,GT H' t' z ro pr vi td→td≠fr') (fun R hR=>?_) ?_
 ·refine fQ (aA (dZ (cn (v:=.int (us.length:Nat)) (ah (ae rfl) ay) fun Q' q'=>⟨_,us.length,rfl,.inl ⟨_,bg.of a2,by rw[CK,ul]⟩,q'⟩) az)) (fun hz=>?_) (fun hz=>?_)
  ·-- nothing is usable
   refine a_ fun Rh hRh=>⟨_,rfl,fr,rfl,.inr ⟨_,.inl bl,kf S hg.M hT,fun hd nhd=>?_⟩⟩
   refine hRh _ _ ?_
   have s5:ax H4 (upd H4 hd (.dT (aX g.R g.C F'))):=(ax.refl H4).upd nhd
   have cF:upd H4 hd (.dT (aX g.R g.C F')) hd=some (.dT (aX g.R g.C F')):=ag
   revert s5 cF
   generalize upd H4 hd (.dT (aX g.R g.C F'))=H5
   intro s5 cF
   have bu:=s5 _ _ bx
   have bn:∀{H':Hp} {σ:St} (i:Int) (v:V),H' t=some (.tup [.ref z,.ref ro,.ref pr,.ref vi,.ref td])→σ[2]?=some (some (.ref t))→je [V.ref z,V.ref ro,V.ref pr,V.ref vi,V.ref td] i=some v→Ev (fb (jZ K) (bQ 2) (tC (.int i))) σ H' v:=fun i v e1 e2 e3=>aS (ae e2) az (bH.of e1) e3
   refine a_ fun Rh hRh=>(yK (bn 0 _ bu rfl rfl) fun p np=>⟨_,_,_,bn 2 _ ((ax.refl H5).upd np _ _ bu) rfl rfl,bn 3 _ ((ax.refl H5).upd np _ _ bu) rfl rfl,bn 4 _ ((ax.refl H5).upd np _ _ bu) rfl rfl,fun t' nt'=>?_⟩)
   refine hRh _ _ ?_
   have s6:ax H5 (upd (upd H5 p (.lst [])) t' (.tup [.ref z,.ref p,.ref pr,.ref vi,.ref td])):=((ax.refl H5).upd np).upd nt'
   have b6:upd (upd H5 p (.lst [])) t' (.tup [.ref z,.ref p,.ref pr,.ref vi,.ref td]) t'=some (.tup [.ref z,.ref p,.ref pr,.ref vi,.ref td]):=ag
   have es:p≠t':=fun y=>by rw[←y,ag] at nt';cases nt'
   have b7:upd (upd H5 p (.lst [])) t' (.tup [.ref z,.ref p,.ref pr,.ref vi,.ref td]) p=some (.lst []):=by rw[aj es,ag]
   revert s6 b6 b7
   generalize upd (upd H5 p (.lst [])) t' (.tup [.ref z,.ref p,.ref pr,.ref vi,.ref td])=H6
   intro s6 b6 b7
   have cv:=s6 _ _ cF
   have dx:0<g.M:=by
    have h1:=hg.M
    have:=Int.mul_pos (Int.mul_pos (show 0<g.L by have:=S.l0;lia) (show 0<g.R by have:=S.r0;lia)) (show 0<g.C by have:=S.c0;lia)
    lia
   have dr:sN g.R g.C 0=[0,0,0]:=by unfold sN;simp
   dsimp only
   refine wI ⟨_,rfl,kW (vs:=[.int 0,.int 0,.int 0]) (ah az (ah az (ah az ay))) (by show 3≤sizeLine;decide) fun b nb=>⟨hd,_,rfl,fh.t (kvs:=aX g.R g.C F') (k:=iK (sN g.R g.C 0)) ((ax.refl H6).upd nb _ _ cv) (f_ (x:=sN g.R g.C 0) (by rw[dr];exact ag)) (by rw[b_];lia),?_⟩⟩
   have s7:ax H6 (upd H6 b (.tup [.int 0,.int 0,.int 0])):=(ax.refl H6).upd nb
   revert s7
   generalize upd H6 b (.tup [.int 0,.int 0,.int 0])=H7
   intro s7
   have an:=s7 _ _ cv
   have el:=(s5.trans s6).trans s7
   have s8:ax H4 (upd H7 hd (.dT (bF (aX g.R g.C F') (iK (sN g.R g.C 0)) (.bl true)))):=bT el nhd
   have bd:upd H7 hd (.dT (bF (aX g.R g.C F') (iK (sN g.R g.C 0)) (.bl true))) hd=some (.dT (aX g.R g.C (bF F' 0 (.bl true)))):=by rw[ag,ef S]
   have b3:GT (upd H7 hd (.dT (bF (aX g.R g.C F') (iK (sN g.R g.C 0)) (.bl true)))) t' z p pr vi td:=by
    show _=_
    rw[aj (fun y=>by rw[←y,s7 _ _ b6] at an;cases an)];exact s7 _ _ b6
   have ci:upd H7 hd (.dT (bF (aX g.R g.C F') (iK (sN g.R g.C 0)) (.bl true))) p=some (.lst []):=by rw[aj (fun y=>by rw[←y,s7 _ _ b7] at an;cases an)];exact s7 _ _ b7
   revert s8 bd b3 ci
   generalize upd H7 hd (.dT (bF (aX g.R g.C F') (iK (sN g.R g.C 0)) (.bl true)))=H8
   intro s8 bd b3 ci
   refine xp ?_
   refine eS (vs:=[.int 0,.int 0,.int 0]) (ah az (ah az (ah az ay))) (by show 3≤sizeLine;decide) fun b2 nb2=>⟨by show 1≤sizeLine;decide,fun u nu=>?_⟩
   have s9:ax H8 (upd (upd H8 b2 (.tup [.int 0,.int 0,.int 0])) u (.lst [.ref b2])):=((ax.refl H8).upd nb2).upd nu
   have eq:b2≠u:=fun y=>by rw[←y,ag] at nu;cases nu
   have bo:=ch.same (s8.trans s9)
   refine hR _ _ ⟨t',hd,u,{g with rs:=[]},bF F' 0 (.bl true),[0],rfl,s8.trans s9,⟨z,p,pr,vi,td,s9 _ _ b3,⟨bo.z,bo.pr,bo.vi,⟨[],s9 _ _ ci,.nil⟩,bo.td⟩⟩,⟨hg.S,hg.M,hg.m,hg.pl,hg.pp,hg.vl,hg.vv,C8 _,(fun _ h=>nomatch h),hg.tt,hg.tv⟩,s9 _ _ bd,hT.put dx,fun y hy=>?_,⟨[b2],ag,.cons ?_ .nil⟩,by simp,by simp,fun n hn=>?_,fun z' ro' pr' vi' td' h'=>?_⟩
   ·rcases iE hy with w|w
    ·exact hv y w
    ·rw[w]
   ·show upd (upd H8 b2 (.tup [.int 0,.int 0,.int 0])) u (.lst [.ref b2]) b2=some (.tup ((sN g.R g.C 0).map V.int))
    rw[dr,aj eq,ag];rfl
   ·rw[CP.mp hn]
    refine⟨dx,?_⟩
    rw[fg,if_pos rfl];rfl
   ·have e7:=(s9 _ _ (show H8 t'=some (.tup [.ref z,.ref p,.ref pr,.ref vi,.ref td]) from b3)).symm.trans h'
    simp only[Option.some.injEq,HO.tup.injEq,List.cons.injEq,V.ref.injEq,and_true] at e7
    rw[←e7.2.2.2.2]
    exact ak ch.td nhd
  ·have hz:=of_decide_eq_false hz
   refine hR _ _ ⟨t,fr,D,g,F',us,rfl,ax.refl H4,⟨z,ro,pr,vi,td,bx,ch⟩,hg,bl,hT,hv,⟨bs,a2,N⟩,by lia,by lia,M,fun z' ro' pr' vi' td' h'=>?_⟩
   have e7:=(show _=some (.tup [.ref z,.ref ro,.ref pr,.ref vi,.ref td]) from bx).symm.trans h'
   simp only[Option.some.injEq,HO.tup.injEq,List.cons.injEq,V.ref.injEq,and_true] at e7
   rw[←e7.2.2.2.2]
   exact du
 clear du J b4 ds db a2 N bl bx ch M ul a6 c3 Y hT hv few ht hG ad hg S hm nfr
 rintro σ H5 ⟨t,fr,u,g,F,us,rfl,en,ad,hg,Y,hT,hv,a6,dp,dl,M,ew⟩
 have s5:=s4.trans en
 have S:=hg.S
 have hm:=hg.m
 have few:=hT.few
 refine a_ fun Rh hRh=>?_
 refine⟨_,rfl,_,rfl,a,ns,4,rfl,s5.seq ha,by decide,fun v4=>⟨_,rfl,a,ns,6,rfl,s5.seq ha,by decide,fun v6=>⟨_,4,rfl,rfl,(by show(0:Int)<4;decide),1,_,rfl,rfl,?_⟩⟩⟩
 refine⟨u,v4,1+v6%4,g.R,g.C,us,rfl,a6,dp,dl,by lia,by lia,fun H6 so ss s6' nso hso ssl ssin=>?_⟩
 refine hRh _ _ ?_
 have s6:=s5.trans s6'
 refine a_ fun Rh hRh=>?_
 refine⟨_,rfl,_,rfl,a,ns,5,rfl,s6.seq ha,by decide,fun v5=>⟨_,rfl,a,ns,6,rfl,s6.seq ha,by decide,fun w6=>⟨_,4,rfl,rfl,uJ (by decide) (by decide),_,4,rfl,rfl,(by show(0:Int)<4;decide),1,_,rfl,rfl,?_⟩⟩⟩
 refine⟨u,v5,1+w6/4%4,g.R,g.C,us,rfl,a6.same s6',dp,dl,by lia,by lia,fun H7 go gs s7' ngo hgo gsl gsin=>?_⟩
 refine hRh _ _ ?_
 have s7:=s6.trans s7'
 have c2:=s6'.trans s7'
 have ap:=c2 _ _ Y
 have dV:=hso.same s7'
 have d3:=ad.same c2
 refine a_ fun Rh hRh=>⟨_,rfl,fr,rfl,.inr ⟨_,.inl ap,kf S hg.M hT,fun gv a4=>?_⟩⟩
 refine hRh _ _ ?_
 have j:ax H7 (upd H7 gv (.dT (aX g.R g.C F))):=(ax.refl H7).upd a4
 have av:upd H7 gv (.dT (aX g.R g.C F)) gv=some (.dT (aX g.R g.C F)):=ag
 revert j av
 generalize upd H7 gv (.dT (aX g.R g.C F))=H8
 intro j av
 have ac:=j _ _ ap
 refine vd (fun σ H'=>∃(gv:Addr) (G:List (Nat×V)) (x8:Option V),σ=[some (.ref a),some (.ref cl),some (.ref t),some (.ref fr),some (.ref u),some (.ref so),some (.ref go),some (.ref gv),x8,none,none]∧ax H7 H'∧H7 gv=none∧H' gv=some (.dT (aX g.R g.C G))∧Tb g.M G∧(∀p∈G,p.2=.bl true)∧∀n,(aR G n).isSome=(aR F n).isSome) (fun R hR=>?_) ?_
 ·refine p7 ⟨_,rfl,a,ns,7,rfl,(s7.trans j).seq ha,by decide,fun v7=>⟨_,2,rfl,rfl,(by show(0:Int)<2;decide),rfl,_,rfl,?_⟩⟩
  refine Bw (fun _=>?_) (fun _=>hR _ _ ⟨gv,F,none,rfl,j,a4,av,hT,hv,fun _=>rfl⟩)
  refine a_ fun Rh hRh=>fun gw ngw=>?_
  refine hRh _ _ ?_
  have s9:ax H8 (upd H8 gw (.dT [])):=(ax.refl H8).upd ngw
  have ba:upd H8 gw (.dT []) gw=some (.dT []):=ag
  revert s9 ba
  generalize upd H8 gw (.dT [])=H9
  intro s9 ba
  have co:H7 gw=none:=c_ j ngw
  have dK:=s9 _ _ ac
  refine⟨_,rfl,fr,.dT (aX g.R g.C F),rfl,dK,trivial,trivial,by show(aX g.R g.C F).length≤1000;rw[b_];lia,fun l ys nl hyl hys=>?_⟩
  obtain⟨ks,rfl,di⟩:=mP (by rw[hyl];exact b_) hys
  have kl:ks.length=F.length:=by rw[Paired.length di,CK,CK]
  have sA:ax H9 (upd H9 l (.lst (ks.map V.ref))):=(ax.refl H9).upd nl
  have eA:upd H9 l (.lst (ks.map V.ref)) l=some (.lst (ks.map V.ref)):=ag
  revert sA eA
  generalize upd H9 l (.lst (ks.map V.ref))=HA
  intro sA eA
  have ee:gw≠l:=ak ba nl
  refine⟨l,_,rfl,bg.of eA,?_⟩
  refine xN (K:=K) (xs:=ks.map V.ref) (fun i σ H'=>∃(G:List (Nat×V)) (x8:Option V),σ=[some (.ref a),some (.ref cl),some (.ref t),some (.ref fr),some (.ref u),some (.ref so),some (.ref go),some (.ref gw),x8,none,none]∧Sb gw HA H'∧H' gw=some (.dT (aX g.R g.C G))∧Tb g.M G∧(∀p∈G,p.2=.bl true)∧∀n,(aR G n).isSome=true↔n∈(F.map (·.1)).drop (ks.length - i))
   ⟨[],none,rfl,Sb.refl gw HA,sA _ _ ba,Tb.nil,(fun _ h=>nomatch h),fun n=>by rw[Nat.sub_zero,kl,←CK (as:=F) (f:=(·.1)),List.drop_length];simp[iW]⟩ (fun i σ H' _ ⟨_,_,_,sb,_⟩=>bg.of (sb _ _ (CQ ee) eA)) ?_ ?_
  ·rintro i x σ H' hi hx et
   refine dB fun Rg2 hRg2=>?_
   obtain⟨G,x8,rfl,sb,hG,aa,a0,r⟩:=et
   obtain⟨b,hb,rfl⟩:=cC hx
   have fa:i<ks.length:=by simpa using hi
   rw[CK] at hb
   obtain⟨c,hc,a3⟩:=cc di hb
   rw[CW] at hc
   obtain⟨n,b1,rfl⟩:=Do.mp hc
   have eu:n∈F.map (·.1):=C2 b1
   obtain⟨y,hy,ey⟩:=CU.mp eu
   have em:n<g.M:=by rw[←ey];exact hT.lt y hy
   have ep:H' b=some (.tup ((sN g.R g.C n).map V.int)):=sb _ _ (fun w=>by rw[w,ba] at a3;cases a3) (sA _ _ a3)
   have ex:=aa.few
   refine gn ?_
   refine hRg2 _ _ ?_
   refine rZ az (ae rfl) (ae rfl) (fh.t (k:=iK (sN g.R g.C n)) hG (f_ ep) (by rw[b_];lia)) ?_
   refine⟨bF G n (.bl true),_,rfl,sb.set,by rw[ag,ef S],aa.put em,fun p hp=>?_,fun m=>?_⟩
   ·rcases iE hp with w|w
    ·exact a0 p w
    ·rw[w]
   ·have ed:(F.map (·.1)).drop (ks.length - (i+1))=n::(F.map (·.1)).drop (ks.length - i):=by
     have h1:ks.length - 1 - i<(F.map (·.1)).length:=by rw[CK,←kl];lia
     have h2:(F.map (·.1))[ks.length - 1 - i]?=some n:=b1
     rw[Dd h1] at h2
     rw[show ks.length - (i+1)=ks.length - 1 - i by lia,Ft h1,Option.some.inj h2,show ks.length - 1 - i+1=ks.length - i by lia]
    rw[ed,fg,CV]
    by_cases c:m=n
    ·simp[c]
    ·rw[if_neg c,r m];simp[c]
  ·rintro σ H' ⟨G,x8,rfl,sb,hG,aa,a0,r⟩
   have bA:=(j.trans s9).trans sA
   refine hR _ _ ⟨gw,G,x8,rfl,fun b x eb=>sb b x (ak eb co) (bA _ _ eb),co,hG,aa,a0,fun n=>?_⟩
   rw[Em,r n,CK,Nat.sub_self,List.drop_zero,cb]
 clear av ac j a4
 rintro σ H8 ⟨gv,G,x8,rfl,j,a4,br,aa,a0,r⟩
 have s8:=s7.trans j
 have ac:=j _ _ ap
 have ea:gv≠fr:=CQ (ak ap a4)
 obtain⟨I,c5,bc⟩:=dV.same j
 obtain⟨C,ck,bm⟩:=hgo.same j
 refine a_ fun Rh hRh=>?_
 refine⟨_,rfl,_,rfl,so,_,rfl,.inl (bg.of c5),fun l1 nl1=>?_⟩
 have s9:ax H8 (upd H8 l1 (.lst (I.map V.ref))):=(ax.refl H8).upd nl1
 have e9:upd H8 l1 (.lst (I.map V.ref)) l1=some (.lst (I.map V.ref)):=ag
 revert s9 e9
 generalize upd H8 l1 (.lst (I.map V.ref))=H9
 intro s9 e9
 refine⟨_,rfl,go,_,rfl,.inl (bg.of (s9 _ _ ck)),fun l2 nl2=>⟨by show 3≤sizeLine;decide,fun hd nhd=>?_⟩⟩
 refine hRh _ _ ?_
 have a5:ax H9 (upd (upd H9 l2 (.lst (C.map V.ref))) hd (.lst [.ref gv,.ref l1,.ref l2])):=((ax.refl H9).upd nl2).upd nhd
 have c8:upd (upd H9 l2 (.lst (C.map V.ref))) hd (.lst [.ref gv,.ref l1,.ref l2]) hd=some (.lst [.ref gv,.ref l1,.ref l2]):=ag
 have d8:l2≠hd:=fun y=>by rw[←y,ag] at nhd;cases nhd
 have b5:upd (upd H9 l2 (.lst (C.map V.ref))) hd (.lst [.ref gv,.ref l1,.ref l2]) l2=some (.lst (C.map V.ref)):=by rw[aj d8,ag]
 revert a5 c8 b5
 generalize upd (upd H9 l2 (.lst (C.map V.ref))) hd (.lst [.ref gv,.ref l1,.ref l2])=HA
 intro a5 c8 b5
 have a1:=s9.trans a5
 have sA:=s8.trans a1
 have bA:=j.trans a1
 have c4:=d3.same bA
 refine a_ fun Rh hRh=>(pV (cH (ah (ae rfl) ay) ⟨t,g,rfl,c4,hg,fun HB p pr' vi' rd' td' sB' m1 m2 hFA=>?_⟩))
 have a9:=sB' _ _ c8
 refine bw (v:=.ref gv) (ae rfl) az (bg.of a9) rfl _ (bw (v:=.ref l1) (ae rfl) az (bg.of a9) rfl _ (bw (v:=.ref l2) (ae rfl) az (bg.of a9) rfl _ ?_))
 have sB:=sA.trans sB'
 have a8:=a1.trans sB'
 have c1:=a8 _ _ br
 have b0:HB (dR K "arcs_in").2=some (.tbl #[]):=sB _ _ ec
 refine⟨p,pr',vi',rd',td',gv,l1,l2,g,G,ss,gs,rfl,hFA,hg,c1,aa,(fun y=>by rw[←y,a1 _ _ br] at m1;cases m1),(fun y=>by rw[←y,a1 _ _ br] at m2;cases m2),b0,⟨I,(a5.trans sB') _ _ e9,aB bc fun b xs y=>a8 _ _ y⟩,by lia,fun n hn=>⟨(M n (ssin n hn)).1,by rw[r];exact(M n (ssin n hn)).2⟩,⟨C,sB' _ _ b5,aB bm fun b xs y=>a8 _ _ y⟩,by lia,fun n hn=>(M n (gsin n hn)).1,fun HC fo far back smC hSp hres=>?_⟩
 refine hRh _ _ ?_
 have keep:∀{b:Addr} {x:HO},HB b=some x→(∀ps,x≠.tbl ps)→HC b=some x:=fun{b x} eb nx=>smC b x (fun y=>by rw[y,b0] at eb;cases eb;exact nx _ rfl) eb
 have k8:∀{b:Addr} {x:HO},H8 b=some x→(∀ps,x≠.tbl ps)→HC b=some x:=fun eb nx=>keep (a8 _ _ eb) nx
 have kT:∀b xs,H8 b=some (.tup xs)→HC b=some (.tup xs):=fun b xs y=>k8 y (fun _ w=>nomatch w)
 have dT:=k8 br (fun _ y=>nomatch y)
 have cr:=k8 ac (fun _ y=>nomatch y)
 have c6:eQ HC so (ss.map (sN g.R g.C)):=⟨I,k8 c5 (fun _ y=>nomatch y),aB bc kT⟩
 have c0:eQ HC go (gs.map (sN g.R g.C)):=⟨C,k8 ck (fun _ y=>nomatch y),aB bm kT⟩
 have d4:eQ HC l1 (ss.map (sN g.R g.C)):=⟨I,keep ((a5.trans sB') _ _ e9) (fun _ y=>nomatch y),aB bc kT⟩
 have d2:eQ HC l2 (gs.map (sN g.R g.C)):=⟨C,keep (sB' _ _ b5) (fun _ y=>nomatch y),aB bm kT⟩
 have d0:=keep a9 (fun _ y=>nomatch y)
 have am:Gr HC t g∧∀z ro pr vi td,GT HC t z ro pr vi td→td≠fr:=by
  obtain⟨z,ro,pr,vi,td,ht,hG⟩:=id (c4.same sB')
  have nn:∀{b:Addr} {w:HO},HB b=some w→(∀ps,w≠.tbl ps)→b∉[(dR K "arcs_in").2]:=fun{b w} h hu m=>by
   rw[CP.mp m,b0] at h;cases h;exact hu _ rfl
  have bt:Bt [(dR K "arcs_in").2] HB HC:=fun b o nb eb=>smC b o (fun y=>nb (CP.mpr y)) eb
  obtain⟨e0,p1,_⟩:=id hG.pr
  obtain⟨ez,p2,_⟩:=id hG.ro
  refine⟨⟨z,ro,pr,vi,td,keep ht (fun _ z=>nomatch z),hG.bt bt (fun l hl xs=>by rw[CP.mp hl,b0];exact fun z=>nomatch z) (nn p1 fun _ z=>nomatch z) (nn hG.vi fun _ z=>nomatch z) (nn p2 fun _ z=>nomatch z) (nn hG.td fun _ z=>nomatch z)⟩,fun z' ro' pr' vi' td' h'=>?_⟩
  obtain⟨z3,bD,bv,ce,b9,J,b4⟩:=id ad
  have n3:=ew z3 bD bv ce b9 J
  have e6:=keep (sB' _ _ (bA _ _ (c2 _ _ J))) (fun _ z=>nomatch z)
  have e7:=e6.symm.trans h'
  simp only[Option.some.injEq,HO.tup.injEq,List.cons.injEq,V.ref.injEq,and_true] at e7
  rw[←e7.2.2.2.2]
  exact n3
 obtain⟨am,d5⟩:=am
 have ca:=hSp.congr hg r
 clear keep k8 kT hFA smC a9 c1
 obtain⟨fvs,hfo,h2f⟩:∃fvs,HC fo=some (.tup fvs)∧2≤fvs.length:=by
  rcases hres with ⟨l,u,d,k,W,top,hs,e,_⟩|⟨l,e,_⟩
  ·exact⟨_,e,by simp⟩
  ·exact⟨_,e,by simp⟩
 refine vd (fun σ H'=>σ=[some (.ref a),some (.ref cl),some (.ref t),some (.ref fr),some (.ref u),some (.ref so),some (.ref go),some (.ref gv),x8,some (.ref hd),some (.ref fo)]∧ax HC H') (fun R hR=>?_) ?_
 ·refine p7 ?_
  refine⟨_,rfl,ie (vs:=[.ref fr,.ref so,.ref go]) (ah (ae rfl) (ah (ae rfl) (ah (ae rfl) ay))) (by show 3≤sizeLine;decide) fun c nc=>?_⟩
  have sD:ax HC (upd HC c (.lst [.ref fr,.ref so,.ref go])):=(ax.refl HC).upd nc
  have eD:upd HC c (.lst [.ref fr,.ref so,.ref go]) c=some (.lst [.ref fr,.ref so,.ref go]):=ag
  revert sD eD
  generalize upd HC c (.lst [.ref fr,.ref so,.ref go])=HD
  intro sD eD
  have cd:∀{l1 l2:Addr} {cs:List T3},eQ HC l1 cs→eQ HC l2 cs→BF K HD (.ref l1) (.ref l2):=fun{l1 l2 cs} h1 h2=>by
   obtain⟨x1,f1,f2⟩:=h1.same sD
   obtain⟨x2,f3,f4⟩:=h2.same sD
   have d1:Dp K HD (.ref l1) (.list (cs.map fun c=>PyData.tuple (c.map PyData.int))):=.lst (bg.of f1) (bN.dps f2)
   exact .inr (.inr ⟨_,_,d1,.lst (bg.of f3) (bN.dps f4),nS,kS d1.lay⟩)
  refine⟨hd,c,_,_,rfl,rfl,bg.of (sD _ _ d0),bg.of eD,rfl,fun i hi=>?_,_,rfl,?_⟩
  ·match i,hi with
   |0,_=>
    refine .inr (.inl ⟨gv,fr,_,_,rfl,rfl,ea,.inl (sD _ _ dT),.inl (sD _ _ cr),sj,sj,?_,fun y hy=>?_⟩)
    ·rw[b_,b_,←CK (as:=G) (f:=(·.1)),←CK (as:=F) (f:=(·.1))]
     have dd:∀n,n∈G.map (·.1)↔n∈F.map (·.1):=fun n=>by rw[←cb,←cb,r n]
     exact Nat.le_antisymm (dA aa.nd fun n h=>(dd n).mp h) (dA hT.nd fun n h=>(dd n).mpr h)
    ·obtain⟨w,hw,rfl⟩:=CU.mp hy
     have h1:(aR F w.1).isSome=true:=by rw[←r];exact cb.mpr (DG hw)
     obtain⟨v,dm⟩:=Ey.mp h1
     have h2:v=.bl true:=hv _ (gI dm)
     refine⟨.bl true,by show aR (aX g.R g.C F) (iK (sN g.R g.C w.1))=_;rw[cJ S,dm,h2],?_⟩
     show AQ K HD w.2 (.bl true)
     rw[a0 w hw]
     exact .inl ⟨rfl,rfl⟩
   |1,_=>exact cd d4 c6
   |2,_=>exact cd d2 c0
  refine(eR (eo (pZ (cn (v:=.bl true) (ah (ae rfl) (ah az ay)) fun Q' q'=>⟨_,_,_,_,_,rfl,.ty "tuple",.tup (sD _ _ hfo),T.tt,q'⟩))) (cE (aA (aZ (cn (v:=.int (fvs.length:Nat)) (ah (ae rfl) ay) fun Q' q'=>⟨_,fvs.length,rfl,.inr ⟨_,bH.of (sD _ _ hfo),rfl⟩,q'⟩) az)) (decide_eq_false (by lia)))) _ (hU (hR _ _ ⟨rfl,sD⟩))
 rintro σ HD ⟨rfl,sD⟩
 have bf:=am.same sD
 have bb:=sD _ _ cr
 have be:=c6.same sD
 have bi:=c0.same sD
 rcases hres with ⟨l,uu,d,k,W,top,hs,e1,e2,e3,e4,e11,e5,e6,e7,e8,e9',e10⟩|⟨l,e1,e2,e3⟩
 ·-- a way
  have B:=sD _ _ e1
  have L:∀{H':Hp} {σ:St} (i:Int) (v:V),H' fo=some (.tup [.str "way",.ref l,.ref uu])→σ[10]?=some (some (.ref fo))→je [V.str "way",V.ref l,V.ref uu] i=some v→Ev (fb (jZ K) (bQ 10) (tC (.int i))) σ H' v:=fun i v x1 x2 x3=>aS (ae x2) az (bH.of x1) x3
  have ej:d≠fr:=e11 _ _ (a8 _ _ ac) (fun _ y=>nomatch y)
  have d6:∀z ro pr vi td,GT HD t z ro pr vi td→td≠fr:=fun z ro pr vi td h'=>by
   obtain⟨z3,bD,bv,ce,b9,J,_⟩:=id am
   have n3:=d5 z3 bD bv ce b9 J
   have dn:=(sD _ _ (show HC t=some (.tup [.ref z3,.ref bD,.ref bv,.ref ce,.ref b9]) from J)).symm.trans h'
   simp only[Option.some.injEq,HO.tup.injEq,List.cons.injEq,V.ref.injEq,and_true] at dn
   rw[←dn.2.2.2.2]
   exact n3
  refine gp (b:=true) (cE (jA (aA (vK (L 0 _ B rfl rfl) az rfl)) fun _=>aA (dZ (cn (v:=.int 3) (ah (ae rfl) ay) fun Q' q'=>⟨_,3,rfl,.inr ⟨_,bH.of B,rfl⟩,q'⟩) az)) (by simp)) (fun _=>?_) (fun e=>nomatch e)
  refine vd (fun σ H'=>σ=[some (.ref a),some (.ref cl),some (.ref t),some (.ref fr),some (.ref u),some (.ref so),some (.ref go),some (.ref gv),x8,some (.ref hd),some (.ref fo)]∧ax HD H') (fun R hR=>?_) ?_
  ·exact p7 (cH (ah (ae rfl) (ah (ae rfl) (ah (L 2 _ B rfl rfl) (ah (ae rfl) (ah (ae rfl) ay))))) ⟨t,fr,uu,d,so,go,g,F,hs,ss,gs,far,back,top,rfl,bf,hg,bb,hT,d6,sD _ _ e3,sD _ _ e4,ej,e5,be,bi,ca,e10,ca.nn k top e8,e9',fun HE sE=>⟨_,rfl,hU (hR _ _ ⟨rfl,sE⟩)⟩⟩)
  rintro σ HE ⟨rfl,sE⟩
  exact pq (cH (ah (ae rfl) (ah (ae rfl) (ah (L 1 _ (sE _ _ B) rfl rfl) (ah (aS (v:=.int top) (L 2 _ (sE _ _ B) rfl rfl) az (bH.of (sE _ _ (sD _ _ e3))) rfl) (ah (ae rfl) (ah (ae rfl) ay)))))) ⟨t,fr,l,so,go,g,F,ss,gs,far,back,top,k,W,rfl,bf.same sE,hg,sE _ _ bb,hT,(e2.same sD).same sE,be.same sE,bi.same sE,ca,e6,e7.congr hg r,e8,fun HF _=>q _⟩)
 ·-- a shore
  have B:=sD _ _ e1
  have L:∀{H':Hp} {σ:St} (i:Int) (v:V),H' fo=some (.tup [.str "shore",.ref l])→σ[10]?=some (some (.ref fo))→je [V.str "shore",V.ref l] i=some v→Ev (fb (jZ K) (bQ 10) (tC (.int i))) σ H' v:=fun i v x1 x2 x3=>aS (ae x2) az (bH.of x1) x3
  have dC:decide (V.str "shore" =V.str "way")=false:=by decide
  obtain⟨eH,cm,da⟩:=e2.same sD
  refine gz (b:=false) (cE (jA (b:=false) (aA (vK (L 0 _ B rfl rfl) az rfl)) fun e=>absurd (dC.symm.trans e) (by decide)) (by rw[dC];rfl)) rfl ?_
  refine gz (b:=false) (eR (aA (AB (L 0 _ B rfl rfl) az rfl)) (eR (cE (aA (eU (cn (v:=.int 2) (ah (ae rfl) ay) fun Q' q'=>⟨_,2,rfl,.inr ⟨_,bH.of B,rfl⟩,q'⟩) az)) rfl) (eo (pZ (cn (v:=.bl true) (ah (L 1 _ B rfl rfl) (ah az ay)) fun Q' q'=>⟨_,_,_,_,_,rfl,.ty "list",.lst cm,T.ll,q'⟩))))) rfl ?_
  refine pq ?_
  refine L 1 _ B rfl rfl _ (cH (ah (ae rfl) (ah (ae rfl) (ah (ae rfl) ay))) ⟨t,fr,so,g,F,ss,far,back,rfl,bf,hg,bb,hT,be,ssl,ca,fun HE l2 sE ⟨las2,hl3,hl4⟩=>?_⟩)
  have d1:Dp K HE (.ref l) (.list ((fS g.R g.C g.M fun n=>(far n).isSome).map fun c=>PyData.tuple (c.map PyData.int))):=.lst (bg.of (sE _ _ cm)) (bN.dps (aB da fun b xs y=>sE _ _ y))
  refine⟨_,_,d1,.lst (bg.of hl3) (bN.dps hl4),nS,_,rfl,?_⟩
  rw[kS d1.lay]
  refine lG ?_
  obtain⟨X,c7,c9⟩:=bi.same sE
  have ei:=sE _ _ B
  have gl:X.length=gs.length:=by rw[Paired.length c9,CK]
  refine uy (uW (K:=K) (ae rfl) (bg.of c7) fun D2 nD2=>?_)
  refine dN (K:=K) (xs:=X.map V.ref) (fun i τ H'=>∃x0:Option V,τ=[x0,some (.ref fo)]∧ax HE H'∧H' D2=some (.lst ((List.replicate i false).map V.bl)))
   ⟨none,rfl,(ax.refl HE).upd nD2,ag⟩ (fun i τ H' _ ⟨_,_,s,_⟩=>bg.of (s _ _ c7)) ?_ ?_
  ·rintro i x τ H' hx d9
   refine dB fun Rg3 hRg3=>?_
   obtain⟨x0,rfl,s,ct⟩:=d9
   obtain⟨b,hb,rfl⟩:=cC hx
   obtain⟨c,hc,a3⟩:=cc c9 hb
   rw[CW] at hc
   obtain⟨n,b1,rfl⟩:=Do.mp hc
   have hi:i<X.length:=(C7.mp hb).1
   have ev:sN g.R g.C n∉fS g.R g.C g.M fun n=>(far n).isSome:=fun y=>by
    obtain⟨m,_,h2,h3⟩:=vx y
    rw[←gj S h3,e3 n (C2 b1)] at h2
    cases h2
   have a7:Ev (fb (qh K false) (bQ 0) (fb (jZ K) (bQ 1) (tC (.int 1)))) [some (.ref b),some (.ref fo)] H' (.bl (decide (sN g.R g.C n∈fS g.R g.C g.M fun n=>(far n).isSome))):=uO (ae rfl) (aS (v:=.ref l) (ae rfl) az (bH.of (s _ _ ei)) rfl) (s _ _ a3) (bg.of (s _ _ (sE _ _ cm))) (aB da fun b xs y=>s _ _ (sE _ _ y))
   rw[decide_eq_false ev] at a7
   refine gn ?_
   refine hRg3 _ _ ?_
   dsimp only[yJ]
   rw[if_pos rfl]
   refine a7 _ ⟨_,ct,by rw[CK,EV];lia,_,rfl,bT s nD2,?_⟩
   rw[ag,List.replicate_succ',C3];rfl
  ·rintro τ H' ⟨x0,rfl,s,ct⟩
   refine⟨D2,_,rfl,bg.of ct,_,rfl,?_⟩
   rw[show(List.replicate (X.map V.ref).length false).any id=false by simp]
   exact q _
end
set_option maxHeartbeats 2000000 in
theorem all_mk {l:PySem.W.OpenLaw}(X:K.In h)(G:h.Ns mainGlobals mg)(hfa:mg "law" =some (.ref fa))
  {cFloor:Addr}
  {cHeap:Addr}
  {cMS:Addr}
  {f0:Addr} {od0 an0:Option Addr} {sl0:Array (Option Value)} {oc0 kV0 dc0 pm0 cd0 ct0:Value}
  {f1:Addr} {od1 an1:Option Addr} {sl1:Array (Option Value)} {oc1 kV1 dc1 pm1 cd1 ct1:Value}
  {f2:Addr} {od2 an2:Option Addr} {sl2:Array (Option Value)} {oc2 kV2 dc2 pm2 cd2 ct2:Value}
  {f3:Addr} {od3 an3:Option Addr} {sl3:Array (Option Value)} {oc3 kV3 dc3 pm3 cd3 ct3:Value}
  {f4:Addr} {od4 an4:Option Addr} {sl4:Array (Option Value)} {oc4 kV4 dc4 pm4 cd4 ct4:Value}
  {f5:Addr} {od5 an5:Option Addr} {sl5:Array (Option Value)} {oc5 kV5 dc5 pm5 cd5 ct5:Value}
  {f6:Addr} {od6 an6:Option Addr} {sl6:Array (Option Value)} {oc6 kV6 dc6 pm6 cd6 ct6:Value}
  {T6:Addr} {do6:Option Addr} {ds6:Array (Option Value)} {dq6:Value} {dn6:Nat}
  {f7:Addr} {od7 an7:Option Addr} {sl7:Array (Option Value)} {oc7 kV7 dc7 pm7 cd7 ct7:Value}
  {f8:Addr} {od8 an8:Option Addr} {sl8:Array (Option Value)} {oc8 kV8 dc8 pm8 cd8 ct8:Value}
  {f9:Addr} {od9 an9:Option Addr} {sl9:Array (Option Value)} {oc9 kV9 dc9 pm9 cd9 ct9:Value}
  {f10:Addr} {od10 an10:Option Addr} {sl10:Array (Option Value)} {oc10 kV10 dc10 pm10 cd10 ct10:Value}
  {f11:Addr} {od11 an11:Option Addr} {sl11:Array (Option Value)} {oc11 kV11 dc11 pm11 cd11 ct11:Value}
  {f12:Addr} {od12 an12:Option Addr} {sl12:Array (Option Value)} {oc12 kV12 dc12 pm12 cd12 ct12:Value}
  {f13:Addr} {od13 an13:Option Addr} {sl13:Array (Option Value)} {oc13 kV13 dc13 pm13 cd13 ct13:Value}
  {f14:Addr} {od14 an14:Option Addr} {sl14:Array (Option Value)} {oc14 kV14 dc14 pm14 cd14 ct14:Value}
  {f15:Addr} {od15 an15:Option Addr} {sl15:Array (Option Value)} {oc15 kV15 dc15 pm15 cd15 ct15:Value}
  {f16:Addr} {od16 an16:Option Addr} {sl16:Array (Option Value)} {oc16 kV16 dc16 pm16 cd16 ct16:Value}
  {f17:Addr} {od17 an17:Option Addr} {sl17:Array (Option Value)} {oc17 kV17 dc17 pm17 cd17 ct17:Value}
  {f18:Addr} {od18 an18:Option Addr} {sl18:Array (Option Value)} {oc18 kV18 dc18 pm18 cd18 ct18:Value}
  {f19:Addr} {od19 an19:Option Addr} {sl19:Array (Option Value)} {oc19 kV19 dc19 pm19 cd19 ct19:Value}
  {f20:Addr} {od20 an20:Option Addr} {sl20:Array (Option Value)} {oc20 kV20 dc20 pm20 cd20 ct20:Value}
  {f21:Addr} {od21 an21:Option Addr} {sl21:Array (Option Value)} {oc21 kV21 dc21 pm21 cd21 ct21:Value}
  {f22:Addr} {od22 an22:Option Addr} {sl22:Array (Option Value)} {oc22 kV22 dc22 pm22 cd22 ct22:Value}
  {f23:Addr} {od23 an23:Option Addr} {sl23:Array (Option Value)} {oc23 kV23 dc23 pm23 cd23 ct23:Value}
  {f24:Addr} {od24 an24:Option Addr} {sl24:Array (Option Value)} {oc24 kV24 dc24 pm24 cd24 ct24:Value}
  {f25:Addr} {od25 an25:Option Addr} {sl25:Array (Option Value)} {oc25 kV25 dc25 pm25 cd25 ct25:Value}
  {f26:Addr} {od26 an26:Option Addr} {sl26:Array (Option Value)} {oc26 kV26 dc26 pm26 cd26 ct26:Value}
  {f27:Addr} {od27 an27:Option Addr} {sl27:Array (Option Value)} {oc27 kV27 dc27 pm27 cd27 ct27:Value}
  {f28:Addr} {od28 an28:Option Addr} {sl28:Array (Option Value)} {oc28 kV28 dc28 pm28 cd28 ct28:Value}
  {f29:Addr} {od29 an29:Option Addr} {sl29:Array (Option Value)} {oc29 kV29 dc29 pm29 cd29 ct29:Value}
  {f30:Addr} {od30 an30:Option Addr} {sl30:Array (Option Value)} {oc30 kV30 dc30 pm30 cd30 ct30:Value}
  {f31:Addr} {od31 an31:Option Addr} {sl31:Array (Option Value)} {oc31 kV31 dc31 pm31 cd31 ct31:Value}
  {f32:Addr} {od32 an32:Option Addr} {sl32:Array (Option Value)} {oc32 kV32 dc32 pm32 cd32 ct32:Value}
  {f33:Addr} {od33 an33:Option Addr} {sl33:Array (Option Value)} {oc33 kV33 dc33 pm33 cd33 ct33:Value}
  {f34:Addr} {od34 an34:Option Addr} {sl34:Array (Option Value)} {oc34 kV34 dc34 pm34 cd34 ct34:Value}
  {f35:Addr} {od35 an35:Option Addr} {sl35:Array (Option Value)} {oc35 kV35 dc35 pm35 cd35 ct35:Value}
  {f36:Addr} {od36 an36:Option Addr} {sl36:Array (Option Value)} {oc36 kV36 dc36 pm36 cd36 ct36:Value}
  {f37:Addr} {od37 an37:Option Addr} {sl37:Array (Option Value)} {oc37 kV37 dc37 pm37 cd37 ct37:Value}
  {f38:Addr} {od38 an38:Option Addr} {sl38:Array (Option Value)} {oc38 kV38 dc38 pm38 cd38 ct38:Value}
  {tMOST_PRICE:Tok}
  {odMS:Option Addr} {slMS:Array (Option Value)} {dnMS:Nat} {tMS0:Tok} {tMS1:Tok} {tMS2:Tok}
  {dC dP:Addr}
  (n_Floor:CY K mainGlobals "Floor" =some (some (.ref cFloor)))
  (n_Heap:CY K mainGlobals "Heap" =some (some (.ref cHeap)))
  (a0:CY K mainGlobals "inside" =some (some (.ref f0)))
  (l0:K.lookup f0=some ⟨oc0,od0,.func (CT "inside" "inside" (aG gJ) (aE gJ) (au gJ) .none kV0 dc0 pm0 an0 cd0 ct0),sl0⟩)
  (c0:C1 K cd0 "inside" =true)
  (k0:CZ K (.ref f0)=true)
  (a1:CY K mainGlobals "check_sizes" =some (some (.ref f1)))
  (l1:K.lookup f1=some ⟨oc1,od1,.func (CT "check_sizes" "check_sizes" (aG gT) (aE gT) (au gT) .none kV1 dc1 pm1 an1 cd1 ct1),sl1⟩)
  (c1:C1 K cd1 "check_sizes" =true)
  (k1:CZ K (.ref f1)=true)
  (a2:CY K mainGlobals "check_price" =some (some (.ref f2)))
  (l2:K.lookup f2=some ⟨oc2,od2,.func (CT "check_price" "check_price" (aG gF) (aE gF) (au gF) .none kV2 dc2 pm2 an2 cd2 ct2),sl2⟩)
  (c2:C1 K cd2 "check_price" =true)
  (k2:CZ K (.ref f2)=true)
  (a3:CY K mainGlobals "check_prices" =some (some (.ref f3)))
  (l3:K.lookup f3=some ⟨oc3,od3,.func (CT "check_prices" "check_prices" (aG eZ) (aE eZ) (au eZ) .none kV3 dc3 pm3 an3 cd3 ct3),sl3⟩)
  (c3:C1 K cd3 "check_prices" =true)
  (k3:CZ K (.ref f3)=true)
  (a4:CY K mainGlobals "check_inside" =some (some (.ref f4)))
  (l4:K.lookup f4=some ⟨oc4,od4,.func (CT "check_inside" "check_inside" (aG eW) (aE eW) (au eW) .none kV4 dc4 pm4 an4 cd4 ct4),sl4⟩)
  (c4:C1 K cd4 "check_inside" =true)
  (k4:CZ K (.ref f4)=true)
  (a5:CY K mainGlobals "spots_round" =some (some (.ref f5)))
  (l5:K.lookup f5=some ⟨oc5,od5,.func (CT "spots_round" "spots_round" (aG jq) (aE jq) (au jq) .none kV5 dc5 pm5 an5 cd5 ct5),sl5⟩)
  (c5:C1 K cd5 "spots_round" =true)
  (k5:CZ K (.ref f5)=true)
  (a6:Dg K (.ref cFloor) "__init__" =some (some (.ref f6)))
  (i6:DP K (.ref f6)=true)
  (l6:K.lookup f6=some ⟨oc6,od6,.func (CT "__init__" "Floor.__init__" (aG df) (aE df) (au df) (.ref T6) kV6 dc6 pm6 an6 cd6 ct6),sl6⟩)
  (d6:K.lookup T6=some ⟨dq6,do6,.seq #[.none,.none] dn6,ds6⟩)
  (c6:C1 K cd6 "Floor.__init__" =true)
  (k6:CZ K (.ref f6)=true)
  (a7:Dg K (.ref cFloor) "is_rock" =some (some (.ref f7)))
  (i7:DP K (.ref f7)=true)
  (l7:K.lookup f7=some ⟨oc7,od7,.func (CT "is_rock" "Floor.is_rock" (aG gW) (aE gW) (au gW) .none kV7 dc7 pm7 an7 cd7 ct7),sl7⟩)
  (c7:C1 K cd7 "Floor.is_rock" =true)
  (k7:CZ K (.ref f7)=true)
  (a8:Dg K (.ref cFloor) "is_open" =some (some (.ref f8)))
  (i8:DP K (.ref f8)=true)
  (l8:K.lookup f8=some ⟨oc8,od8,.func (CT "is_open" "Floor.is_open" (aG gK) (aE gK) (au gK) .none kV8 dc8 pm8 an8 cd8 ct8),sl8⟩)
  (c8:C1 K cd8 "Floor.is_open" =true)
  (k8:CZ K (.ref f8)=true)
  (a9:Dg K (.ref cFloor) "priced" =some (some (.ref f9)))
  (i9:DP K (.ref f9)=true)
  (l9:K.lookup f9=some ⟨oc9,od9,.func (CT "priced" "Floor.priced" (aG gM) (aE gM) (au gM) .none kV9 dc9 pm9 an9 cd9 ct9),sl9⟩)
  (c9:C1 K cd9 "Floor.priced" =true)
  (k9:CZ K (.ref f9)=true)
  (a10:Dg K (.ref cFloor) "steps" =some (some (.ref f10)))
  (i10:DP K (.ref f10)=true)
  (l10:K.lookup f10=some ⟨oc10,od10,.func (CT "steps" "Floor.steps" (aG jh) (aE jh) (au jh) .none kV10 dc10 pm10 an10 cd10 ct10),sl10⟩)
  (c10:C1 K cd10 "Floor.steps" =true)
  (k10:CZ K (.ref f10)=true)
  (a11:CY K mainGlobals "leads_in" =some (some (.ref f11)))
  (l11:K.lookup f11=some ⟨oc11,od11,.func (CT "leads_in" "leads_in" (aG fv) (aE fv) (au fv) .none kV11 dc11 pm11 an11 cd11 ct11),sl11⟩)
  (c11:C1 K cd11 "leads_in" =true)
  (k11:CZ K (.ref f11)=true)
  (a12:CY K mainGlobals "arcs_in" =some (some (.ref f12)))
  (l12:K.lookup f12=some ⟨oc12,od12,.func (CT "arcs_in" "arcs_in" (aG fG) (aE fG) (au fG) .none kV12 dc12 pm12 an12 cd12 ct12),sl12⟩)
  (c12:C1 K cd12 "arcs_in" =true)
  (k12:CZ K (.ref f12)=true)
  (a13:Dg K (.ref cHeap) "__init__" =some (some (.ref f13)))
  (i13:DP K (.ref f13)=true)
  (l13:K.lookup f13=some ⟨oc13,od13,.func (CT "__init__" "Heap.__init__" (aG mK) (aE mK) (au mK) .none kV13 dc13 pm13 an13 cd13 ct13),sl13⟩)
  (c13:C1 K cd13 "Heap.__init__" =true)
  (k13:CZ K (.ref f13)=true)
  (a14:Dg K (.ref cHeap) "many" =some (some (.ref f14)))
  (i14:DP K (.ref f14)=true)
  (l14:K.lookup f14=some ⟨oc14,od14,.func (CT "many" "Heap.many" (aG nj) (aE nj) (au nj) .none kV14 dc14 pm14 an14 cd14 ct14),sl14⟩)
  (c14:C1 K cd14 "Heap.many" =true)
  (k14:CZ K (.ref f14)=true)
  (a15:Dg K (.ref cHeap) "add" =some (some (.ref f15)))
  (i15:DP K (.ref f15)=true)
  (l15:K.lookup f15=some ⟨oc15,od15,.func (CT "add" "Heap.add" (aG uf) (aE uf) (au uf) .none kV15 dc15 pm15 an15 cd15 ct15),sl15⟩)
  (c15:C1 K cd15 "Heap.add" =true)
  (k15:CZ K (.ref f15)=true)
  (a16:Dg K (.ref cHeap) "sink" =some (some (.ref f16)))
  (i16:DP K (.ref f16)=true)
  (l16:K.lookup f16=some ⟨oc16,od16,.func (CT "sink" "Heap.sink" (aG nq) (aE nq) (au nq) .none kV16 dc16 pm16 an16 cd16 ct16),sl16⟩)
  (c16:C1 K cd16 "Heap.sink" =true)
  (k16:CZ K (.ref f16)=true)
  (a17:Dg K (.ref cHeap) "take" =some (some (.ref f17)))
  (i17:DP K (.ref f17)=true)
  (l17:K.lookup f17=some ⟨oc17,od17,.func (CT "take" "Heap.take" (aG mF) (aE mF) (au mF) .none kV17 dc17 pm17 an17 cd17 ct17),sl17⟩)
  (c17:C1 K cd17 "Heap.take" =true)
  (k17:CZ K (.ref f17)=true)
  (a18:CY K mainGlobals "spread" =some (some (.ref f18)))
  (l18:K.lookup f18=some ⟨oc18,od18,.func (CT "spread" "spread" (aG gH) (aE gH) (au gH) .none kV18 dc18 pm18 an18 cd18 ct18),sl18⟩)
  (c18:C1 K cd18 "spread" =true)
  (k18:CZ K (.ref f18)=true)
  (a19:CY K mainGlobals "way_back" =some (some (.ref f19)))
  (l19:K.lookup f19=some ⟨oc19,od19,.func (CT "way_back" "way_back" (aG tW) (aE tW) (au tW) .none kV19 dc19 pm19 an19 cd19 ct19),sl19⟩)
  (c19:C1 K cd19 "way_back" =true)
  (k19:CZ K (.ref f19)=true)
  (a20:CY K mainGlobals "cheapest" =some (some (.ref f20)))
  (l20:K.lookup f20=some ⟨oc20,od20,.func (CT "cheapest" "cheapest" (aG jm) (aE jm) (au jm) .none kV20 dc20 pm20 an20 cd20 ct20),sl20⟩)
  (c20:C1 K cd20 "cheapest" =true)
  (k20:CZ K (.ref f20)=true)
  (a21:CY K mainGlobals "_law_cell_at" =some (some (.ref f21)))
  (l21:K.lookup f21=some ⟨oc21,od21,.func (CT "_law_cell_at" "_law_cell_at" (aG mQ) (aE mQ) (au mQ) .none kV21 dc21 pm21 an21 cd21 ct21),sl21⟩)
  (c21:C1 K cd21 "_law_cell_at" =true)
  (k21:CZ K (.ref f21)=true)
  (a22:CY K mainGlobals "_law_folded" =some (some (.ref f22)))
  (l22:K.lookup f22=some ⟨oc22,od22,.func (CT "_law_folded" "_law_folded" (aG gO) (aE gO) (au gO) .none kV22 dc22 pm22 an22 cd22 ct22),sl22⟩)
  (c22:C1 K cd22 "_law_folded" =true)
  (k22:CZ K (.ref f22)=true)
  (a23:CY K mainGlobals "_law_sizes" =some (some (.ref f23)))
  (l23:K.lookup f23=some ⟨oc23,od23,.func (CT "_law_sizes" "_law_sizes" (aG jv) (aE jv) (au jv) .none kV23 dc23 pm23 an23 cd23 ct23),sl23⟩)
  (c23:C1 K cd23 "_law_sizes" =true)
  (k23:CZ K (.ref f23)=true)
  (a24:CY K mainGlobals "_law_price" =some (some (.ref f24)))
  (l24:K.lookup f24=some ⟨oc24,od24,.func (CT "_law_price" "_law_price" (aG jt) (aE jt) (au jt) .none kV24 dc24 pm24 an24 cd24 ct24),sl24⟩)
  (c24:C1 K cd24 "_law_price" =true)
  (k24:CZ K (.ref f24)=true)
  (a25:CY K mainGlobals "_law_spots" =some (some (.ref f25)))
  (l25:K.lookup f25=some ⟨oc25,od25,.func (CT "_law_spots" "_law_spots" (aG jG) (aE jG) (au jG) .none kV25 dc25 pm25 an25 cd25 ct25),sl25⟩)
  (c25:C1 K cd25 "_law_spots" =true)
  (k25:CZ K (.ref f25)=true)
  (a26:CY K mainGlobals "_law_ground" =some (some (.ref f26)))
  (l26:K.lookup f26=some ⟨oc26,od26,.func (CT "_law_ground" "_law_ground" (aG gE) (aE gE) (au gE) .none kV26 dc26 pm26 an26 cd26 ct26),sl26⟩)
  (c26:C1 K cd26 "_law_ground" =true)
  (k26:CZ K (.ref f26)=true)
  (a27:CY K mainGlobals "_law_floor" =some (some (.ref f27)))
  (l27:K.lookup f27=some ⟨oc27,od27,.func (CT "_law_floor" "_law_floor" (aG gR) (aE gR) (au gR) .none kV27 dc27 pm27 an27 cd27 ct27),sl27⟩)
  (c27:C1 K cd27 "_law_floor" =true)
  (k27:CZ K (.ref f27)=true)
  (a28:CY K mainGlobals "_law_free" =some (some (.ref f28)))
  (l28:K.lookup f28=some ⟨oc28,od28,.func (CT "_law_free" "_law_free" (aG ny) (aE ny) (au ny) .none kV28 dc28 pm28 an28 cd28 ct28),sl28⟩)
  (c28:C1 K cd28 "_law_free" =true)
  (k28:CZ K (.ref f28)=true)
  (a29:CY K mainGlobals "_law_near" =some (some (.ref f29)))
  (l29:K.lookup f29=some ⟨oc29,od29,.func (CT "_law_near" "_law_near" (aG nO) (aE nO) (au nO) .none kV29 dc29 pm29 an29 cd29 ct29),sl29⟩)
  (c29:C1 K cd29 "_law_near" =true)
  (k29:CZ K (.ref f29)=true)
  (a30:CY K mainGlobals "_law_step_price" =some (some (.ref f30)))
  (l30:K.lookup f30=some ⟨oc30,od30,.func (CT "_law_step_price" "_law_step_price" (aG gU) (aE gU) (au gU) .none kV30 dc30 pm30 an30 cd30 ct30),sl30⟩)
  (c30:C1 K cd30 "_law_step_price" =true)
  (k30:CZ K (.ref f30)=true)
  (a31:CY K mainGlobals "_law_arcs" =some (some (.ref f31)))
  (l31:K.lookup f31=some ⟨oc31,od31,.func (CT "_law_arcs" "_law_arcs" (aG mE) (aE mE) (au mE) .none kV31 dc31 pm31 an31 cd31 ct31),sl31⟩)
  (c31:C1 K cd31 "_law_arcs" =true)
  (k31:CZ K (.ref f31)=true)
  (a32:CY K mainGlobals "_law_some" =some (some (.ref f32)))
  (l32:K.lookup f32=some ⟨oc32,od32,.func (CT "_law_some" "_law_some" (aG m9) (aE m9) (au m9) .none kV32 dc32 pm32 an32 cd32 ct32),sl32⟩)
  (c32:C1 K cd32 "_law_some" =true)
  (k32:CZ K (.ref f32)=true)
  (a33:CY K mainGlobals "_law_number" =some (some (.ref f33)))
  (l33:K.lookup f33=some ⟨oc33,od33,.func (CT "_law_number" "_law_number" (aG gZ) (aE gZ) (au gZ) .none kV33 dc33 pm33 an33 cd33 ct33),sl33⟩)
  (c33:C1 K cd33 "_law_number" =true)
  (k33:CZ K (.ref f33)=true)
  (a34:CY K mainGlobals "_law_height" =some (some (.ref f34)))
  (l34:K.lookup f34=some ⟨oc34,od34,.func (CT "_law_height" "_law_height" (aG fj) (aE fj) (au fj) .none kV34 dc34 pm34 an34 cd34 ct34),sl34⟩)
  (c34:C1 K cd34 "_law_height" =true)
  (k34:CZ K (.ref f34)=true)
  (a35:CY K mainGlobals "_law_hill_fine" =some (some (.ref f35)))
  (l35:K.lookup f35=some ⟨oc35,od35,.func (CT "_law_hill_fine" "_law_hill_fine" (aG jB) (aE jB) (au jB) .none kV35 dc35 pm35 an35 cd35 ct35),sl35⟩)
  (c35:C1 K cd35 "_law_hill_fine" =true)
  (k35:CZ K (.ref f35)=true)
  (a36:CY K mainGlobals "_law_way_fine" =some (some (.ref f36)))
  (l36:K.lookup f36=some ⟨oc36,od36,.func (CT "_law_way_fine" "_law_way_fine" (aG nC) (aE nC) (au nC) .none kV36 dc36 pm36 an36 cd36 ct36),sl36⟩)
  (c36:C1 K cd36 "_law_way_fine" =true)
  (k36:CZ K (.ref f36)=true)
  (a37:CY K mainGlobals "_law_shore" =some (some (.ref f37)))
  (l37:K.lookup f37=some ⟨oc37,od37,.func (CT "_law_shore" "_law_shore" (aG jb) (aE jb) (au jb) .none kV37 dc37 pm37 an37 cd37 ct37),sl37⟩)
  (c37:C1 K cd37 "_law_shore" =true)
  (k37:CZ K (.ref f37)=true)
  (a38:CY K mainGlobals "law" =some (some (.ref f38)))
  (l38:K.lookup f38=some ⟨oc38,od38,.func (CT "law" "law" (aG ly) (aE ly) (au ly) .none kV38 dc38 pm38 an38 cd38 ct38),sl38⟩)
  (c38:C1 K cd38 "law" =true)
  (k38:CZ K (.ref f38)=true)
  (pg_Floor:EU K cFloor Str.empty=true)
  (hd_Floor:Fb K cFloor=true)
  (po_Floor:FB K cFloor=true)
  (sa_Floor:Dg K (.ref cFloor) "__setattr__" =some (some (.builtin "object.__setattr__")))
  (mk_Floor:PySem.W.makesIn K cFloor=true)
  (kc_Floor:CZ K (.ref cFloor)=true)
  (na_Floor_sizes:Dg K (.ref cFloor) "sizes" =some none)
  (na_Floor_prices:Dg K (.ref cFloor) "prices" =some none)
  (na_Floor_vias:Dg K (.ref cFloor) "vias" =some none)
  (na_Floor_rocks:Dg K (.ref cFloor) "rocks" =some none)
  (na_Floor_tolls:Dg K (.ref cFloor) "tolls" =some none)
  (pg_Heap:EU K cHeap Str.empty=true)
  (hd_Heap:Fb K cHeap=true)
  (po_Heap:FB K cHeap=true)
  (sa_Heap:Dg K (.ref cHeap) "__setattr__" =some (some (.builtin "object.__setattr__")))
  (mk_Heap:PySem.W.makesIn K cHeap=true)
  (kc_Heap:CZ K (.ref cHeap)=true)
  (na_Heap_pairs:Dg K (.ref cHeap) "pairs" =some none)
  (z_len:CY K mainGlobals "len" =some none)
  (z_range:CY K mainGlobals "range" =some none)
  (z_isinstance:CY K mainGlobals "isinstance" =some none)
  (z_int:CY K mainGlobals "int" =some none)
  (z_bool:CY K mainGlobals "bool" =some none)
  (z_tuple:CY K mainGlobals "tuple" =some none)
  (z_list:CY K mainGlobals "list" =some none)
  (z_dict:CY K mainGlobals "dict" =some none)
  (z_sorted:CY K mainGlobals "sorted" =some none)
  (z_zip:CY K mainGlobals "zip" =some none)
  (z_min:CY K mainGlobals "min" =some none)
  (z_max:CY K mainGlobals "max" =some none)
  (z_abs:CY K mainGlobals "abs" =some none)
  (z_sum:CY K mainGlobals "sum" =some none)
  (z_reversed:CY K mainGlobals "reversed" =some none)
  (z_any:CY K mainGlobals "any" =some none)
  (q_MOST_PRICE:CY K mainGlobals "MOST_PRICE" =some (some (.int 1000000000000 tMOST_PRICE)))
  (q_MOST_SIZES:CY K mainGlobals "MOST_SIZES" =some (some (.ref cMS)))
  (qt_MOST_SIZES:K.lookup cMS=some ⟨.type "tuple",odMS,.seq #[.int 4 tMS0,.int 16 tMS1,.int 16 tMS2] dnMS,slMS⟩)
  (ii:DT K (.type "int") (.type "int")=some true)
  (ib:DT K (.type "int") (.type "bool")=some false)
  (ll:DT K (.type "list") (.type "list")=some true)
  (tt:DT K (.type "tuple") (.type "tuple")=some true)
  (dd:DT K (.type "dict") (.type "dict")=some true)
  (ub:Fp K "arcs_in" =some (dC,dP))
  (uc:cd12=.ref dC)
  (uh:Fq K dC dP=true)
  :∃fd:FuncData,(∀(s:Shared) (v:Value),BindsTo s fd ⟨[v],[]⟩ [("script",v)])∧∀base:Heap,K.In base→base.Ns mainGlobals mg→base.BuiltinsAt mg (dR K "arcs_in").2→mainGlobals≠(dR K "arcs_in").2→bJ l.prog w K mg base dw 8 fa fd ["script"] (sF K):=by
 have e:=hfa.symm.trans (C9 X G a38)
 cases e
 have T:eV K mg cFloor cHeap cMS:=⟨DI X G z_len,DI X G z_range,DI X G z_isinstance,DI X G z_int,DI X G z_bool,DI X G z_tuple,DI X G z_list,DI X G z_dict,DI X G z_sorted,DI X G z_zip,DI X G z_min,DI X G z_max,DI X G z_abs,DI X G z_sum,DI X G z_reversed,DI X G z_any,⟨pg_Floor,hd_Floor,po_Floor,sa_Floor⟩,C9 X G n_Floor,na_Floor_sizes,na_Floor_prices,na_Floor_vias,na_Floor_rocks,na_Floor_tolls,⟨pg_Heap,hd_Heap,po_Heap,sa_Heap⟩,C9 X G n_Heap,na_Heap_pairs,⟨_,C9 X G q_MOST_PRICE,⟨_,rfl⟩⟩,⟨_,C9 X G q_MOST_SIZES,rfl⟩,fun _=> .inr ⟨_,_,_,qt_MOST_SIZES,rfl,rfl,(by show 3≤sizeLine;decide),(.cons ⟨_,rfl⟩ (.cons ⟨_,rfl⟩ (.cons ⟨_,rfl⟩ .nil)))⟩,ii,ib,ll,tt,dd⟩
 have F0:=bq (st:=gJ) l0 c0 k0
 have b0:=rL (p0:= "sizes") (p1:= "spot") F0 fun _ _ _ _ _ _ _ _=>rfl
 have F1:=bq (st:=gT) l1 c1 k1
 have b1:=wY (p0:= "sizes") (p1:= "prices") (p2:= "vias") F1 fun _ _ _ _ _ _ _ _ _=>rfl
 have F2:=bq (st:=gF) l2 c2 k2
 have b2:=rL (p0:= "price") (p1:= "least") F2 fun _ _ _ _ _ _ _ _=>rfl
 have F3:=bq (st:=eZ) l3 c3 k3
 have b3:=wY (p0:= "prices") (p1:= "vias") (p2:= "tolls") F3 fun _ _ _ _ _ _ _ _ _=>rfl
 have F4:=bq (st:=eW) l4 c4 k4
 have b4:=rL (p0:= "sizes") (p1:= "spot") F4 fun _ _ _ _ _ _ _ _=>rfl
 have F5:=bq (st:=jq) l5 c5 k5
 have b5:=wZ (p0:= "spot") F5 fun _ _ _ _ _ _ _=>rfl
 have F6:=yW (st:=df) l6 c6
 have W:cI K (CT "__init__" "Floor.__init__" (aG df) (aE df) (au df) (.ref T6) kV6 dc6 pm6 an6 cd6 ct6) ["self", "sizes", "prices", "vias", "rocks", "tolls"] ([]:List Value):=qN rfl d6 6 rfl fun us hl=>(by obtain⟨_,_,_,_,_,_,rfl⟩:=Ci (us:=us) hl;exact⟨_,rfl,rfl⟩)
 have U:cI K (CT "__init__" "Floor.__init__" (aG df) (aE df) (au df) (.ref T6) kV6 dc6 pm6 an6 cd6 ct6) ["self", "sizes", "prices", "vias", "rocks", "tolls"] ([Value.none]:List Value):=qN rfl d6 5 rfl fun us hl=>(by obtain⟨_,_,_,_,_,rfl⟩:=B8 (us:=us) hl;exact⟨_,rfl,rfl⟩)
 have ac:cI K (CT "__init__" "Floor.__init__" (aG df) (aE df) (au df) (.ref T6) kV6 dc6 pm6 an6 cd6 ct6) ["self", "sizes", "prices", "vias", "rocks", "tolls"] ([Value.none,Value.none]:List Value):=qN rfl d6 4 rfl fun us hl=>(by obtain⟨_,_,_,_,rfl⟩:=B6 (us:=us) hl;exact⟨_,rfl,rfl⟩)
 have F7:=bq (st:=gW) l7 c7 k7
 have b7:=rL (p0:= "self") (p1:= "spot") F7 fun _ _ _ _ _ _ _ _=>rfl
 have F8:=bq (st:=gK) l8 c8 k8
 have b8:=rL (p0:= "self") (p1:= "spot") F8 fun _ _ _ _ _ _ _ _=>rfl
 have F9:=bq (st:=gM) l9 c9 k9
 have b9:=wY (p0:= "self") (p1:= "one") (p2:= "two") F9 fun _ _ _ _ _ _ _ _ _=>rfl
 have F10:=bq (st:=jh) l10 c10 k10
 have bc:=rL (p0:= "self") (p1:= "spot") F10 fun _ _ _ _ _ _ _ _=>rfl
 have F11:=bq (st:=fv) l11 c11 k11
 have bb:=rL (p0:= "floor") (p1:= "free") F11 fun _ _ _ _ _ _ _ _=>rfl
 have F12:=bq (st:=fG) l12 c12 k12
 have bu:=rL (p0:= "floor") (p1:= "free") F12 fun _ _ _ _ _ _ _ _=>rfl
 have F13:=bq (st:=mK) l13 c13 k13
 have bA:=wZ (p0:= "self") F13 fun _ _ _ _ _ _ _=>rfl
 have F14:=bq (st:=nj) l14 c14 k14
 have bn:=wZ (p0:= "self") F14 fun _ _ _ _ _ _ _=>rfl
 have F15:=bq (st:=uf) l15 c15 k15
 have an:=wY (p0:= "self") (p1:= "price") (p2:= "mark") F15 fun _ _ _ _ _ _ _ _ _=>rfl
 have F16:=bq (st:=nq) l16 c16 k16
 have cd:=rL (p0:= "self") (p1:= "pair") F16 fun _ _ _ _ _ _ _ _=>rfl
 have F17:=bq (st:=mF) l17 c17 k17
 have al:=wZ (p0:= "self") F17 fun _ _ _ _ _ _ _=>rfl
 have F18:=bq (st:=gH) l18 c18 k18
 have bm:=rL (p0:= "arcs") (p1:= "starts") F18 fun _ _ _ _ _ _ _ _=>rfl
 have F19:=bq (st:=tW) l19 c19 k19
 have ca:=rL (p0:= "back") (p1:= "mark") F19 fun _ _ _ _ _ _ _ _=>rfl
 have F20:=bq (st:=jm) l20 c20 k20
 have ap:=Cw (p0:= "floor") (p1:= "free") (p2:= "starts") (p3:= "goals") F20 fun _ _ _ _ _ _ _ _ _ _=>rfl
 have F21:=bq (st:=mQ) l21 c21 k21
 have ce:=rL (p0:= "script") (p1:= "k") F21 fun _ _ _ _ _ _ _ _=>rfl
 have F22:=bq (st:=gO) l22 c22 k22
 have ar:=wY (p0:= "script") (p1:= "behind") (p2:= "many") F22 fun _ _ _ _ _ _ _ _ _=>rfl
 have F23:=bq (st:=jv) l23 c23 k23
 have af:=wZ (p0:= "cell") F23 fun _ _ _ _ _ _ _=>rfl
 have F24:=bq (st:=jt) l24 c24 k24
 have bd:=rL (p0:= "cell") (p1:= "tight") F24 fun _ _ _ _ _ _ _ _=>rfl
 have F25:=bq (st:=jG) l25 c25 k25
 have be:=wZ (p0:= "sizes") F25 fun _ _ _ _ _ _ _=>rfl
 have F26:=bq (st:=gE) l26 c26 k26
 have bx:=wY (p0:= "script") (p1:= "cells") (p2:= "tight") F26 fun _ _ _ _ _ _ _ _ _=>rfl
 have F27:=bq (st:=gR) l27 c27 k27
 have av:=wZ (p0:= "ground") F27 fun _ _ _ _ _ _ _=>rfl
 have F28:=bq (st:=ny) l28 c28 k28
 have bi:=wY (p0:= "ground") (p1:= "cells") (p2:= "way") F28 fun _ _ _ _ _ _ _ _ _=>rfl
 have F29:=bq (st:=nO) l29 c29 k29
 have bf:=rL (p0:= "ground") (p1:= "one") F29 fun _ _ _ _ _ _ _ _=>rfl
 have F30:=bq (st:=gU) l30 c30 k30
 have ba:=wY (p0:= "ground") (p1:= "one") (p2:= "two") F30 fun _ _ _ _ _ _ _ _ _=>rfl
 have F31:=bq (st:=mE) l31 c31 k31
 have bv:=wY (p0:= "ground") (p1:= "free") (p2:= "one") F31 fun _ _ _ _ _ _ _ _ _=>rfl
 have F32:=bq (st:=m9) l32 c32 k32
 have b6:=wY (p0:= "usable") (p1:= "cell") (p2:= "many") F32 fun _ _ _ _ _ _ _ _ _=>rfl
 have F33:=bq (st:=gZ) l33 c33 k33
 have br:=wZ (p0:= "found") F33 fun _ _ _ _ _ _ _=>rfl
 have F34:=bq (st:=fj) l34 c34 k34
 have bl:=rL (p0:= "hill") (p1:= "spot") F34 fun _ _ _ _ _ _ _ _=>rfl
 have F35:=bq (st:=jB) l35 c35 k35
 have am:=Cy (p0:= "ground") (p1:= "free") (p2:= "hill") (p3:= "starts") (p4:= "goals") F35 fun _ _ _ _ _ _ _ _ _ _ _=>rfl
 have F36:=bq (st:=nC) l36 c36 k36
 have bo:=Cz (p0:= "ground") (p1:= "free") (p2:= "way") (p3:= "price") (p4:= "starts") (p5:= "goals") F36 fun _ _ _ _ _ _ _ _ _ _ _ _=>rfl
 have F37:=bq (st:=jb) l37 c37 k37
 have bD:=wY (p0:= "ground") (p1:= "free") (p2:= "starts") F37 fun _ _ _ _ _ _ _ _ _=>rfl
 have F38:=bq (st:=ly) l38 c38 k38
 refine⟨CT "law" "law" (aG ly) (aE ly) (au ly) .none kV38 dc38 pm38 an38 cd38 ct38,fun s v=> .of_eq rfl,fun base hB _ hBA2 hgP2=>?_⟩
 have e1:dR K "arcs_in" =(dC,dP):=by unfold dR;rw[ub];rfl
 have aa:cd12=.ref (dR K "arcs_in").1:=by rw[e1];exact uc
 have ad:Fq K (dR K "arcs_in").1 (dR K "arcs_in").2=true:=by rw[e1];exact uh
 have b:aJ l.prog w K mg base "inside" 1 ["sizes", "spot"] iY:=⟨f0,_,uo F0 T,C9 X G a0,k0,b0⟩
 have m:aJ l.prog w K mg base "check_sizes" 1 ["sizes", "prices", "vias"] lZ:=⟨f1,_,ua F1 hB T,C9 X G a1,k1,b1⟩
 have x:aJ l.prog w K mg base "check_price" 1 ["price", "least"] lz:=⟨f2,_,tO F2 hB T,C9 X G a2,k2,b2⟩
 have g:aJ l.prog w K mg base "check_prices" 2 ["prices", "vias", "tolls"] jr:=⟨f3,_,rP F3 T x,C9 X G a3,k3,b3⟩
 have a:aJ l.prog w K mg base "check_inside" 2 ["sizes", "spot"] gX:=⟨f4,_,rq F4 hB T b,C9 X G a4,k4,b4⟩
 have I:aJ l.prog w K mg base "spots_round" 1 ["spot"] ou:=⟨f5,_,wA F5 T,C9 X G a5,k5,b5⟩
 have E:lx l.prog w K mg base cFloor "Floor" 3 ["self", "sizes", "prices", "vias", "rocks", "tolls"] (oH cFloor):=⟨f6,_,vF F6 T m g a,⟨mk_Floor,a6,i6,kc_Floor⟩,C9 X G n_Floor,W,U,ac⟩
 have o:cj l.prog w K mg base cFloor "is_rock" 3 ["self", "spot"] (kz cFloor):=⟨f7,_,tV F7 T a,⟨a7,i7,k7⟩,b7⟩
 have y:cj l.prog w K mg base cFloor "is_open" 2 ["self", "spot"] (kM cFloor):=⟨f8,_,uG F8 T b,⟨a8,i8,k8⟩,b8⟩
 have A:cj l.prog w K mg base cFloor "priced" 1 ["self", "one", "two"] (lO cFloor):=⟨f9,_,uB F9 T,⟨a9,i9,k9⟩,b9⟩
 have J:cj l.prog w K mg base cFloor "steps" 4 ["self", "spot"] (n_ cFloor):=⟨f10,_,wR F10 T I o y A,⟨a10,i10,k10⟩,bc⟩
 have f:aJ l.prog w K mg base "leads_in" 5 ["floor", "free"] (jo cFloor):=⟨f11,_,rF F11 T J,C9 X G a11,k11,bb⟩
 have p:aJ l.prog w K mg base "arcs_in" 6 ["floor", "free"] (kQ K mg cFloor):=⟨f12,_,ug F12 T aa ad hBA2 hgP2 f,C9 X G a12,k12,bu⟩
 have R:ot l.prog w K mg base cHeap "Heap" 1 ["self"] (rA cHeap):=⟨f13,_,zc F13 T,⟨mk_Heap,a13,i13,kc_Heap⟩,C9 X G n_Heap,bA⟩
 have S:cj l.prog w K mg base cHeap "many" 1 ["self"] (oE cHeap):=⟨f14,_,yv F14 T,⟨a14,i14,k14⟩,bn⟩
 have Z:cj l.prog w K mg base cHeap "add" 1 ["self", "price", "mark"] (pR cHeap):=⟨f15,_,zt F15 T,⟨a15,i15,k15⟩,an⟩
 have L:cj l.prog w K mg base cHeap "sink" 1 ["self", "pair"] (rg cHeap):=⟨f16,_,xu F16 T,⟨a16,i16,k16⟩,cd⟩
 have Q:cj l.prog w K mg base cHeap "take" 2 ["self"] (qT cHeap):=⟨f17,_,xf F17 hB T L,⟨a17,i17,k17⟩,al⟩
 have u:aJ l.prog w K mg base "spread" 3 ["arcs", "starts"] (lC mg):=⟨f18,_,tN F18 T R S Z Q,C9 X G a18,k18,bm⟩
 have Y:aJ l.prog w K mg base "way_back" 1 ["back", "mark"] wa:=⟨f19,_,Ap F19 T,C9 X G a19,k19,ca⟩
 have D:aJ l.prog w K mg base "cheapest" 7 ["floor", "free", "starts", "goals"] (nX K cFloor):=⟨f20,_,uU F20 T p u Y,C9 X G a20,k20,ap⟩
 have j:aJ l.prog w K mg base "_law_cell_at" 1 ["script", "k"] (og K):=⟨f21,_,xg F21 T,C9 X G a21,k21,ce⟩
 have k:aJ l.prog w K mg base "_law_folded" 1 ["script", "behind", "many"] (lF K):=⟨f22,_,uA F22 T,C9 X G a22,k22,ar⟩
 have C:aJ l.prog w K mg base "_law_sizes" 1 ["cell"] oS:=⟨f23,_,vT F23 T,C9 X G a23,k23,af⟩
 have H:aJ l.prog w K mg base "_law_price" 1 ["cell", "tight"] oX:=⟨f24,_,vS F24 T,C9 X G a24,k24,bd⟩
 have d:aJ l.prog w K mg base "_law_spots" 1 ["sizes"] kr:=⟨f25,_,vk F25 T,C9 X G a25,k25,be⟩
 have z:aJ l.prog w K mg base "_law_ground" 2 ["script", "cells", "tight"] (lj K):=⟨f26,_,uw F26 T j C H d,C9 X G a26,k26,bx⟩
 have q:aJ l.prog w K mg base "_law_floor" 5 ["ground"] (kG cFloor):=⟨f27,_,tS F27 T E,C9 X G a27,k27,av⟩
 have M:aJ l.prog w K mg base "_law_free" 2 ["ground", "cells", "way"] (rB K):=⟨f28,_,yi F28 T d,C9 X G a28,k28,bi⟩
 have N:aJ l.prog w K mg base "_law_near" 1 ["ground", "one"] rf:=⟨f29,_,yI F29 T,C9 X G a29,k29,bf⟩
 have r:aJ l.prog w K mg base "_law_step_price" 1 ["ground", "one", "two"] lM:=⟨f30,_,tI F30 T,C9 X G a30,k30,ba⟩
 have c:aJ l.prog w K mg base "_law_arcs" 2 ["ground", "free", "one"] k_:=⟨f31,_,yV F31 T N r,C9 X G a31,k31,bv⟩
 have O:aJ l.prog w K mg base "_law_some" 1 ["usable", "cell", "many"] qF:=⟨f32,_,xr F32 T,C9 X G a32,k32,b6⟩
 have n:aJ l.prog w K mg base "_law_number" 1 ["found"] jd:=⟨f33,_,tG F33 T,C9 X G a33,k33,br⟩
 have i:aJ l.prog w K mg base "_law_height" 1 ["hill", "spot"] ju:=⟨f34,_,rN F34 T,C9 X G a34,k34,bl⟩
 have B:aJ l.prog w K mg base "_law_hill_fine" 3 ["ground", "free", "hill", "starts", "goals"] oN:=⟨f35,_,vf F35 T c n i,C9 X G a35,k35,am⟩
 have P:aJ l.prog w K mg base "_law_way_fine" 3 ["ground", "free", "way", "price", "starts", "goals"] q_:=⟨f36,_,yR F36 T c,C9 X G a36,k36,bo⟩
 have F:aJ l.prog w K mg base "_law_shore" 3 ["ground", "free", "starts"] oy:=⟨f37,_,wy F37 T c,C9 X G a37,k37,bD⟩
 exact zR F38 T D j k z q M O B P F
theorem walk {l:PySem.W.OpenLaw}{XP:(Str→Option Value)→Heap→Prop}{YP:World→Heap→Prop}{d:DefRec}{K:Params→CJ}(hn:l.most=some 63)(hdf:d.params.defaults=[])
  (hY:∀(w:World) (h:Heap),YP w h→(K w.params).In h) (hrec:∃e,(PyProof.Rows.recsOf q).find? (fun e=>e.name==("arcs_in" :Str))=some e) (hT:∀w:World,∃c P,Fp (K w.params) "arcs_in" =some (c,P)∧(K w.params).lookup P=none)
  (F:∀(w:World) (mg:Str→Option Value) (fa:Addr) (h:Heap),(K w.params).In h→h.Ns mainGlobals mg→mg d.name=some (.ref fa)→
   ∃fd:FuncData,(∀(s:Shared) (u:Value),BindsTo s fd ⟨[u],[]⟩ [("script",u)])∧∀base:Heap,(K w.params).In base→base.Ns mainGlobals mg→base.BuiltinsAt mg (dR (K w.params) "arcs_in").2→mainGlobals≠(dR (K w.params) "arcs_in").2→bJ l.prog w (K w.params) mg base dw 8 fa fd ["script"] (sF (K w.params))):
  PySem.W.WalkO q loose XP YP l.row.toRowW d [] (fun f vs=>PySem.call f vs):=by
 have e0:∀w:World,Fp (K w.params) "arcs_in" =some (dR (K w.params) "arcs_in")∧(K w.params).lookup (dR (K w.params) "arcs_in").2=none:=fun w=>by
  obtain⟨c,P,h1,h2⟩:=hT w
  unfold dR
  rw[h1]
  exact⟨rfl,h2⟩
 refine L2.walk_ofT (n:=63) (k:=8) (x:= "script") (xs:=["arcs_in"]) (CX:=fun _=>dw) (sp:=fun w=>sF (K w.params)) hn (by decide) hdf ⟨rfl,by decide,by decide,rfl⟩ hY (fun w=>[dR (K w.params) "arcs_in"]) (fun y hy=>?_) (fun w t ht=>?_) (fun w mg fa h KX G hmg=>?_) (fun w H a ns hl _ hT hS=>⟨a,ns,rfl,hS,hl,hT _ (CP.mpr rfl),fun _=>rfl⟩) fun _ _ _ _ _ z=>z
 ·rw[CP.mp hy];exact hrec
 ·rw[CP.mp ht];exact⟨⟨_,CP.mpr rfl,(e0 w).1⟩,(e0 w).2⟩
 ·obtain⟨fd,h1,h2⟩:=F w mg fa h KX G hmg
  exact⟨fd,h1,fun base hB hN hBM=>h2 base hB hN (hBM _ (CP.mpr rfl)).1 (hBM _ (CP.mpr rfl)).2⟩
end K25

end
/-! these names are taken, so that the head lays no second forms of the greatest of its objects -/
def PySem.W.Fast.tw9453096353063205187 : Unit := ()
def PySem.W.Fast.tw3980926727971015431 : Unit := ()
def PySem.W.Fast.tw12696763491028297290 : Unit := ()
def PySem.W.Fast.tw18236621500461217020 : Unit := ()
def PySem.W.Fast.tw3111143579632483025 : Unit := ()
def PySem.W.Fast.tw15207733597550452481 : Unit := ()
def PySem.W.Fast.tw3771131954031620041 : Unit := ()
def PySem.W.Fast.tw16923740811928061962 : Unit := ()
def PySem.W.Fast.tw8241892269458599721 : Unit := ()
def PySem.W.Fast.tw12457614108234089694 : Unit := ()
def PySem.W.Fast.tw9693593869152584882 : Unit := ()
def PySem.W.Fast.tw8932126718942258354 : Unit := ()
def PySem.W.Fast.tw14785603674653234659 : Unit := ()
def PySem.W.Fast.tw16019585494057311642 : Unit := ()
def PySem.W.Fast.tw14283699842263019395 : Unit := ()
def PySem.W.Fast.tw10143372827047060826 : Unit := ()
def PySem.W.Fast.tw9089673019158972251 : Unit := ()
def PySem.W.Fast.tw6561149609107367593 : Unit := ()
def PySem.W.Fast.tw8409290692256101143 : Unit := ()
def PySem.W.Fast.tw1076529847897758878 : Unit := ()
def PySem.W.Fast.tw15524389258699005389 : Unit := ()
def PySem.W.Fast.tw2371493445294398897 : Unit := ()
def PySem.W.Fast.tw9174662368745360947 : Unit := ()
def PySem.W.Fast.tw5935475086782580815 : Unit := ()
def PySem.W.Fast.tw11216358436955481110 : Unit := ()
def PySem.W.Fast.tw18001179464193485354 : Unit := ()
def PySem.W.Fast.tw11924535894042411838 : Unit := ()
def PySem.W.Fast.tw589377397133158775 : Unit := ()
def PySem.W.Fast.tw5736965497289148839 : Unit := ()
def PySem.W.Fast.tw12731858227421957302 : Unit := ()
def PySem.W.Fast.tw2084282146860983666 : Unit := ()
def PySem.W.Fast.tw15904489248798333470 : Unit := ()
def PySem.W.Fast.tw10823104593721600312 : Unit := ()
def PySem.W.Fast.tw7127986990903920014 : Unit := ()
def PySem.W.Fast.tw1489487742043336126 : Unit := ()
def PySem.W.Fast.tw12038099089381539722 : Unit := ()
def PySem.W.Fast.tw3217211421587138737 : Unit := ()
def PySem.W.Fast.tw7163417433846743086 : Unit := ()
def PySem.W.Fast.tw15186730022136531599 : Unit := ()
def PySem.W.Fast.tw13810338291214436474 : Unit := ()
def PySem.W.Fast.tw7645716235202888750 : Unit := ()
def PySem.W.Fast.tw15120599313022152143 : Unit := ()
def PySem.W.Fast.tw576495519223602678 : Unit := ()
def PySem.W.Fast.tw8998042662282574746 : Unit := ()
def PySem.W.Fast.tw7730360808863122734 : Unit := ()
def PySem.W.Fast.tw18037464405008243861 : Unit := ()
def PySem.W.Fast.tw2968619944259607756 : Unit := ()
def PySem.W.Fast.tw8012916663877185607 : Unit := ()
def PySem.W.Fast.tw6005996921703405479 : Unit := ()
def PySem.W.Fast.tw3819384698849589257 : Unit := ()
def PySem.W.Fast.tw2301250345693527571 : Unit := ()
def PySem.W.Fast.tw14392223202047725003 : Unit := ()
def PySem.W.Fast.tw12248006461342508806 : Unit := ()
def PySem.W.Fast.tw12190263628176917081 : Unit := ()
def PySem.W.Fast.tw4661137354755875883 : Unit := ()
def PySem.W.Fast.tw9862292825410068441 : Unit := ()
def PySem.W.Fast.tw4738724898194155573 : Unit := ()
def PySem.W.Fast.tw7729005673761060659 : Unit := ()
def PySem.W.Fast.tw13476471665333472122 : Unit := ()
def PySem.W.Fast.tw14655271525243917468 : Unit := ()
def PySem.W.Fast.tw7151723685032478512 : Unit := ()
def PySem.W.Fast.tw16848886996428953336 : Unit := ()
def PySem.W.Fast.tw16244861361490064397 : Unit := ()
def PySem.W.Fast.tw14317413949180817505 : Unit := ()
def PySem.W.Fast.tw9603597888160755019 : Unit := ()
def PySem.W.Fast.tw2767186954489464638 : Unit := ()
def PySem.W.Fast.tw16414655910299970689 : Unit := ()
def PySem.W.Fast.tw6190600754637264835 : Unit := ()
def PySem.W.Fast.tw3608976175056592958 : Unit := ()
def PySem.W.Fast.tw3934630687968584025 : Unit := ()
def PySem.W.Fast.tw5457968057353797359 : Unit := ()
def PySem.W.Fast.tw9239022558805494965 : Unit := ()
def PySem.W.Fast.tw8465799605982437720 : Unit := ()
def PySem.W.Fast.tw1461723713503465038 : Unit := ()
def PySem.W.Fast.tw4135784895874871151 : Unit := ()
def PySem.W.Fast.tw14500288830489576454 : Unit := ()
def PySem.W.Fast.tw11872463519955393736 : Unit := ()
def PySem.W.Fast.tw5381738767536375507 : Unit := ()
def PySem.W.Fast.tw18201744181661685222 : Unit := ()
def PySem.W.Fast.tw5434888339042734852 : Unit := ()
def PySem.W.Fast.tw5669150811731369716 : Unit := ()
def PySem.W.Fast.tw17308680776636860076 : Unit := ()
def PySem.W.Fast.tw7749833333277867290 : Unit := ()
def PySem.W.Fast.tw14278060194605726689 : Unit := ()
def PySem.W.Fast.tw3639029091960825759 : Unit := ()
def PySem.W.Fast.tw12972336361656349521 : Unit := ()
def PySem.W.Fast.tw12399011140665229231 : Unit := ()
def PySem.W.Fast.tw14177485661842920125 : Unit := ()
def PySem.W.Fast.tw1417432248681631636 : Unit := ()
def PySem.W.Fast.tw13618600603465294753 : Unit := ()
def PySem.W.Fast.tw3227505235843781819 : Unit := ()
def PySem.W.Fast.tw7777306865604432116 : Unit := ()
def PySem.W.Fast.tw13834271239305746291 : Unit := ()
def PySem.W.Fast.tw9001186619911454652 : Unit := ()
def PySem.W.Fast.tw13204433605134542283 : Unit := ()
def PySem.W.Fast.tw18153873146338736698 : Unit := ()
def PySem.W.Fast.tw13850074225249737120 : Unit := ()
def PySem.W.Fast.tw10436017735639119175 : Unit := ()
def PySem.W.Fast.tw4115722997991750665 : Unit := ()
def PySem.W.Fast.tw18249423101208290566 : Unit := ()
def PySem.W.Fast.tw6732569109828939099 : Unit := ()
def PySem.W.Fast.tw11998500464937056527 : Unit := ()
def PySem.W.Fast.tw3140065038229581735 : Unit := ()
def PySem.W.Fast.tw521733939522907877 : Unit := ()
def PySem.W.Fast.tw12313844889708320488 : Unit := ()
def PySem.W.Fast.tw16810377108967655230 : Unit := ()
def PySem.W.Fast.tw6697566432190146604 : Unit := ()
def PySem.W.Fast.tw2627383485150734040 : Unit := ()
def PySem.W.Fast.tw6018145281474236147 : Unit := ()
def PySem.W.Fast.tw14600397177303529016 : Unit := ()
def PySem.W.Fast.tw3654636999391569224 : Unit := ()
def PySem.W.Fast.tw5924487082483448731 : Unit := ()
def PySem.W.Fast.tw4829081317601882461 : Unit := ()
def PySem.W.Fast.tw301815149298275487 : Unit := ()
def PySem.W.Fast.tw14914713963087730660 : Unit := ()
def PySem.W.Fast.tw3526642709427385381 : Unit := ()
def PySem.W.Fast.tw12626139727339119734 : Unit := ()
def PySem.W.Fast.tw2287935947059290968 : Unit := ()
def PySem.W.Fast.tw3198670655625788669 : Unit := ()
def PySem.W.Fast.tw5705892725761228528 : Unit := ()
def PySem.W.Fast.tw3925671933471630927 : Unit := ()
def PySem.W.Fast.tw5332182121453433112 : Unit := ()
def PySem.W.Fast.tw12550541631219355509 : Unit := ()
def PySem.W.Fast.tw16332630437183054544 : Unit := ()
def PySem.W.Fast.tw15762834438317989805 : Unit := ()
def PySem.W.Fast.tw10957331951407824174 : Unit := ()
def PySem.W.Fast.tw6492476071005702637 : Unit := ()
def PySem.W.Fast.tw15289281439121106837 : Unit := ()
def PySem.W.Fast.tw18287460942416870192 : Unit := ()
def PySem.W.Fast.tw11905185566723640357 : Unit := ()
def PySem.W.Fast.tw15930503926144007113 : Unit := ()
def PySem.W.Fast.tw11476306039440014822 : Unit := ()
def PySem.W.Fast.tw7844235111664395738 : Unit := ()
def PySem.W.Fast.tw12214728230660182085 : Unit := ()
def PySem.W.Fast.tw17437582006367031805 : Unit := ()
open PySem PySem.W PyProof.Rows
set_option maxRecDepth 100000 in
set_option maxHeartbeats 0 in
theorem PySem.Challenge.cw_wirefloor_k25_whole_cheapest_holds : PySem.Challenge.rw_wirefloor_k25_whole_cheapest.Holds := by
  w_on; o_law; k_head; (case hw => w_witness2)
  k_fill
  refine K25.walk (l := PySem.Challenge.rw_wirefloor_k25_whole_cheapest) rfl rfl (fun w h Y => PySem.W.km_in_of Y) ⟨_, by first | rfl | decide +kernel⟩ ?T ?F
  case T =>
    intro w
    refine' ⟨156, 152, ?tbx, ?tnx⟩
    (case tbx => kernel_rfl)
    (case tnx => kernel_rfl)
  case F =>
    intro w mg fa h KX G hmg
    refine' K25.all_mk KX G hmg ?n_Floor ?n_Heap ?a0 ?l0 ?c0 ?k0 ?a1 ?l1 ?c1 ?k1 ?a2 ?l2 ?c2 ?k2 ?a3 ?l3 ?c3 ?k3 ?a4 ?l4 ?c4 ?k4 ?a5 ?l5 ?c5 ?k5 ?a6 ?i6 ?l6 ?d6 ?c6 ?k6 ?a7 ?i7 ?l7 ?c7 ?k7 ?a8 ?i8 ?l8 ?c8 ?k8 ?a9 ?i9 ?l9 ?c9 ?k9 ?a10 ?i10 ?l10 ?c10 ?k10 ?a11 ?l11 ?c11 ?k11 ?a12 ?l12 ?c12 ?k12 ?a13 ?i13 ?l13 ?c13 ?k13 ?a14 ?i14 ?l14 ?c14 ?k14 ?a15 ?i15 ?l15 ?c15 ?k15 ?a16 ?i16 ?l16 ?c16 ?k16 ?a17 ?i17 ?l17 ?c17 ?k17 ?a18 ?l18 ?c18 ?k18 ?a19 ?l19 ?c19 ?k19 ?a20 ?l20 ?c20 ?k20 ?a21 ?l21 ?c21 ?k21 ?a22 ?l22 ?c22 ?k22 ?a23 ?l23 ?c23 ?k23 ?a24 ?l24 ?c24 ?k24 ?a25 ?l25 ?c25 ?k25 ?a26 ?l26 ?c26 ?k26 ?a27 ?l27 ?c27 ?k27 ?a28 ?l28 ?c28 ?k28 ?a29 ?l29 ?c29 ?k29 ?a30 ?l30 ?c30 ?k30 ?a31 ?l31 ?c31 ?k31 ?a32 ?l32 ?c32 ?k32 ?a33 ?l33 ?c33 ?k33 ?a34 ?l34 ?c34 ?k34 ?a35 ?l35 ?c35 ?k35 ?a36 ?l36 ?c36 ?k36 ?a37 ?l37 ?c37 ?k37 ?a38 ?l38 ?c38 ?k38 ?pg_Floor ?hd_Floor ?po_Floor ?sa_Floor ?mk_Floor ?kc_Floor ?na_Floor_sizes ?na_Floor_prices ?na_Floor_vias ?na_Floor_rocks ?na_Floor_tolls ?pg_Heap ?hd_Heap ?po_Heap ?sa_Heap ?mk_Heap ?kc_Heap ?na_Heap_pairs ?z_len ?z_range ?z_isinstance ?z_int ?z_bool ?z_tuple ?z_list ?z_dict ?z_sorted ?z_zip ?z_min ?z_max ?z_abs ?z_sum ?z_reversed ?z_any ?q_MOST_PRICE ?q_MOST_SIZES ?qt_MOST_SIZES ?ii ?ib ?ll ?tt ?dd ?ub ?uc ?uh
    (case n_Floor => k_is)
    (case n_Heap => k_is)
    (case a0 => k_is)
    (case l0 => k_is)
    (case c0 => k_is)
    (case k0 => k_is)
    (case a1 => k_is)
    (case l1 => k_is)
    (case c1 => k_is)
    (case k1 => k_is)
    (case a2 => k_is)
    (case l2 => k_is)
    (case c2 => k_is)
    (case k2 => k_is)
    (case a3 => k_is)
    (case l3 => k_is)
    (case c3 => k_is)
    (case k3 => k_is)
    (case a4 => k_is)
    (case l4 => k_is)
    (case c4 => k_is)
    (case k4 => k_is)
    (case a5 => k_is)
    (case l5 => k_is)
    (case c5 => k_is)
    (case k5 => k_is)
    (case a6 => k_is)
    (case i6 => k_is)
    (case l6 => k_is)
    (case d6 => k_is)
    (case c6 => k_is)
    (case k6 => k_is)
    (case a7 => k_is)
    (case i7 => k_is)
    (case l7 => k_is)
    (case c7 => k_is)
    (case k7 => k_is)
    (case a8 => k_is)
    (case i8 => k_is)
    (case l8 => k_is)
    (case c8 => k_is)
    (case k8 => k_is)
    (case a9 => k_is)
    (case i9 => k_is)
    (case l9 => k_is)
    (case c9 => k_is)
    (case k9 => k_is)
    (case a10 => k_is)
    (case i10 => k_is)
    (case l10 => k_is)
    (case c10 => k_is)
    (case k10 => k_is)
    (case a11 => k_is)
    (case l11 => k_is)
    (case c11 => k_is)
    (case k11 => k_is)
    (case a12 => k_is)
    (case l12 => k_is)
    (case c12 => k_is)
    (case k12 => k_is)
    (case a13 => k_is)
    (case i13 => k_is)
    (case l13 => k_is)
    (case c13 => k_is)
    (case k13 => k_is)
    (case a14 => k_is)
    (case i14 => k_is)
    (case l14 => k_is)
    (case c14 => k_is)
    (case k14 => k_is)
    (case a15 => k_is)
    (case i15 => k_is)
    (case l15 => k_is)
    (case c15 => k_is)
    (case k15 => k_is)
    (case a16 => k_is)
    (case i16 => k_is)
    (case l16 => k_is)
    (case c16 => k_is)
    (case k16 => k_is)
    (case a17 => k_is)
    (case i17 => k_is)
    (case l17 => k_is)
    (case c17 => k_is)
    (case k17 => k_is)
    (case a18 => k_is)
    (case l18 => k_is)
    (case c18 => k_is)
    (case k18 => k_is)
    (case a19 => k_is)
    (case l19 => k_is)
    (case c19 => k_is)
    (case k19 => k_is)
    (case a20 => k_is)
    (case l20 => k_is)
    (case c20 => k_is)
    (case k20 => k_is)
    (case a21 => k_is)
    (case l21 => k_is)
    (case c21 => k_is)
    (case k21 => k_is)
    (case a22 => k_is)
    (case l22 => k_is)
    (case c22 => k_is)
    (case k22 => k_is)
    (case a23 => k_is)
    (case l23 => k_is)
    (case c23 => k_is)
    (case k23 => k_is)
    (case a24 => k_is)
    (case l24 => k_is)
    (case c24 => k_is)
    (case k24 => k_is)
    (case a25 => k_is)
    (case l25 => k_is)
    (case c25 => k_is)
    (case k25 => k_is)
    (case a26 => k_is)
    (case l26 => k_is)
    (case c26 => k_is)
    (case k26 => k_is)
    (case a27 => k_is)
    (case l27 => k_is)
    (case c27 => k_is)
    (case k27 => k_is)
    (case a28 => k_is)
    (case l28 => k_is)
    (case c28 => k_is)
    (case k28 => k_is)
    (case a29 => k_is)
    (case l29 => k_is)
    (case c29 => k_is)
    (case k29 => k_is)
    (case a30 => k_is)
    (case l30 => k_is)
    (case c30 => k_is)
    (case k30 => k_is)
    (case a31 => k_is)
    (case l31 => k_is)
    (case c31 => k_is)
    (case k31 => k_is)
    (case a32 => k_is)
    (case l32 => k_is)
    (case c32 => k_is)
    (case k32 => k_is)
    (case a33 => k_is)
    (case l33 => k_is)
    (case c33 => k_is)
    (case k33 => k_is)
    (case a34 => k_is)
    (case l34 => k_is)
    (case c34 => k_is)
    (case k34 => k_is)
    (case a35 => k_is)
    (case l35 => k_is)
    (case c35 => k_is)
    (case k35 => k_is)
    (case a36 => k_is)
    (case l36 => k_is)
    (case c36 => k_is)
    (case k36 => k_is)
    (case a37 => k_is)
    (case l37 => k_is)
    (case c37 => k_is)
    (case k37 => k_is)
    (case a38 => k_is)
    (case l38 => k_is)
    (case c38 => k_is)
    (case k38 => k_is)
    (case pg_Floor => k_is)
    (case hd_Floor => k_is)
    (case po_Floor => k_is)
    (case sa_Floor => k_is)
    (case mk_Floor => k_is)
    (case kc_Floor => k_is)
    (case na_Floor_sizes => k_is)
    (case na_Floor_prices => k_is)
    (case na_Floor_vias => k_is)
    (case na_Floor_rocks => k_is)
    (case na_Floor_tolls => k_is)
    (case pg_Heap => k_is)
    (case hd_Heap => k_is)
    (case po_Heap => k_is)
    (case sa_Heap => k_is)
    (case mk_Heap => k_is)
    (case kc_Heap => k_is)
    (case na_Heap_pairs => k_is)
    (case z_len => k_is)
    (case z_range => k_is)
    (case z_isinstance => k_is)
    (case z_int => k_is)
    (case z_bool => k_is)
    (case z_tuple => k_is)
    (case z_list => k_is)
    (case z_dict => k_is)
    (case z_sorted => k_is)
    (case z_zip => k_is)
    (case z_min => k_is)
    (case z_max => k_is)
    (case z_abs => k_is)
    (case z_sum => k_is)
    (case z_reversed => k_is)
    (case z_any => k_is)
    (case q_MOST_PRICE => k_is)
    (case q_MOST_SIZES => k_is)
    (case qt_MOST_SIZES => k_is)
    (case ii => kit_is)
    (case ib => kit_is)
    (case ll => kit_is)
    (case tt => kit_is)
    (case dd => kit_is)
    (case ub => (show PySem.W.tabIn _ _ = some (156, 152); kernel_rfl))
    (case uc => rfl)
    (case uh => kernel_rfl)
