import PyProof.Rows.All
import Wide.All
import OpenK.AllK
import Wide.FinOn
import Lean
import PyProof.EqAt
import PyProof.EqKinds
import PyProof.TupleCall
import OpenK.KRaise
import OpenK.KOwn
import KE.KTryMore
import KE.RegKTryMore
import PyProof.ExcArgsOwn
import KE.KIntText
import KE.KSortTup
import KE.KDictOf
import KE.KRevIter
import KE.KEqDict
import PyProof.Rows.SetFrom
import PyProof.TupleKey
import PyProof.Rows.SetObj
import PyProof.SetRoads
import PyProof.IsiH_list
import PyProof.ZipIter
import PyProof.Rows.TupIter
import PyProof.DictValues
import PyProof.DictWalks
import KE.KDictSum
import KE.KNest
import KE.KLam
import KE.KNestM
import KE.KDictList
import KE.KDictLaws
import PyProof.EnumMake
import PySem.Challenge.RW_wirefloor_k35_bundle_papers
set_option Elab.async false
set_option linter.all false
set_option maxRecDepth 100000
set_option tactic.hygienic false
open PySem renaming wpAny_bind -> Ja, wpAny_pure -> Jc, wpAny_holding -> Jy, wpAny_call_entry -> JN, wpAny_dictEntries -> JW, wpAny_mono -> J3, wpAny_field -> J6, wpAny_newObj_type -> Kj, wpAny_truthy_bool -> Kl, wpAny_pyIter_list -> Kw, wpAny_notOrdered_dict -> KB, wpAny_isInstance -> KC
open PySem renaming wpAny_seqItems -> KD, wpAny_callSpecial?_slot -> KF, wpAny_Call_Name_kw -> KM, wpAny_specialOf -> KN, wpAny_dictEpoch -> KP, wpAny_rule -> KQ, wpAny_attempt -> KR, wpAny_passesOwn -> KY, wpAny_pyNext_list_item -> KZ, wpAny_typeOf -> K7, wpAny_setField_rec -> Lg, wpAny_typeNameOfWhole_keyiter -> LP
open PySem renaming wpAny_typeNameOfWhole_valiter -> LQ
open List renaming length_map -> Jb, map_append -> Jf, mem_singleton -> Jg, mem_map -> Jh, mem_cons -> Jk, mem_of_getElem? -> Jl, getElem?_map -> Jn, length_append -> Jo, map_cons -> Jq, getElem?_eq_some_iff -> Js, take_length -> Jx, mem_append -> Jz
open List renaming mem_cons_self -> JA, mem_cons_of_mem -> JC, size_toArray -> JD, nodup_cons -> JE, map_map -> JF, mem_map_of_mem -> JG, getElem?_eq_getElem -> JI, not_mem_nil -> JJ, getD_eq_getElem?_getD -> JP, length_take -> JT, all_eq_true -> JV, length_cons -> JY
open List renaming mem_range -> J8, lookup_cons -> J_, nodup_nil -> Ka, mem_filter -> Ke, mem_append_right -> Kf, nodup_append -> Kh, append_nil -> Km, length_range -> Ks, lookup -> Kz, length_drop -> KA, mem_iff_getElem? -> KG, mem_filterMap -> KW
open List renaming map_congr_left -> K4, filter_cons_of_pos -> K5, filter_cons_of_neg -> K6, any_map -> La, mem_append_left -> Ld, getElem?_append_right -> Le, getElem?_append_left -> Lf, mem_flatMap -> Li, of_mem_zip -> Lo, length_replicate -> Lp, length_set -> Lq, ext_getElem? -> Lu
open List renaming length_filter_le -> LC, filter_append -> LD, getElem?_set_self -> LH, getElem?_set_ne -> LI, take_sublist -> LL, reverse_cons -> LM, getElem?_toArray -> LN, getElem?_eq_none -> LO, length_pos_of_mem -> LU, getElem?_range -> LX, take_of_length_le -> LY, length_take_le -> L6
open List renaming pairwise_iff_getElem -> L8, mem_of_find?_eq_some -> L9, dropLast_concat_getLast -> Ma
open Nat renaming le_refl -> Jd, ne_of_lt -> Jm, le_trans -> Jt, zero_le -> Ju, lt_of_lt_of_le -> JM, lt_irrefl -> JU, le_of_lt -> JX, lt_succ_self -> J9, mul_comm -> Kt, ne_of_gt -> Kv, succ_pos -> KH, succ_le_succ -> KS
open Nat renaming le_add_right -> KU, not_lt_zero -> K1, lt_succ_of_lt -> K2, add_zero -> K9, lt_of_le_of_lt -> Lr, div_eq_of_lt -> LB, min_eq_left -> LF, mul_le_mul -> LG, div_lt_of_lt_mul -> L4
open PySem.W renaming Frag -> Je, fnOf -> JK, findIn -> JS, keepIn -> J5, codeIn -> Kd, kla_obj -> Kk, kia_one -> Kr, emptyDict -> Ky, instObj -> KI, isFn -> KL, KatTups -> K3, mg_of -> K_
open PySem.W renaming kitOne -> Lh, plainGet -> Lm, Looks -> Ln, kas_sort -> Lw, tabIn -> Ly, codeHdIn -> LA, hasDictIn -> LJ, callWith_K -> LK, specialIn -> LS
open PySem.Heap renaming get?_push_of_some -> Ji, lt_size -> Jj, get?_push_size -> Jp, size_push -> Kc, get?_update_self -> Kg, get?_none_of_le -> Ku, ExtBut -> K8
open Ne renaming symm -> Jr
open Bool renaming and_eq_true -> Jv, false_ne_true -> Jw, false_eq_true -> Kq, eq_iff_iff -> KJ
open Option renaming map_eq_some_iff -> JH, isSome_iff_exists -> K0, map_some -> Lc, getD_some -> Lv
open PySem.F renaming plainAttrs_dict -> JL, plainAttrs_list -> JR, slot_dict_get -> JZ, slot_list_append -> J1, type_list_append -> J2, type_dict_get -> J7, slot_dict_setdefault -> Lx, slot_dict_pop -> LZ, type_dict_setdefault -> L5
open Int renaming emod_nonneg -> JO, emod_lt_of_pos -> JQ, zero_add -> Ki, toNat_natCast -> Kn, eq_ofNat_of_zero_le -> Lb, add_comm -> Lj, natCast_ediv -> Ll, mul_ediv_add_emod -> L0, toNat_of_nonneg -> L1
open Array renaming length_toList -> J4, getElem?_eq_getElem -> Kb, getD_eq_getD_getElem? -> Ko, mem_toList_iff -> Kx, getElem_mem -> Ls, getElem?_eq_none -> LR, perm_iff_toList_perm -> L7, getElem?_eq_some_iff -> L_
noncomputable section
open PySem renaming Value -> N7, Addr -> N8, sizeLine -> N9, Shared -> N_, wpAny -> Na, Paired -> Nb, Builtin -> Nc, model -> Nd, starEach -> Nf, Heap -> Ng, Str -> Nh, Program -> Ni, mainGlobals -> Nj, compareOp -> Nk
open PySem renaming PyData -> Nl, tupleKind -> Nm, Stmt -> Nn, NameKind -> No, tupleKeyHash -> Np, SetTable -> Nq, World -> Nr, codeAny_builtin -> Nt, Around -> Nu, Obj -> Nv, Expr -> Nw, plainId_quiet -> Ny, wpAny_loadPart' -> NA, tupleKind_room_in1 -> NB
open PySem renaming bootBuiltins -> NC, builtinLookup_eq_fast -> ND, DictEntry -> NE, cLine -> NF, backTo -> NG, pyNext -> NH, IsPair -> NI, rawInt -> NJ, foldedSetIterable -> NK, codeAny -> NL, typeLookup_type -> NM, FuncData -> NN, PassesOwn -> NO, sizeLine_eq -> NP
open PySem renaming richCompare -> NQ, sysModules -> NR, codeAny_mono -> NS, Scope -> NT, GenState -> NU, attributeBase -> NV, intKind -> NW, typeLookup -> NX, assignEach -> NY, sliceBounds -> NZ, Env -> O0, Pos -> O2
open PySem.W renaming kas_asc -> O4, KasT -> O5
open PyProof.Rows renaming KeyOrd -> O6, IntsAre -> O7, seqObj -> O8
theorem N0{c:Prop}{h:Decidable c}(x:¬c){α:Sort u}{t e:α}:ite c t e=e:=if_neg x
theorem N1{c:Prop}{h:Decidable c}(x:c){α:Sort u}{t e:α}:ite c t e=t:=if_pos x
theorem N3{p:Prop}[d:Decidable p](h:p):decide p=true:=decide_eq_true h
theorem N4{p:Prop}[d:Decidable p](h:decide p=true):p:=of_decide_eq_true h
theorem N5{p:Prop}[d:Decidable p](h:¬p):decide p=false:=decide_eq_false h
theorem N6{p:Prop}[d:Decidable p](h:decide p=false):¬p:=of_decide_eq_false h
theorem Z{α:Sort u}{a:α}:a=a:=rfl
section
set_option hygiene false
local macro_rules|`(tactic|let $d:letDecl)=>`(tactic|have $d:letDecl)
open Lean in
def Oi:Nat->Syntax->Syntax
 |n+1,s=>mkNode `Lean.Parser.Tactic.rcasesPatLo #[mkNode `Lean.Parser.Tactic.rcasesPatMed #[mkNullNode #[if s.isIdent then mkNode `Lean.Parser.Tactic.rcasesPat.one #[s] else if s.getKind==`Lean.Parser.Term.anonymousCtor then mkNode `Lean.Parser.Tactic.rcasesPat.tuple #[mkAtom "⟨",mkNullNode (mkSepArray (s[1].getSepArgs.map (Oi n)) (mkAtom ",")),mkAtom "⟩"] else mkNode `Lean.Parser.Tactic.rcasesPat.ignore #[mkAtom "_"]]],mkNullNode]
 |_,s=>s
open Lean in
local macro_rules|`(tactic|let ⟨$p,*⟩:=$e)=>do
 let q:TSyntax `Lean.Parser.Tactic.rcasesPatMed:=⟨(Oi 9 (<-`(⟨$p,*⟩)))[0]⟩
 `(tactic|obtain $q:rcasesPatMed:=$e)
local macro_rules|`(tactic|show $e)=>`(tactic|refine $e)
local macro_rules|`($a<|$b)=>`((by rw[$a:term];exact $b))
local macro_rules|`($a>$b)=>`($a=some $b)
local macro_rules|`(-$x:ident)=>`(List $x)|`(-($x))=>`(List ($x))
local macro_rules|`(~~~$x)=>`(($x).heap.objs.size)
local macro_rules|`(())=>`((by lia))|`(∅)=>`((ae rfl))
local macro_rules|`(↑$x)=>`(($x).length)
namespace L2
open PySem PySem.Spec PyProof.Rows
abbrev dh:=Sum Int Nh
noncomputable def oq:dh->N7->Bool
 | .inl k,v=>N7.isInt k v
 | .inr x,v=>N7.isStrOf x v
noncomputable def Fs (w:Nr):dh->Int
 | .inl k=>hashInt k
 | .inr x=>hashStr w x
theorem cX:∀{k:dh} {v:N7},oq k v=true->(∃i t,k=Sum.inl i/\v=N7.int i t)\/(∃x t,k=Sum.inr x/\v=N7.str x t)
 | .inl i,v,h=>by
  let⟨t,e⟩:=N7.isInt_shape (k:=i) (v:=v) h
  show .inl ⟨i,t,Z,e⟩
 | .inr x,v,h=>by
  let⟨t,e⟩:=N7.isStrOf_shape (x:=x) (v:=v) h
  show .inr ⟨x,t,Z,e⟩
theorem xP (i:Int)(t:Tok):oq (.inl i) (.int i t)=true:=by simp[oq,N7.isInt]
theorem xA (x:Nh)(t:Tok):oq (.inr x) (.str x t)=true:=by simp[oq,N7.isStrOf]
theorem Ej (a b:Int):decide ((Sum.inl a:dh)=Sum.inl b)=(a==b):=by
 by_cases e:a=b
 ·subst e;simp
 ·let h:¬(Sum.inl a:dh)=Sum.inl b:=λq=>e (Sum.inl.inj q)
  rw[N5 h]
  show(beq_eq_false_iff_ne.mpr e).symm
theorem Ex (a b:Nh):decide ((Sum.inr a:dh)=Sum.inr b)=decide (a=b):=by
 by_cases e:a=b
 ·subst e;simp
 ·let h:¬(Sum.inr a:dh)=Sum.inr b:=λq=>e (Sum.inr.inj q)
  rw[N5 h,N5 e]
theorem Ey (a:Int)(b:Nh):decide ((Sum.inl a:dh)=Sum.inr b)=false:=N5 (λq=>by cases q)
theorem Es (a:Nh)(b:Int):decide ((Sum.inr a:dh)=Sum.inl b)=false:=N5 (λq=>by cases q)
noncomputable def aU (prog:Ni) (w:Nr):PySem.KeyKind prog w dh where
 is:=oq
 hash:=Fs w
 inj:=λv a b ha hb=>by
  rcases cX ha with ⟨i,t,rfl,rfl⟩|⟨x,t,rfl,rfl⟩
  ·rcases cX hb with ⟨j,u,rfl,e⟩|⟨y,u,rfl,e⟩
   ·injection e with e1 _;rw[e1]
   ·show nomatch e
  ·rcases cX hb with ⟨j,u,rfl,e⟩|⟨y,u,rfl,e⟩
   ·show nomatch e
   ·injection e with e1 _;rw[e1]
 byValue:=λk v h=>by
  rcases cX h with ⟨i,t,rfl,rfl⟩|⟨x,t,rfl,rfl⟩<;>rfl
 pyHash:=λhv h=>by
  rcases cX hv with ⟨i,t,rfl,rfl⟩|⟨x,t,rfl,rfl⟩
  ·show wpAny_pyHash_int h
  ·show wpAny_pyHash_str h
 eqBool:=λc hv h=>by
  rcases cX c with ⟨i,t,rfl,rfl⟩|⟨x,t,rfl,rfl⟩
  ·rcases cX hv with ⟨j,u,rfl,rfl⟩|⟨y,u,rfl,rfl⟩
   ·rw[Ej] at h;show wpAny_eqBool_int h
   ·rw[Ey] at h;show SeqAt.EqAt.int_str i t y u _ _ _ _ h
  ·rcases cX hv with ⟨j,u,rfl,rfl⟩|⟨y,u,rfl,rfl⟩
   ·rw[Es] at h;show SeqAt.EqAt.str_int x t j u _ _ _ _ h
   ·rw[Ex] at h;show wpAny_eqBool_str h
 «strs»:=λk x t v h=>by
  rcases cX h with ⟨i,u,rfl,e⟩|⟨y,u,rfl,e⟩
  ·show nomatch e
  ·injection e with e1 _
   subst e1
   cases v<;>rfl
theorem rM (prog:Ni)(w:Nr)(i:Int)(t:Tok):(aU prog w).is (.inl i) (.int i t)=true:=xP i t
theorem rV (prog:Ni)(w:Nr)(x:Nh)(t:Tok):(aU prog w).is (.inr x) (.str x t)=true:=xA x t
inductive V where
 |non|bl (b:Bool)|int (i:Int)|str (x:Nh)|byt (b:Array UInt8)|flt (b:UInt64)|ref (a:N8)|ty (n:String)
 deriving DecidableEq
noncomputable def aY:V->N7->Prop
 | .non,u=>u=N7.none
 | .bl b,u=>u=N7.bool b
 | .int i,u=>∃t,u=N7.int i t
 | .str x,u=>∃t,u=N7.str x t
 | .byt b,u=>∃t,u=N7.bytes b t
 | .flt b,u=>∃t,u=N7.float b t
 | .ref a,u=>u=N7.ref a
 | .ty n,u=>u=N7.type n
abbrev a8:-V->-N7->Prop:=Nb aY
theorem a8.length(r:a8 xs us):↑xs=↑us:=Nb.length r
theorem gC {c d:Type}{R:c->d->Prop}{as:-c}{bs:-d}(h:Nb R as bs):∀{i:Nat} {a:c},as[i]?>a->∃b,bs[i]?>b/\R a b:=by
 induction h with
 |nil=>intro i a e;simp at e
 |cons r t ih=>
  intro i a e
  cases i with
  |zero=>simp at e;subst e;show⟨_,Z,r⟩
  |succ i=>
   let⟨u,h1,h2⟩:=ih (i:=i) (a:=a) (by simpa using e)
   show⟨u,by simpa using h1,h2⟩
theorem a8.get {xs:-V}{us:-N7}{i:Nat}{x:V}(h:a8 xs us)(e:xs[i]?>x):∃u,us[i]?>u/\aY x u:=gC h e
theorem a8.set {x:V}{u:N7}(r:aY x u){xs:-V}{us:-N7}(i:Nat)(h:a8 xs us):a8 (xs.set i x) (us.set i u):=by
 induction h generalizing i with
 |nil=>show .nil
 |cons q t ih=>
  cases i with
  |zero=>show .cons r t
  |succ i=>show .cons q (ih i)
theorem cG {c b:Type}{F:c->b->Prop}{as bs:-c}{cs a:-b}(h:Nb F as cs)(t:Nb F bs a):Nb F (as++bs) (cs++a):=by
 induction h with
 |nil=>show t
 |cons h s ih=>show .cons h ih
theorem a8.append(h:a8 xs us)(t:a8 ys ws):a8 (xs++ys) (us++ws):=cG h t
theorem sf {b a:Type}{R:b->a->Prop}(k:Nat){as:-b}{bs:-a}(h:Nb R as bs):Nb R (as.take k) (bs.take k):=by
 induction h generalizing k with
 |nil=>rw[List.take_nil,List.take_nil];show .nil
 |cons r t ih=>
  cases k with
  |zero=>show .nil
  |succ k=>show .cons r (ih k)
theorem a8.take {xs:-V}{us:-N7}(n:Nat)(h:a8 xs us):a8 (xs.take n) (us.take n):=sf n h
theorem sT {b a:Type}{R:b->a->Prop}(k:Nat){as:-b}{bs:-a}(h:Nb R as bs):Nb R (as.drop k) (bs.drop k):=by
 induction h generalizing k with
 |nil=>rw[List.drop_nil,List.drop_nil];show .nil
 |cons r t ih=>
  cases k with
  |zero=>show .cons r t
  |succ k=>show ih k
theorem a8.drop {xs:-V}{us:-N7}(n:Nat)(h:a8 xs us):a8 (xs.drop n) (us.drop n):=sT n h
noncomputable def jx:Option V->Option N7->Prop
 |some v,some u=>aY v u
 |none,none=>True
 |_,_=>False
def kV:dh->V
 | .inl i=> .int i
 | .inr x=> .str x
inductive HO where
 |lst (xs:-V)
 |tup (xs:-V)
 |dT (kvs:-(-dh×V))
 |ins (C dx:N8) (fs:-(Nh×V))
 |own (x:N8)
 |rng (lo hi:Int)
 |frz (o:Nv) (u:HO)
 |tbl (ps:Array N7)
 |ext (φ:Ng->Prop)
abbrev Hp:=N8->Option HO
noncomputable def Oc (H:Hp) (a:N8) (o:HO):Hp:=λb=>if b=a then some o else H b
theorem af:Oc H a o a>o:=by unfold Oc;rw[N1 Z]
theorem aj(h:b≠a):Oc H a o b=H b:=by unfold Oc;rw[N0 h]
theorem Bx:Oc (Oc H a o) a u=Oc H a u:=by
 funext b;unfold Oc;split<;>rfl
theorem bu {H:Hp}{a b:N8}{o u:HO}(h:H a>o)(h':H b>u)(d:o≠u):a≠b:=by
 intro e;subst e;rw[h] at h';show d (Option.some.inj h')
theorem aq {H:Hp}{a b:N8}{o:HO}(h:H a>o)(h':H b=none):a≠b:=by
 intro e;subst e;rw[h] at h';cases h'
section
variable (P:Ni) (w:Nr)
noncomputable def bN (H:Hp) (h:Ng) (a:N8):HO->Prop
 | .lst xs=>↑xs<=N9/\∃(b:-N7) (n:Nat),a8 xs b/\h.get? a=some {cls:=.type "list",data:=.seq b.toArray n}
 | .tup xs=>↑xs<=N9/\∃b:-N7,a8 xs b/\IsTup h a b.toArray
 | .dT kvs=>↑kvs<=N9/\(a==NR)=false/\∃xs:-(-dh×N8×N7),
   Nb (λ(p:-dh×V) (q:-dh×N8×N7)=>p.1=q.1/\H q.2.1>.tup (p.1.map kV)/\aY p.2 q.2.2) kvs xs/\
   ∃o es ep,h.get? a>o/\o.ExactDict/\o.data=.dict es ep/\es.toList=xs.map (entryOfKey (Nm (aU P w)))/\(xs.map (·.1)).Nodup
 | .ins C dx fs=>H dx>.own a/\↑fs<=1000/\dx≠a/\h.get? a>KI C dx/\
   ∃mA,h.Ns1 dx mA/\(∀f,jx (fs.lookup f) (mA f))/\PySem.Within mA (fs.map (·.1))
 | .own _=>∃o,h.get? a>o
 | .rng lo hi=>∃t u v,h.get? a=some {cls:=.type "range",data:=.fields #[.int lo t,.int hi u,.int 1 v]}
 | .frz o u=>h.get? a>o/\bN H h a u
 | .tbl ps=>h.get? a=some {cls:=.none,data:=.fields ps}
 | .ext φ=>φ h/\(∃o,h.get? a>o)/\∀h1 h2:Ng,φ h1->(∀o,h1.get? a>o->h2.get? a>o)->φ h2
def iu (H:Hp) (h:Ng):Prop:=∀a o,H a>o->bN P w H h a o
end
section
variable {P:Ni} {w:Nr} {H H':Hp} {h h':Ng} {a:N8} {o:HO}
theorem bN.lt (x:bN P w H h a o):a<h.objs.size:=by
 cases o with
 |lst xs=>let⟨_,_,_,_,e⟩:=x;show Jj e
 |tup xs=>let⟨_,_,_,p⟩:=x;show p.lt
 |dT kvs=>let⟨_,_,_,_,o,_,_,e,_⟩:=x;show Jj e
 |ins C dx fs=>let⟨_,_,_,e,_⟩:=x;show Jj e
 |own y=>let⟨_,e⟩:=x;show Jj e
 |rng lo hi=>let⟨_,_,_,e⟩:=x;show Jj e
 |frz ob u=>let⟨e,_⟩:=x;show Jj e
 |tbl ps=>show Jj (show h.get? a>_ from x)
 |ext φ=>let⟨_,⟨_,e⟩,_⟩:=x;show Jj e
theorem Nb.mapP {d c:Type}{F G:d->c->Prop}{l₁:-d}{l₂:-c}(h:Nb F l₁ l₂)(f:∀a b,F a b->G a b):Nb G l₁ l₂:=by
 induction h with
 |nil=>show .nil
 |cons r t ih=>show .cons (f _ _ r) ih
theorem bN.stay (x:bN P w H h a o)(k:∀b u,(b=a\/H b>.own a)->h.get? b>u->h'.get? b>u)
  (l:∀b,H b>.own a->H' b>.own a) (ht:∀b xs,H b>.tup xs->H' b>.tup xs):bN P w H' h' a o:=by
 induction o with
 |lst xs=>let⟨z,f,n,r,e⟩:=x;show⟨z,f,n,r,k _ _ (.inl Z) e⟩
 |tup xs=>let⟨z,f,r,g,e,c⟩:=x;show⟨z,f,r,g,k _ _ (.inl Z) e,c⟩
 |dT kvs=>
  let⟨z,y,xs,r,g,es,ep,e,c⟩:=x
  show⟨z,y,xs,Nb.mapP r λp q z=>⟨z.1,ht _ _ z.2.1,z.2.2⟩,g,es,ep,k _ _ (.inl Z) e,c⟩
 |ins C dx fs=>
  let⟨d,z,m,e,mA,⟨j,es,ep,i,c⟩,r⟩:=x
  show⟨l _ d,z,m,k _ _ (.inl Z) e,mA,⟨j,es,ep,k _ _ (.inr d) i,c⟩,r⟩
 |own y=>let⟨g,e⟩:=x;show⟨g,k _ _ (.inl Z) e⟩
 |rng lo hi=>let⟨t,u,v,e⟩:=x;show⟨t,u,v,k _ _ (.inl Z) e⟩
 |frz g u ih=>let⟨e,q⟩:=x;show⟨k _ _ (.inl Z) e,ih q⟩
 |tbl ps=>
  let e:h.get? a=some {cls:=.none,data:=.fields ps}:=x
  show k a _ (.inl Z) e
 |ext φ=>let⟨p,⟨o,e⟩,st⟩:=x;show⟨st _ _ p λo q=>k _ _ (.inl Z) q,⟨o,k _ _ (.inl Z) e⟩,st⟩
theorem iu.lt (x:iu P w H h)(e:H a>o):a<h.objs.size:=(x a o e).lt
theorem iu.fresh (x:iu P w H h)(e:h.objs.size<=a):H a=none:=by
 cases q:H a with
 |none=>rfl
 |some u=>show absurd (JM (x.lt q) e) (JU _)
theorem iu.kept (x:iu P w H h)(k:∀b u,h.get? b>u->h'.get? b>u):iu P w H h':=λa o e=>
 (x a o e).stay (λb u _ q=>k b u q) (λ_ q=>q) λ_ _ q=>q
theorem iu.laid (x:iu P w H h)(k:∀b u,h.get? b>u->h'.get? b>u)(f:h.objs.size<=a)(new:bN P w (Oc H a o) h' a o):iu P w (Oc H a o) h':=λb u e=>by
 let d:=x.fresh f
 by_cases hb:b=a
 ·subst hb;rw[af] at e;cases e;show new
 ·rw[aj hb] at e
  show(x b u e).stay (λc v _ q=>k c v q) (λc q=>by rw[aj (aq q d)];show q) λc xs q=>by rw[aj (aq q d)];show q
end
def Rd (H:Hp) (a:N8) (u:HO):Prop:=H a>u\/∃o,H a>.frz o u
theorem Rd.ok(r:Rd H a u)(x:iu P w H h):bN P w H h a u:=by
 rcases r with r|⟨o,r⟩
 ·show x a u r
 ·let⟨_,q⟩:=x a _ r
  show q
noncomputable def Bm:Option HO->Prop
 |some (.lst _)=>True
 |some (.dT _)=>True
 |some (.ins _ _ _)=>True
 |some (.ext _)=>True
 |_=>False
section
variable {P:Ni} {w:Nr} {H:Hp} {h h':Ng} {x e:N8} {o':HO}
theorem iu.write (ok:iu P w H h)(f:Bm (H x))(i:e=x\/H e>.own x)(k:∀b u,b≠e->h.get? b>u->h'.get? b>u)(g:∃u,h'.get? e>u)
  (new:bN P w (Oc H x o') h' x o'):iu P w (Oc H x o') h':=λb u q=>by
 let a:∀c y,H c>.own y->c≠x:=λc y r z=>by subst z;rw[r] at f;show f
 let d:∀c xs,H c>.tup xs->c≠x:=λc xs r z=>by subst z;rw[r] at f;show f
 by_cases hb:b=x
 ·subst hb;rw[af] at q;cases q;show new
 ·rw[aj hb] at q
  by_cases hbe:b=e
  ·let j:H b>.own x:=by
    rcases i with z|z
    ·show absurd (hbe.trans z) hb
    ·rw[hbe];show z
   rw[q] at j;cases j
   let⟨v,hv⟩:=g
   show⟨v,hbe<|hv⟩
  ·show(ok b u q).stay (λc v hc r=>k c v ?_ r) (λc r=>by rw[aj (a c b r)];show r) λc xs r=>by rw[aj (d c xs r)];show r
   rcases hc with rfl|hc
   ·show hbe
   ·rintro rfl
    rcases i with z|z
    ·show a c b hc z
    ·rw[hc] at z;cases z;show hb Z
end
structure Un (fs ex:-N8) (H H':Hp) (h h':Ng):Prop where
 keep:∀b o,h.get? b>o->H b=none->b∉fs->b∉ex->h'.get? b>o
 slot:∀b o,h.get? b>o->H b=none->b∈fs->b∉ex->∃sl,h'.get? b=some {o with slots:=sl}
 free:∀b o,h.get? b>o->H b=none->b∉ex->H' b=none
 there:∀b o,h.get? b>o->b∉ex->∃o',h'.get? b>o'
 tups:∀b xs,H b>.tup xs->H' b>.tup xs
 frzs:∀b o u,H b>.frz o u->H' b>.frz o u
 tbls:∀b ps,H b>.tbl ps->∃more,H' b>.tbl (ps++more)
section
variable {fs fs' ex ex':-N8} {H H1 H2:Hp} {h h1 h2 h':Ng} {a x e:N8} {o:HO}
theorem Un.any (u:Un fs ex H H1 h h1){b:N8}{ob:Nv}(q:h.get? b>ob)(n:H b=none)(hx:b∉ex):∃a,h1.get? b=some {ob with slots:=a}:=by
 by_cases hb:b∈fs
 ·show u.slot b ob q n hb hx
 ·show⟨ob.slots,u.keep b ob q n hb hx⟩
theorem Un.kept (k:∀b u,h.get? b>u->h'.get? b>u):Un fs ex H H h h':=
 ⟨λb a q _ _ _=>k b a q,λb a q _ _ _=>⟨a.slots,k b a q⟩,λ_ _ _ n _=>n,λb a q _=>⟨a,k b a q⟩,λ_ _ q=>q,λ_ _ _ q=>q,λ_ ps q=>⟨#[],by rw[q];simp⟩⟩
theorem Un.refl:Un fs ex H H h h:=Un.kept λ_ _ q=>q
theorem Un.laid (k:∀b u,h.get? b>u->h'.get? b>u)(d:h.objs.size<=a)(c:H a=none):Un fs ex H (Oc H a o) h h' where
 keep:=λb u q _ _ _=>k b u q
 slot:=λb u q _ _ _=>⟨u.slots,k b u q⟩
 free:=λb u q n _=>by rw[aj (Jm (JM (Jj q) d))];show n
 there:=λb u q _=>⟨u,k b u q⟩
 tups:=λb xs q=>by rw[aj (aq q c)];show q
 frzs:=λb u xs q=>by rw[aj (aq q c)];show q
 tbls:=λb ps q=>⟨#[],by rw[aj (aq q c),q];simp⟩
theorem Un.write (a:Bm (H x))(f:e=x\/H e>.own x)(k:∀b u,b≠e->h.get? b>u->h'.get? b>u)(c:∃u,h'.get? e>u):Un fs ex H (Oc H x o) h h':=by
 let d:∀b,H b=none->b≠x:=λb n z=>by subst z;rw[n] at a;show a
 let hb:∀b,H b=none->b≠e:=λb n z=>by
  subst z
  rcases f with r|r
  ·show d b n r
  ·rw[n] at r;cases r
 let hm:∀b u,H b>u->¬Bm (some u)->b≠x:=λb u q nm z=>by subst z;rw[q] at a;show nm a
 show⟨λb u q n _ _=>k b u (hb b n) q,λb u q n _ _=>⟨u.slots,k b u (hb b n) q⟩,λb u q n _=>by rw[aj (d b n)];show n,λb u q _=>?_,
  λb xs q=>by rw[aj (hm b _ q λz=>z)];show q,λb u xs q=>by rw[aj (hm b _ q λz=>z)];show q,λb ps q=>⟨#[],by rw[aj (hm b _ q λz=>z),q];simp⟩⟩
 by_cases hbe:b=e
 ·subst hbe;show c
 ·show⟨u,k b u hbe q⟩
end
noncomputable def yj (h:Ng) (H:Hp):-N8:=(List.range h.objs.size).filter λa=>(H a).isSome
def nN (h:Ng) (H:Hp):Ng:=PySem.W.hideAll h (yj h H)
theorem wQ (h:Ng)(H:Hp):(nN h H).objs.size=h.objs.size:=PySem.W.hideAll_size _ _
theorem yz(e:h.get? b>o)(n:H b=none):(nN h H).get? b>o:=
 PySem.W.hideAll_get _ e λhm=>by
  let q:(H b).isSome=true:=(Ke.mp hm).2
  rw[n] at q;simp at q
theorem Bs(e:(nN h H).get? b>o):h.get? b>o/\H b=none:=by
 let a:h.get? b>o:=PySem.W.of_hideAll (yj h H) e
 show⟨a,?_⟩
 cases q:H b with
 |none=>rfl
 |some x=>
  let hm:b∈yj h H:=Ke.mpr ⟨J8.mpr (Jj a),by simp[q]⟩
  let z:(nN h H).get? b=none:=PySem.W.hideAll_none (yj h H) hm
  rw[z] at e;cases e
noncomputable def gO (g h:Ng) (L:N8):-(N8×Nv):=(List.range h.objs.size).filterMap λa=>if a=L\/(g.get? a).isSome=true then none else (h.get? a).map λo=>(a,o)
theorem dA(h1:a≠L)(c:g.get? a=none)(b:h.get? a>o):(a,o)∈gO g h L:=
 KW.mpr ⟨a,J8.mpr (Jj b),by simp[h1,c,b]⟩
theorem mO{p:N8×Nv}(a:p∈gO g h L):p.1≠L/\g.get? p.1=none/\h.get? p.1>p.2:=by
 let⟨b,_,e⟩:=KW.mp a
 split at e
 ·cases e
 ·rename_i hn
  cases q:h.get? b with
  |none=>rw[q] at e;simp at e
  |some u=>
   rw[q] at e
   simp only[Lc,Option.some.injEq] at e
   subst e
   show⟨λz=>hn (.inl z),?_,q⟩
   cases r:g.get? b with
   |none=>rfl
   |some v=>show(hn (.inr (by simp[r]))).elim
noncomputable def df (g h:Ng) (L d:N8):-(N8×Nv):=(gO g h L).filter λp=>decide (p.1≠d)
theorem mj:News g L h (gO g h L):=λp hp=>let ⟨a,b,c⟩:=mO hp;⟨c,a,b⟩
structure Mod (K:Je) (mg:Nh->Option N7) (Oa:Ng):Prop where
 kin:K.In Oa
 glob:Oa.Ns Nj mg
 blt:∃mb,Oa.Ns builtinsNs mb/\∀x:Nh,x≠ "__name__" ->mb x=NC x
 nolimit:Oa.NoLimit
structure Cx where
 prog:Ni
 w:Nr
 K:Je
 mg:Nh->Option N7
 Oa:Ng
 A:Nu
 N:-Nh
 s₀:N_
 H₀:Hp
 env:O0
 outer:-O0
 stack:-O0
 ex:-N8
 fn:Nh->Bool
 calm:Bool
 pn:-(N8×Nv)
 xe:N7->N_->Prop
def vX (l:-O0):-N8:=l.filterMap (·.frame)
abbrev Cx.fs (X:Cx):-N8:=vX X.outer
def Hh (a:NT) (x:Nh):Prop:=a.names.lookup x>.local\/a.names.lookup x>.cell\/a.names.lookup x>.free
def Fb (a:NT) (x:Nh):Prop:=a.names.lookup x>.local\/a.names.lookup x>.cell
def Hz (env:O0) (h:Ng) (m:Nh->Option N7) (x:Nh) (u:N7):Prop:=
 (env.kindOf x>.local/\m x>u)\/((env.kindOf x>.cell\/env.kindOf x>.free)/\∃c,env.cells.lookup x>c/\h.IsCell c (some u))
structure Cx.Ok (X:Cx):Prop where
 mod:Mod X.K X.mg X.Oa
 kind:X.env.scope.kind=.function
 glob:X.env.globals=Nj
 blt:X.env.builtins=builtinsNs
 above: ~~~X.s₀<=X.env.locals
 inj:∀x y c,X.env.cells.lookup x>c->X.env.cells.lookup y>c->x=y
 has:∀x,(X.env.kindOf x>.cell\/X.env.kindOf x>.free)->∃c,X.env.cells.lookup x>c
 cab:∀x c,X.fn x=true->X.env.cells.lookup x>c->~~~X.s₀<=c
 hd:X.calm=true->X.A.handled=none
 frames:X.A.frames>X.stack
 stk:X.stack=X.outer\/(X.stack=X.env::X.outer/\X.env.frame>X.env.locals)
 exf:∀b∈X.ex,b≠X.env.locals/\∀x c,X.env.cells.lookup x>c->c≠b
 bs:∀b o,X.Oa.get? b>o->X.s₀.heap.get? b>o/\X.H₀ b=none
 bsz:X.Oa.objs.size<= ~~~X.s₀
 noex:∀b o,X.Oa.get? b>o->b∉X.ex
 exfs:∀b∈X.ex,b∉X.fs
 funs:X.s₀.heap.FunFrames X.Oa X.outer
 frf:∀b∈X.fs,X.H₀ b=none
structure aG (X:Cx) (O9:-(N8×Nv)) (σ:-(Option V)) (H:Hp) (s:N_):Prop where
 ok:X.Ok
 os:s.os=X.s₀.os
 bare:AllBare s.gens
 Oa:Un X.fs X.ex X.H₀ H X.s₀.heap s.heap
 loc:∃m,s.heap.Ns X.env.locals m/\∀(i:Nat) (x:Nh) (v:V),X.N[i]?>x->σ[i]?>some v->Hh X.env.scope x->∃u,aY v u/\Hz X.env s.heap m x u
 cell:∀x c,X.env.cells.lookup x>c->∃v,s.heap.IsCell c v
 free:H X.env.locals=none
 freeC:∀x c,X.env.cells.lookup x>c->H c=none
 pin:∀p∈X.pn++O9,s.heap.get? p.1>p.2/\H p.1=none/\p.1≠X.env.locals/\p.1∉X.fs/\∀v,p.2.data≠.cell v
 hok:iu X.prog X.w H s.heap
 len:↑σ=↑X.N
section
variable {X:Cx} {O9:-(N8×Nv)} {σ:-(Option V)} {H H':Hp} {s:N_} {h':Ng}
theorem Cx.Ok.nofr (ok:X.Ok){b:N8}{o:Nv}(e:X.Oa.get? b>o):b∉X.fs:=λhb=>by
 have:=(ok.funs.mem hb).1
 rw[e] at this;cases this
theorem aG.bs (I:aG X O9 σ H s):∀b o,X.Oa.get? b>o->s.heap.get? b>o/\H b=none:=λb o e=>
 ⟨I.Oa.keep b o (I.ok.bs b o e).1 (I.ok.bs b o e).2 (I.ok.nofr e) (I.ok.noex b o e),I.Oa.free b o (I.ok.bs b o e).1 (I.ok.bs b o e).2 (I.ok.noex b o e)⟩
theorem aG.bk (I:aG X O9 σ H s):∀b o,X.Oa.get? b>o->s.heap.get? b>o:=λb o e=>(I.bs b o e).1
theorem aG.mod (I:aG X O9 σ H s):Mod X.K X.mg X.Oa:=I.ok.mod
theorem aG.kIn (I:aG X O9 σ H s):X.K.In s.heap:=I.ok.mod.kin.keeps I.bk
theorem aG.lt (I:aG X O9 σ H s):X.env.locals<~~~s:=let ⟨_,hn,_⟩:=I.loc;hn.lt
theorem aG.sz (I:aG X O9 σ H s): ~~~X.s₀<= ~~~s:=Jt I.ok.above (JX I.lt)
theorem aG.nofs (I:aG X O9 σ H s){a:N8}(h: ~~~s<=a):a∉X.fs:=λhb=>by
 let⟨_,o,b,_⟩:=I.ok.funs.mem hb
 show absurd (JM (Jj b) (Jt I.sz h)) (JU _)
theorem aG.cne (I:aG X O9 σ H s):∀x c,X.env.cells.lookup x>c->c≠X.env.locals:=λx c e z=>by
 let⟨v,o,d,f⟩:=I.cell x c e
 let⟨m,⟨o',es,ep,b,a,_⟩,_⟩:=I.loc
 rw[z,b] at d;cases d;rw[a] at f;cases f
theorem aG.funs (I:aG X O9 σ H s):s.heap.FunFrames X.Oa X.outer:=by
 let all:∀(l:-O0),(∀b∈vX l,b∈X.fs)->X.s₀.heap.FunFrames X.Oa l->s.heap.FunFrames X.Oa l:=by
  intro l
  induction l with
  |nil=>intro _ _;trivial
  |cons env r ih=>
   intro hs g
   let⟨d,⟨L,o,hf,h,c,f⟩,hr⟩:=g
   let a:L∈X.fs:=hs L (by unfold vX;rw[List.filterMap_cons,hf];show JA)
   let⟨i,e⟩:=I.Oa.slot L o c (I.ok.frf L a) a λz=>I.ok.exfs L z a
   show⟨d,⟨L,_,hf,h,e,f⟩,ih (λb hb=>hs b (by unfold vX;rw[List.filterMap_cons,hf];show JC _ hb)) hr⟩
 show all X.outer (λ_ hb=>hb) I.ok.funs
theorem aG.stack (I:aG X O9 σ H s):s.heap.FunFrames X.Oa X.stack:=by
 rcases I.ok.stk with e|⟨e,hf⟩
 ·rw[e];show I.funs
 ·rw[e]
  let⟨m,a,_⟩:=I.loc
  show .cons (by rw[I.ok.kind];decide) hf a ?_ I.funs
  show Ku (Jt I.ok.bsz I.ok.above)
theorem aG.stkSub (I:aG X O9 σ H s):∀b∈vX X.stack,b∈X.env.locals::X.fs:=λb hb=>by
 rcases I.ok.stk with e|⟨e,hf⟩
 ·rw[e] at hb;show JC _ hb
 ·rw[e] at hb
  unfold vX at hb
  rw[List.filterMap_cons,hf] at hb
  show hb
theorem aG.stkFree (I:aG X O9 σ H s):∀b∈vX X.stack,H b=none:=λb hb=>by
 rcases Jk.mp (I.stkSub b hb) with e|hb
 ·rw[e];show I.free
 ·let⟨_,o,a,_⟩:=I.ok.funs.mem hb
  show I.Oa.free b o a (I.ok.frf b hb) λz=>I.ok.exfs b z hb
theorem aG.step {g':Array NU}{t':Nat}{d':Drawn}{ch:-N8}(I:aG X O9 σ H s)
  (A:∀b∈ch,(b∈X.ex\/~~~X.s₀<=b)/\b≠X.env.locals/\(∀x c,X.env.cells.lookup x>c->c≠b)/\∀p∈X.pn++O9,p.1≠b)
  (keep:∀b o,b≠X.env.locals->b∉X.fs->b∉ch->s.heap.get? b>o->H b=none->h'.get? b>o)
  (C:∀b o,b≠X.env.locals->b∈X.fs->b∉ch->s.heap.get? b>o->H b=none->∃K,h'.get? b=some {o with slots:=K}) (free:∀b o,b∉ch->s.heap.get? b>o->H b=none->H' b=none)
  (there:∀b o,b∉ch->s.heap.get? b>o->∃o',h'.get? b>o')
  (tups:∀b xs,H b>.tup xs->H' b>.tup xs) (E:∀b o u,H b>.frz o u->H' b>.frz o u) (J:∀b ps,H b>.tbl ps->∃more,H' b>.tbl (ps++more))
  (ns:∀m,s.heap.Ns X.env.locals m->h'.Ns X.env.locals m) (N:iu X.prog X.w H' h') (Q:AllBare g'):
  aG X O9 σ H' {s with heap:=h',gens:=g',drawn:=d',toks:=t'}:=by
 let h:∀b o,X.s₀.heap.get? b>o->b≠X.env.locals:=λb o e=>Jm (JM (Jj e) I.ok.above)
 let f:∀b o,X.s₀.heap.get? b>o->b∉X.ex->b∉ch:=λb o e y hb=>by
  rcases(A b hb).1 with z|z
  ·show y z
  ·show absurd (JM (Jj e) z) (JU _)
 let g:∀x c,X.env.cells.lookup x>c->∀v,s.heap.IsCell c v->h'.IsCell c v:=λx c e v L=>by
  let⟨o,D,M⟩:=L
  let a:c∉ch:=λz=>(A c z).2.2.1 x c e Z
  by_cases hc:c∈X.fs
  ·let⟨K,q⟩:=C c o (I.cne x c e) hc a D (I.freeC x c e)
   show⟨_,q,M⟩
  ·show⟨o,keep c o (I.cne x c e) hc a D (I.freeC x c e),M⟩
 show⟨I.ok,I.os,Q,⟨λb o e n hb y=>?_,λb o e n hb y=>?_,λb o e n y=>?_,λb o e y=>?_,λb xs e=>tups b xs (I.Oa.tups b xs e),λb o xs e=>E b o xs (I.Oa.frzs b o xs e),λb ps e=>?_⟩,?_,λx c e=>?_,?_,λx c e=>?_,λp hp=>?_,N,I.len⟩
 ·show keep b o (h b o e) hb (f b o e y) (I.Oa.keep b o e n hb y) (I.Oa.free b o e n y)
 ·let⟨K,B⟩:=I.Oa.slot b o e n hb y
  let⟨j,F⟩:=C b _ (h b o e) hb (f b o e y) B (I.Oa.free b o e n y)
  show⟨j,F⟩
 ·let⟨o',B⟩:=I.Oa.there b o e y
  show free b o' (f b o e y) B (I.Oa.free b o e n y)
 ·let⟨o',B⟩:=I.Oa.there b o e y
  show there b o' (f b o e y) B
 ·let⟨S,B⟩:=I.Oa.tbls b ps e
  let⟨U,F⟩:=J b _ B
  show⟨S++U,by rw[F,Array.append_assoc]⟩
 ·let⟨m,W,R⟩:=I.loc
  show⟨m,ns m W,λi x v B F T=>?_⟩
  let⟨u,r,l⟩:=R i x v B F T
  show⟨u,r,?_⟩
  rcases l with l|⟨k,c,e,z⟩
  ·show .inl l
  ·show .inr ⟨k,c,e,g x c e _ z⟩
 ·let⟨v,z⟩:=I.cell x c e
  show⟨v,g x c e v z⟩
 ·let⟨m,⟨o,_,_,D,_⟩,_⟩:=I.loc
  show free _ o (λz=>(A _ z).2.1 Z) D I.free
 ·let⟨v,o,D,M⟩:=I.cell x c e
  show free c o (λz=>(A c z).2.2.1 x c e Z) D (I.freeC x c e)
 ·let⟨e,n,P,O,d⟩:=I.pin p hp
  let a:p.1∉ch:=λz=>(A p.1 z).2.2.2 p hp Z
  show⟨keep p.1 p.2 P O a e n,free p.1 p.2 a e n,P,O,d⟩
theorem aG.un(I:aG X O9 σ H s)(u:Un X.fs [] H H' s.heap h')(f:iu X.prog X.w H' h'):aG X O9 σ H' {s with heap:=h',toks:=t'}:=by
 let⟨m,⟨o,es,ep,g,r⟩,_⟩:=id I.loc
 let⟨j,i⟩:=u.any g I.free (by simp)
 show I.step (g':=s.gens) (d':=s.drawn) (ch:=[]) (λ_ z=>by cases z) (λb o _ hb _ e n=>u.keep b o e n hb (by simp)) (λb o _ hb _ e n=>u.slot b o e n hb (by simp)) (λb o _ e n=>u.free b o e n (by simp)) (λb o _ e=>u.there b o e (by simp)) u.tups u.frzs u.tbls (λk hm=>by
  let⟨o',c,d,a,h⟩:=hm
  rw[g] at a;cases a
  show⟨_,c,d,i,h⟩) f I.bare
theorem aG.call {g':Array NU}{d':Drawn}(I:aG X O9 σ H s)(u:Un (vX X.stack) ch H H' s.heap h')(j:iu X.prog X.w H' h')(q:AllBare g')
  (h:∀b∈ch,(b∈X.ex\/~~~X.s₀<=b)/\b≠X.env.locals/\(∀x c,X.env.cells.lookup x>c->c≠b)/\∀p∈X.pn++O9,p.1≠b):
  aG X O9 σ H' {s with heap:=h',gens:=g',drawn:=d',toks:=t'}:=by
 let⟨m,⟨o,es,ep,k,r⟩,_⟩:=id I.loc
 let⟨v,i⟩:=u.any k I.free λz=>(h _ z).2.1 Z
 show I.step (ch:=ch) h (λb o i hb g e n=>u.keep b o e n (λz=>(Jk.mp (I.stkSub b z)).elim i hb) g) (λb o _ _ g e n=>u.any e n g) (λb o g e n=>u.free b o e n g) (λb o g e=>u.there b o e g) u.tups u.frzs u.tbls (λy hm=>by
  let⟨o',d,f,a,l⟩:=hm
  rw[k] at a;cases a
  show⟨_,d,f,i,l⟩) j q
theorem aG.tok (I:aG X O9 σ H s)(t:Nat):aG X O9 σ H {s with toks:=t}:=I.un (h':=s.heap) (t':=t) Un.refl I.hok
theorem aG.kept(I:aG X O9 σ H s)(k:∀b u,s.heap.get? b>u->h'.get? b>u):aG X O9 σ H {s with heap:=h',toks:=t'}:=I.un (Un.kept k) (I.hok.kept k)
theorem aG.laid(I:aG X O9 σ H s)(k:∀b u,s.heap.get? b>u->h'.get? b>u)(c: ~~~s<=a)(new:bN X.prog X.w (Oc H a o) h' a o):
  aG X O9 σ (Oc H a o) {s with heap:=h',toks:=t'}:=I.un (Un.laid k c (I.hok.fresh c)) (I.hok.laid k c new)
theorem aG.write(I:aG X O9 σ H s)(c:Bm (H x))(d:e=x\/H e>.own x)(k:∀b u,b≠e->s.heap.get? b>u->h'.get? b>u)(a:∃u,h'.get? e>u)
  (new:bN X.prog X.w (Oc H x o) h' x o):aG X O9 σ (Oc H x o) {s with heap:=h',toks:=t'}:=I.un (Un.write c d k a) (I.hok.write c d k a new)
theorem aG.pins_of {a:-(N8×Nv)}(I:aG X O9 σ H s)(h:∀p∈a,s.heap.get? p.1>p.2/\H p.1=none/\p.1≠X.env.locals/\p.1∉X.fs/\∀v,p.2.data≠.cell v):aG X a σ H s:=
 ⟨I.ok,I.os,I.bare,I.Oa,I.loc,I.cell,I.free,I.freeC,λp hp=>(Jz.mp hp).elim (λz=>I.pin p (Ld _ z)) (h p),I.hok,I.len⟩
theorem qR {N:-Nh}(e:N.Nodup){i j:Nat}{x:Nh}(a:N[i]?>x)(b:N[j]?>x):i=j:=by
 let⟨h1,d⟩:=Js.mp a
 let⟨h2,c⟩:=Js.mp b
 show(List.getElem_inj e).mp (d.trans c.symm)
theorem oR{Q:Unit->N_->Prop}(I:aG X O9 σ H s)(hN:X.N.Nodup)(L:X.N[i]?>x)(hx:Fb X.env.scope x)(r:aY v u)
  (h:∀s',aG X O9 (σ.set i (some v)) H s'->(∃a,Ng.SameBut a s.heap s'.heap/\(a=X.env.locals\/X.env.cells.lookup x>a))->Q Unit.unit s') (hf:X.fn x=true\/X.env.scope.names.lookup x>.local):Na M A (storeName X.env x u) Q E s:=by
 let⟨m,hn,hl⟩:=id I.loc
 let D:(X.env.scope.kind==.class||(X.env.scope.kind==.module&&X.env.locals !=X.env.globals))=false:=by rw[I.ok.kind];rfl
 let B:i<↑σ:=I.len<|(Js.mp L).1
 let cne:=I.cne
 let f:∀{a:N8} {h':Ng},(∃o,s.heap.get? a>o/\H a=none)->Ng.SameBut a s.heap h'->iu X.prog X.w H h':=fun{a h'} ha hs b ob e=>by
  let⟨_,_,g⟩:=ha
  show(I.hok b ob e).stay (λc P hc q=>(hs.2 c ?_).trans q) (λ_ q=>q) λ_ _ q=>q
  rintro rfl
  rcases hc with rfl|hc
  ·rw[g] at e;cases e
  ·rw[g] at hc;cases hc
 rcases hx with hk|hk
 ·show wpAny_storeName_local hk hn (λh' Y hs=>?_) D
  let⟨oL,_,_,F,_⟩:=id hn
  show h _ ⟨I.ok,I.os,I.bare,⟨λb o e n hb hx=>?_,λb o e n hb hx=>?_,I.Oa.free,λb o e hx=>?_,I.Oa.tups,I.Oa.frzs,I.Oa.tbls⟩,⟨_,Y,λj y U J K e3=>?_⟩,λy c e=>?_,I.free,I.freeC,λp hp=>?_,f ⟨oL,F,I.free⟩ hs,by simpa using I.len⟩ ⟨_,hs,.inl Z⟩
  ·show(hs.2 b (Jm (JM (Jj e) I.ok.above))).trans (I.Oa.keep b o e n hb hx)
  ·let⟨W,J⟩:=I.Oa.slot b o e n hb hx
   show⟨W,(hs.2 b (Jm (JM (Jj e) I.ok.above))).trans J⟩
  ·let⟨o',J⟩:=I.Oa.there b o e hx
   show⟨o',(hs.2 b (Jm (JM (Jj e) I.ok.above))).trans J⟩
  ·by_cases hj:j=i
   ·subst hj
    rw[L] at J;cases J
    rw[LH B] at K
    cases K
    show⟨u,r,.inl ⟨hk,by simp⟩⟩
   ·rw[LI (Jr hj)] at K
    let⟨u',Z0,q⟩:=hl j y U J K e3
    show⟨u',Z0,?_⟩
    rcases q with ⟨k,e⟩|⟨k,c,e,z⟩
    ·show .inl ⟨k,?_⟩
     have:y≠x:=λe=>hj (qR hN J (e▸L))
     simp[this,e]
    ·show .inr ⟨k,c,e,z.sameBut hs (cne y c e)⟩
  ·let⟨P,z⟩:=I.cell y c e
   show⟨P,z.sameBut hs (cne y c e)⟩
  ·let⟨e,n,S,T,d⟩:=I.pin p hp
   show⟨(hs.2 p.1 S).trans e,n,S,T,d⟩
 ·let l:X.fn x=true:=by
   rcases hf with z|z
   ·show z
   ·rw[z] at hk;cases hk
  let⟨c,hc⟩:=I.ok.has x (.inl hk)
  let⟨P,z⟩:=I.cell x c hc
  show wpAny_storeName_cell I.ok.kind hk hc z (λh' O hs=>?_)
  let⟨oc,w,C⟩:=id z
  show h {s with heap:=h'} ⟨I.ok,I.os,I.bare,⟨λb o e n hb hx=>?_,λb o e n hb hx=>?_,I.Oa.free,λb o e hx=>?_,I.Oa.tups,I.Oa.frzs,I.Oa.tbls⟩,⟨m,hn.sameBut hs (Jr (cne x c hc)),λj y U J K e3=>?_⟩,λy R e=>?_,I.free,I.freeC,λp hp=>?_,f ⟨oc,w,I.freeC x c hc⟩ hs,by simpa using I.len⟩ ⟨c,hs,.inr hc⟩
  ·show(hs.2 b (Jm (JM (Jj e) (I.ok.cab x c l hc)))).trans (I.Oa.keep b o e n hb hx)
  ·let⟨W,J⟩:=I.Oa.slot b o e n hb hx
   show⟨W,(hs.2 b (Jm (JM (Jj e) (I.ok.cab x c l hc)))).trans J⟩
  ·let⟨o',J⟩:=I.Oa.there b o e hx
   show⟨o',(hs.2 b (Jm (JM (Jj e) (I.ok.cab x c l hc)))).trans J⟩
  ·by_cases hj:j=i
   ·subst hj
    rw[L] at J;cases J
    rw[LH B] at K
    cases K
    show⟨u,r,.inr ⟨.inl hk,c,hc,O⟩⟩
   ·rw[LI (Jr hj)] at K
    let⟨u',Z0,q⟩:=hl j y U J K e3
    show⟨u',Z0,?_⟩
    rcases q with q|⟨k,R,e,z'⟩
    ·show .inl q
    ·show .inr ⟨k,R,e,z'.sameBut hs ?_⟩
     rintro rfl
     show hj (qR hN J (I.ok.inj _ _ _ e hc▸L))
  ·by_cases hcc:R=c
   ·subst hcc;show⟨_,O⟩
   ·let⟨w2,z2⟩:=I.cell y R e
    show⟨w2,z2.sameBut hs hcc⟩
  ·let⟨e,n,S,T,d⟩:=I.pin p hp
   show⟨(hs.2 p.1 ?_).trans e,n,S,T,d⟩
   intro q
   rw[q,w] at e
   let q':oc=p.2:=Option.some.inj e
   show d P (by rw[<-q'];show C)
theorem sv{Q:Unit->N_->Prop}(I:aG X O9 σ H s)(a:X.N.Nodup)(b:X.N[i]?>x)(hx:Fb X.env.scope x)(r:aY v u)
  (h:∀s',aG X O9 (σ.set i (some v)) H s'->Q Unit.unit s') (hf:X.fn x=true\/X.env.scope.names.lookup x>.local):Na M A (storeName X.env x u) Q E s:=
 oR I a b hx r (λs' I' _=>h s' I') hf
theorem aG.call'(I:aG X O9 σ H s)(j:s'.os=s.os)(u:Un (vX X.stack) ch H H' s.heap s'.heap)(d:iu X.prog X.w H' s'.heap)(i:AllBare s'.gens)
  (a:∀b∈ch,(b∈X.ex\/~~~X.s₀<=b)/\b≠X.env.locals/\(∀x c,X.env.cells.lookup x>c->c≠b)/\∀p∈X.pn++O9,p.1≠b):aG X O9 σ H' s':=by
 let⟨h',h,g,f,o'⟩:=s'
 let e:o'=s.os:=j
 subst e
 show I.call (g':=h) (t':=f) (d':=g) u d i a
end
abbrev XK:=N7->Option N8->Hp->Prop
abbrev St:=-(Option V)
variable {X:Cx} {O9:-(N8×Nv)} {σ:St} {H:Hp} {s:N_} {prog:Ni} {w:Nr} {A:Nu} {E:N7->N_->Prop} {K:Je} {mg:Nh->Option N7} {Oa:Ng}
abbrev VK:=V->Hp->Prop
abbrev TE:=St->Hp->VK->Prop
abbrev TT:=St->Hp->(Bool->Hp->Prop)->Prop
abbrev TA:=St->Hp->(-V->Hp->Prop)->Prop
structure jf where
 nx:St->Hp->Prop
 rt:VK
 bk:St->Hp->Prop:=λ_ _=>False
 ct:St->Hp->Prop:=λ_ _=>False
abbrev TS:=jf->St->Hp->Prop
def EP (X:Cx) (a:-(N8×Nv)) (c:St) (Q:VK) (u:N7) (b:N_):Prop:=∃v H',aG X a c H' b/\aY v u/\Q v H'
def TP (X:Cx) (a:-(N8×Nv)) (d:St) (Q:Bool->Hp->Prop) (b:Bool) (c:N_):Prop:=∃H',aG X a d H' c/\Q b H'
def AP (X:Cx) (a:-(N8×Nv)) (c:St) (Q:-V->Hp->Prop) (us:-N7) (b:N_):Prop:=∃vs H',aG X a c H' b/\a8 vs us/\Q vs H'
def SP (X:Cx) (b:-(N8×Nv)) (D:jf) (f:Flow) (c:N_):Prop:=
 match f with
 | .next=>∃a H',aG X b a H' c/\D.nx a H'
 | .brk=>∃a H',aG X b a H' c/\D.bk a H'
 | .cont=>∃a H',aG X b a H' c/\D.ct a H'
 | .ret u=>∃v a H',aG X b a H' c/\aY v u/\D.rt v H'
def PE (X:Cx) (e:Nw) (t:TE):Prop:=
 ∀(O9:-(N8×Nv)) (s:N_) (σ:St) (H:Hp) (Q:VK),aG X O9 σ H s->t σ H Q->Na (Nd X.prog X.w) X.A (eval e X.env) (EP X O9 σ Q) X.xe s
def PT (X:Cx) (e:Nw) (t:TT):Prop:=
 ∀(O9:-(N8×Nv)) (s:N_) (σ:St) (H:Hp) (Q:Bool->Hp->Prop),aG X O9 σ H s->t σ H Q->Na (Nd X.prog X.w) X.A (isTrue e X.env (eval e X.env)) (TP X O9 σ Q) X.xe s
def PW (X:Cx) (e:Nw) (t:TT):Prop:=
 ∀(rQ:Sem N7) (O9:-(N8×Nv)) (s:N_) (σ:St) (H:Hp) (Q:Bool->Hp->Prop),aG X O9 σ H s->t σ H Q->Na (Nd X.prog X.w) X.A (isTrue e X.env rQ) (TP X O9 σ Q) X.xe s
theorem PW.pt(h:PW X e t):PT X e t:=h _
def PA (X:Cx) (a:-Nw) (t:TA):Prop:=
 ∀(pos:O2) (O9:-(N8×Nv)) (s:N_) (σ:St) (H:Hp) (Q:-V->Hp->Prop),aG X O9 σ H s->t σ H Q->Na (Nd X.prog X.w) X.A (spliced (NG pos (Nf a X.env))) (AP X O9 σ Q) X.xe s
def PS (X:Cx) (st:Nn) (t:TS):Prop:=
 ∀(O9:-(N8×Nv)) (s:N_) (σ:St) (H:Hp) (D:jf),aG X O9 σ H s->t D σ H->Na (Nd X.prog X.w) X.A (exec st X.env) (SP X O9 D) X.xe s
def sM (X:Cx) (st:-Nn) (t:TS):Prop:=
 ∀(O9:-(N8×Nv)) (s:N_) (σ:St) (H:Hp) (D:jf),aG X O9 σ H s->t D σ H->Na (Nd X.prog X.w) X.A (execs st X.env) (SP X O9 D) X.xe s
theorem cz {c:Type}{t:Sem c}{Q b:c->N_->Prop}(h:Na M A t Q E s)(d:∀a s,Q a s->b a s):Na M A t b E s:=J3 h d λ_ _ x=>x
section
def cR (i:Nat):TE:=λσ H Q=>∃v,σ[i]?>some v/\Q v H
def tC (v:V):TE:=λ_ H Q=>Q v H
theorem z_(j:X.N[i]?>x)(hv:Hh X.env.scope x)(f:(x==("__debug__" :Nh))=false:=by decide)(d:(x==("__classdict__" :Nh))=false:=by decide):PE X (.Name x pos) (cR i):=by
 intro O9 s σ H Q I h
 let⟨v,e,h⟩:=h
 let⟨m,n,k⟩:=I.loc
 let⟨u,r,l⟩:=k i x v j e hv
 let a:EP X O9 σ Q u s:=⟨v,H,I,r,h⟩
 rcases l with ⟨hk,hm⟩|⟨hk,c,g,b⟩
 ·show wpAny_Name (wpAny_loadName_local I.ok.kind hk n hm a) f
 ·rcases hk with hk|hk
  ·show wpAny_Name (wpAny_loadName_cell I.ok.kind hk g b a) f
  ·show wpAny_Name (wpAny_loadName_free I.ok.kind hk g b a d) f
theorem ai {i j pos}:PE X (.Constant (.int i) j pos) (tC (.int i)):=λ_ _ _ H _ I h=>wpAny_Constant_int ⟨.int i,H,I.tok _,⟨_,Z⟩,h⟩
theorem cI {b j pos}:PE X (.Constant (.bool b) j pos) (tC (.bl b)):=λ_ _ _ H _ I h=>Constant_bool ⟨.bl b,H,I,Z,h⟩
theorem qF {j pos}:PE X (.Constant .none j pos) (tC .non):=λ_ _ _ H _ I h=>Constant_none ⟨.non,H,I,Z,h⟩
theorem pP {x j pos}:PE X (.Constant (.str x) j pos) (tC (.str x)):=λ_ _ _ H _ I h=>Calls.Constant_str ⟨.str x,H,I.tok _,⟨_,Z⟩,h⟩
def Gl (X:Cx) (x:Nh):Prop:=X.env.kindOf x>.globalImplicit
theorem qC(I:aG X O9 σ H s)(a:Gl X x)(b:X.mg x>u)(h:Q u s)
  (c:(x==("__debug__" :Nh))=false:=by decide):Na (Nd X.prog X.w) X.A (eval (.Name x pos) X.env) Q E s:=
 Calls.Name_function_global I.ok.kind a (Calls.loadGlobal_global (I.ok.glob<|I.mod.glob.keeps I.bk) b h) c
theorem iJ(I:aG X O9 σ H s)(a:Gl X x)(b:X.mg x=none)(hv:NC x>u)(h:Q u s)
  (d:x≠ "__name__" :=by decide) (c:(x==("__debug__" :Nh))=false:=by decide):Na (Nd X.prog X.w) X.A (eval (.Name x pos) X.env) Q E s:=by
 let⟨e,h1,h2⟩:=I.mod.blt
 show Calls.Name_function_global I.ok.kind a (Calls.loadGlobal_builtin (I.ok.glob<|I.mod.glob.keeps I.bk) b (I.ok.blt<|h1.keeps I.bk) ((h2 x d).trans hv) h) c
theorem wd(a:Gl X x)(b:X.mg x>u)(r:aY v u)(c:(x==("__debug__" :Nh))=false:=by decide):PE X (.Name x pos) (tC v):=
 λ_ _ _ H _ I h=>qC I a b ⟨v,H,I,r,h⟩ c
variable {a b:Nw} {ta tb:TE} {pos:O2}
def PC (X:Cx) (op:CmpOp) (a b:Nw) (t:TE):Prop:=
 ∀(O9:-(N8×Nv)) (s:N_) (σ:St) (H:Hp) (Q:VK),aG X O9 σ H s->t σ H Q->
  Na (Nd X.prog X.w) X.A (eval a X.env) (λv d=>Na (Nd X.prog X.w) X.A (eval b X.env) (λu c=>Na (Nd X.prog X.w) X.A (Nk op v u) (EP X O9 σ Q) X.xe c) X.xe d) X.xe s
def tB (t:TE):TT:=λσ H Q=>t σ H λx H1=>∃c,x=.bl c/\Q c H1
theorem mW(h:PC X op a b t)(h1:behindInMarks op b=false:=by rfl):PE X (.Compare a [op] [b] pos) t:=λO9 s σ H Q I c=>wpAny_Compare1 (h O9 s σ H Q I c) h1
theorem gw(h:PC X op a b t)(h1:behindInMarks op b=false:=by rfl):PT X (.Compare a [op] [b] pos) (tB t):=by
 intro O9 s σ H Q I i
 show wpAny_isTrue_Compare1 (cz (h O9 s σ H _ I i) λv s1 h1=>cz h1 λu j h2=>cz h2 λc k e=>?_) h1
 let⟨x,H1,I1,f,g⟩:=e
 let⟨d,rfl,q⟩:=g
 cases f
 show Kl ⟨H1,I1,q⟩
theorem dq(h:PE X e t)(f:∀rQ,isTrue e X.env rQ=(do let v<-rQ;standAt e.pos;holding [v] (truthy v)):=by intro _;rfl):PT X e (tB t):=by
 intro O9 s σ H Q I g
 show isTrue_plain (cz (h O9 s σ H _ I g) λv s1 a=>?_) (f _)
 let⟨x,H1,I1,b,c⟩:=a
 let⟨d,rfl,q⟩:=c
 cases b
 show Kl ⟨H1,I1,q⟩
variable {tA tB':TT} {df:-Nw}
def Gf (t u:TT):TT:=λσ H Q=>t σ H λc H1=>if c=true then u σ H1 Q else Q false H1
def F9 (t u:TT):TT:=λσ H Q=>t σ H λc H1=>if c=true then Q true H1 else u σ H1 Q
def EM (t:TT):TT:=λσ H Q=>t σ H λc H1=>Q (!c) H1
theorem eG (b:PT X a tA):PW X (.BoolOp .And [a] pos) tA:=by
 intro d O9 s σ H Q I h
 show isTrue_and (cz (b O9 s σ H Q I h) λc s1 e=>?_)
 cases c with
 |true=>show isTrue_and_nil e
 |false=>show e
theorem fy (b:PT X a tA):PW X (.BoolOp .Or [a] pos) tA:=by
 intro d O9 s σ H Q I h
 show isTrue_or (cz (b O9 s σ H Q I h) λc s1 e=>?_)
 cases c with
 |false=>show isTrue_or_nil e
 |true=>show e
theorem fQ (g:PT X a tA)(f:PW X (.BoolOp .And (b::df) pos) tB'):PW X (.BoolOp .And (a::b::df) pos) (Gf tA tB'):=by
 intro i O9 s σ H Q I h
 show isTrue_and (cz (g O9 s σ H _ I h) λc s1 d=>?_)
 let⟨H1,I1,e⟩:=d
 cases c with
 |true=>show f i O9 s1 σ H1 Q I1 e
 |false=>show⟨H1,I1,e⟩
theorem fT (g:PT X a tA)(f:PW X (.BoolOp .Or (b::df) pos) tB'):PW X (.BoolOp .Or (a::b::df) pos) (F9 tA tB'):=by
 intro i O9 s σ H Q I h
 show isTrue_or (cz (g O9 s σ H _ I h) λc s1 d=>?_)
 let⟨H1,I1,e⟩:=d
 cases c with
 |true=>show⟨H1,I1,e⟩
 |false=>show f i O9 s1 σ H1 Q I1 e
theorem dw (b:PT X a tA):PT X (.UnaryOp .Not a pos) (EM tA):=by
 intro O9 s σ H Q I h
 show isTrue_not (b O9 s σ H (λc H1=>Q (!c) H1) I h)
def Df (ta a:TE):TE:=λσ H Q=>ta σ H λx H1=>∃c,x=.bl c/\if c=true then a σ H1 Q else Q (.bl false) H1
def FH (ta a:TE):TE:=λσ H Q=>ta σ H λx H1=>∃c,x=.bl c/\if c=true then Q (.bl true) H1 else a σ H1 Q
theorem gR {op}{t:TE}(h:PE X a t):PE X (.BoolOp op [a] pos) t:=λO9 s σ H Q I b=>BoolOp_one (h O9 s σ H Q I b)
theorem gu (g:PE X a ta)(f:PE X (.BoolOp .And (b::df) pos) tb):PE X (.BoolOp .And (a::b::df) pos) (Df ta tb):=by
 intro O9 s σ H Q I h
 show BoolOp_and (cz (g O9 s σ H _ I h) λv s1 e=>?_)
 let⟨x,H1,I1,i,d⟩:=e
 let⟨c,rfl,d⟩:=d
 cases i
 show Kl ?_
 cases c with
 |true=>show f O9 s1 σ H1 Q I1 d
 |false=>show⟨.bl false,H1,I1,Z,d⟩
theorem Gw (g:PE X a ta)(f:PE X (.BoolOp .Or (b::df) pos) tb):PE X (.BoolOp .Or (a::b::df) pos) (FH ta tb):=by
 intro O9 s σ H Q I h
 show BoolOp_or (cz (g O9 s σ H _ I h) λv s1 e=>?_)
 let⟨x,H1,I1,i,d⟩:=e
 let⟨c,rfl,d⟩:=d
 cases i
 show Kl ?_
 cases c with
 |false=>show f O9 s1 σ H1 Q I1 d
 |true=>show⟨.bl true,H1,I1,Z,d⟩
def GA (t:TT) (ta a:TE):TE:=λσ H Q=>t σ H λc H1=>if c=true then ta σ H1 Q else a σ H1 Q
theorem jW(g:PT X c tA)(j:PE X a ta)(i:PE X b tb):PE X (.IfExp c a b pos) (GA tA ta tb):=by
 intro O9 s σ H Q I h
 show wpAny_IfExp (cz (g O9 s σ H _ I h) λd s1 e=>?_)
 let⟨H1,I1,f⟩:=e
 cases d with
 |true=>show j O9 s1 σ H1 Q I1 f
 |false=>show i O9 s1 σ H1 Q I1 f
end
def aM (K:Je) (H:Hp) (a:N8) (xs:-V):Prop:=
 Rd H a (.lst xs)\/
  ∃(o:Nv) (b:Array N7) (n:Nat),K.lookup a>o/\o.cls=.type "list" /\o.dict=none/\o.data=.seq b n/\b.size<=N9/\a8 xs b.toList
def bh (K:Je) (H:Hp) (a:N8) (xs:-V):Prop:=
 Rd H a (.tup xs)\/
  ∃(o:Nv) (b:Array N7) (n:Nat),K.lookup a>o/\o.cls=.type "tuple" /\o.data=.seq b n/\b.size<=N9/\a8 xs b.toList
noncomputable def Hy:N7->Option V
 | .none=>some .non
 | .bool b=>some (.bl b)
 | .int i _=>some (.int i)
 | .str x _=>some (.str x)
 | .bytes b _=>some (.byt b)
 | .float b _=>some (.flt b)
 | .ref a=>some (.ref a)
 | .type n=>some (.ty n)
 |_=>none
theorem aY.abs(r:aY x u):Hy u>x:=by
 cases x with
 |non=>cases r;rfl
 |bl _=>cases r;rfl
 |int _=>let⟨t,rfl⟩:=r;rfl
 |str _=>let⟨t,rfl⟩:=r;rfl
 |byt _=>let⟨t,rfl⟩:=r;rfl
 |flt _=>let⟨t,rfl⟩:=r;rfl
 |ref _=>cases r;rfl
 |ty _=>cases r;rfl
theorem aY.inj(r:aY x u)(q:aY y u):x=y:=Option.some.inj (r.abs.symm.trans q.abs)
theorem a8.inj(h:a8 xs us)(g:a8 ys us):xs=ys:=by
 induction h generalizing ys with
 |nil=>
  cases g
  rfl
 |cons r t ih=>
  cases g with
  |cons r' t'=>rw[r.inj r',ih t']
section
variable {a:N8} {xs ys:-V}
theorem aM.of (h:H a>.lst xs):aM K H a xs:=.inl (.inl h)
theorem bh.of (h:H a>.tup xs):bh K H a xs:=.inl (.inl h)
theorem aG.list (I:aG X O9 σ H s)(h:aM X.K H a xs):∃b:-N7,a8 xs b/\PlainL s.heap a b.toArray/\↑xs<=N9:=by
 rcases h with h|⟨o,b,n,d,c,f,hs,g,r⟩
 ·let⟨z,b,n,r,e⟩:=h.ok I.hok
  show⟨b,r,⟨_,n,e,Z,Z,Z⟩,z⟩
 ·show⟨b.toList,r,⟨o,n,I.kIn a o d,c,f,by simpa using hs⟩,?_⟩
  let e:=↑r
  simp only[J4] at e
  lia
theorem aG.tuple (I:aG X O9 σ H s)(h:bh X.K H a xs):∃b:-N7,a8 xs b/\IsTup s.heap a b.toArray/\↑xs<=N9:=by
 rcases h with h|⟨o,b,n,d,c,hs,f,r⟩
 ·let⟨z,b,r,p⟩:=h.ok I.hok
  show⟨b,r,p,z⟩
 ·show⟨b.toList,r,⟨o,I.kIn a o d,c,n,by simpa using hs⟩,?_⟩
  let e:=↑r
  simp only[J4] at e
  lia
theorem aG.list_inj (I:aG X O9 σ H s)(h:aM X.K H a xs)(h':aM X.K H a ys):xs=ys:=by
 let⟨b,r,⟨o,n,e,_,_,d⟩,_⟩:=I.list h
 let⟨its',g,⟨o',i,f,_,_,c⟩,_⟩:=I.list h'
 rw[e] at f;cases f
 rw[d] at c
 injection c with d1 _
 have:b=its':=by simpa using congrArg Array.toList d1
 subst this
 show r.inj g
theorem aG.tuple_inj (I:aG X O9 σ H s)(h:bh X.K H a xs)(h':bh X.K H a ys):xs=ys:=by
 let⟨b,r,⟨o,e,_,n,d⟩,_⟩:=I.tuple h
 let⟨its',g,⟨o',f,_,i,c⟩,_⟩:=I.tuple h'
 rw[e] at f;cases f
 rw[d] at c
 injection c with d1 _
 have:b=its':=by simpa using congrArg Array.toList d1
 subst this
 show r.inj g
end
abbrev Cx.wish (X:Cx) (E:N7->N_->Prop):Cx:={X with xe:=E}
abbrev Cx.nox (X:Cx):Cx:=X.wish λ_ _=>False
theorem Cx.Ok.wish (ok:X.Ok)(E:N7->N_->Prop):(X.wish E).Ok:=
 ⟨ok.mod,ok.kind,ok.glob,ok.blt,ok.above,ok.inj,ok.has,ok.cab,ok.hd,ok.frames,ok.stk,ok.exf,ok.bs,ok.bsz,ok.noex,ok.exfs,ok.funs,ok.frf⟩
theorem Cx.Ok.unwish (ok:(X.wish E).Ok):X.Ok:=
 ⟨ok.mod,ok.kind,ok.glob,ok.blt,ok.above,ok.inj,ok.has,ok.cab,ok.hd,ok.frames,ok.stk,ok.exf,ok.bs,ok.bsz,ok.noex,ok.exfs,ok.funs,ok.frf⟩
theorem aG.wish (I:aG X O9 σ H s)(E:N7->N_->Prop):aG (X.wish E) O9 σ H s:=⟨I.ok.wish E,I.os,I.bare,I.Oa,I.loc,I.cell,I.free,I.freeC,I.pin,I.hok,I.len⟩
theorem aG.unwish (I:aG (X.wish E) O9 σ H s):aG X O9 σ H s:=⟨I.ok.unwish,I.os,I.bare,I.Oa,I.loc,I.cell,I.free,I.freeC,I.pin,I.hok,I.len⟩
theorem SP.unwish{f:Flow}(h:SP (X.wish E) O9 D f s'):SP X O9 D f s':=by
 cases f with
 |next=>let⟨a,H',I,q⟩:=h;show⟨a,H',I.unwish,q⟩
 |brk=>let⟨a,H',I,q⟩:=h;show⟨a,H',I.unwish,q⟩
 |cont=>let⟨a,H',I,q⟩:=h;show⟨a,H',I.unwish,q⟩
 |ret u=>let⟨v,a,H',I,r,q⟩:=h;show⟨v,a,H',I.unwish,r,q⟩
theorem sM.nox{st:-Nn}(h:sM X.nox st t):sM X st t:=λO9 s σ H D I a=>
 J3 (h O9 s σ H D (I.wish _) a) (λ_ _ q=>q.unwish) λ_ _ z=>False.elim z
section
variable {st:Nn} {df:-Nn} {t u:TS} {e:Nw} {te:TE} {pos:O2}
def qJ:TS:=λD σ H=>D.nx σ H
def gr (t u:TS):TS:=λD σ H=>t {D with nx:=u D} σ H
theorem pd:sM X [] qJ:=λ_ _ σ H _ I h=>wpAny_execs_nil ⟨σ,H,I,h⟩
theorem ak (h1:PS X st t)(b:sM X df u):sM X (st::df) (gr t u):=by
 intro O9 s σ H D I h
 show wpAny_execs_cons (cz (h1 O9 s σ H {D with nx:=u D} I h) λf s1 q=>?_)
 cases f with
 |next=>
  let⟨a,H',I',q⟩:=q
  show b O9 s1 a H' D I' q
 |ret v=>show q
 |brk=>show q
 |cont=>show q
theorem a9 (h1:PS X st t):sM X [st] t:=by
 intro O9 s σ H D I h
 show wpAny_execs_cons (cz (h1 O9 s σ H D I h) λf s1 q=>?_)
 cases f with
 |next=>show wpAny_execs_nil q
 |ret v=>show q
 |brk=>show q
 |cont=>show q
theorem aG.quiet (I:aG X O9 σ H s):interactive X.env=false:=by simp[interactive,I.ok.kind]
def yQ (te:TE):TS:=λD σ H=>te σ H λ_ H1=>D.nx σ H1
theorem aV (b:PE X e te)(d:swapsWith e none pos.line X.env=pure false:=by rfl):PS X (.Expr e pos) (yQ te):=by
 intro O9 s σ H D I h
 show wpAny_Expr_any (cz (b O9 s σ H _ I h) λv s1 a=>by let⟨x,H1,I1,f,c⟩:=a;show⟨σ,H1,I1,c⟩) I.quiet d
def zL (te:TE):TS:=λD σ H=>te σ H D.rt
theorem aD (c:PE X e te):PS X (.Return (some e) pos) (zL te):=by
 intro O9 s σ H D I h
 show wpAny_Return_some (cz (c O9 s σ H _ I h) λv s1 a=>by let⟨x,H1,I1,b,d⟩:=a;show⟨x,σ,H1,I1,b,d⟩)
def mG (c:TT) (t u:TS):TS:=λD σ H=>c σ H λb H1=>if b=true then t D σ H1 else u D σ H1
theorem sP(g:PT X c tc)(j:sM X a t)(i:sM X b u):PS X (.If c a b pos) (mG tc t u):=by
 intro O9 s σ H D I h
 show wpAny_If (cz (g O9 s σ H _ I h) λd s1 e=>?_)
 let⟨H1,I1,f⟩:=e
 cases d with
 |true=>show j O9 s1 σ H1 D I1 f
 |false=>show i O9 s1 σ H1 D I1 f
def DT:TS:=λ_ _ _=>False
theorem dz:PS X st DT:=λ_ _ _ _ _ _ h=>h.elim
end
abbrev TG:=V->St->Hp->(St->Hp->Prop)->Prop
abbrev C7:=-V->St->Hp->(St->Hp->Prop)->Prop
def PG (X:Cx) (a:Nw) (t:TG):Prop:=
 ∀(O9:-(N8×Nv)) (s:N_) (σ:St) (H:Hp) (v:V) (u:N7) (Q:St->Hp->Prop),aG X O9 σ H s->aY v u->t v σ H Q->
  Na (Nd X.prog X.w) X.A (assign a X.env u) (λ_ s'=>∃b H',aG X O9 b H' s'/\Q b H') X.xe s
def EY (X:Cx) (c:-Nw) (t:C7):Prop:=
 ∀(O9:-(N8×Nv)) (s:N_) (σ:St) (H:Hp) (vs:-V) (b:-N7) (Q:St->Hp->Prop),aG X O9 σ H s->a8 vs b->t vs σ H Q->
  Na (Nd X.prog X.w) X.A (assignInOrder ((NY c X.env).map (·.2)) b) (λ_ s'=>∃a H',aG X O9 a H' s'/\Q a H') X.xe s
abbrev D4:=V->V->V->Hp->(Hp->Prop)->Prop
def FZ (X:Cx) (t:D4):Prop:=
 ∀(O9:-(N8×Nv)) (s:N_) (σ:St) (H:Hp) (o i v:V) (ov a u:N7) (Q:Hp->Prop),aG X O9 σ H s->aY o ov->aY i a->aY v u->t o i v H Q->
  Na (Nd X.prog X.w) X.A (setItem ov a u) (λ_ s'=>∃H',aG X O9 σ H' s'/\Q H') X.xe s
section
variable {pos:O2}
def eM (i:Nat):TG:=λv σ H Q=>Q (σ.set i (some v)) H
theorem BU(a:X.N.Nodup)(b:X.N[i]?>x)(hx:Fb X.env.scope x)(hf:X.fn x=true\/X.env.scope.names.lookup x>.local):PG X (.Name x pos) (eM i):=by
 intro O9 s σ H v u Q I r h
 show wpAny_assign_Name (sv I a b hx r (λs' I'=>⟨_,H,I',h⟩) hf)
def Gk:C7:=λvs σ H Q=>vs=[]/\Q σ H
noncomputable def vF (t:TG) (u:C7):C7:=λvs σ H Q=>∃v r,vs=v::r/\t v σ H λa H'=>u r a H' Q
theorem bT:EY X [] Gk:=by
 intro O9 s σ H vs a Q I r h
 let⟨e,h⟩:=h
 subst e
 cases r
 show assignInOrder_nil ⟨σ,H,I,h⟩
theorem aB(h1:PG X e t)(f:EY X es u)
  (g:(NY (e::es) X.env).map (·.2)=assign e X.env::(NY es X.env).map (·.2):=by rfl):EY X (e::es) (vF t u):=by
 intro O9 s σ H vs i Q I r h
 let⟨v,j,c,h⟩:=h
 subst c
 cases r with
 |cons r rr=>
  rw[g]
  show assignInOrder_cons (cz (h1 O9 s σ H _ _ _ I r h) λ_ s1 a=>?_)
  let⟨b,H1,I1,d⟩:=a
  show f O9 s1 b H1 _ _ Q I1 rr d
def ET (K:Je) (n:Nat) (t:C7):TG:=λv σ H Q=>∃a xs,v=.ref a/\bh K H a xs/\↑xs=n/\t xs σ H Q
theorem eJ(i:X.calm=true)(h:EY X es t)
  (q:↑(NY es X.env)=n:=by rfl) (d:(NY es X.env).findIdx? (·.1)=none:=by rfl):PG X (.Tuple es k pos) (ET X.K n t):=by
 intro O9 s σ H v u Q I r f
 let⟨a,xs,j,hq,m,f⟩:=f
 subst j
 cases r
 let⟨c,g,ht,w⟩:=I.tuple hq
 show assign_Tuple_tuple (I.ok.hd i) ht (by simp[q,<-m,g.length]) d λh' p=>?_
 let l:aG X O9 σ H {s with heap:=h'}:=I.kept (t':=s.toks) λb o e=>p b o (Jm (Jj e)) e
 show h O9 _ σ H xs _ Q l (by simpa using g) f
def HU (a b:TE) (t:D4):TG:=λv σ H Q=>a σ H λo H1=>b σ H1 λi H2=>t o i v H2 λH3=>Q σ H3
theorem Eu{t:D4}(e:PE X o to)(l:PE X i ti)(m:FZ X t)
  (n:∀v,assign (.Subscript o i pos) X.env v=(do
   let ov<-holding [v] (eval o X.env)
   let b<-holding [v,ov] (eval i X.env)
   standAt pos
   holding [v,ov,b] (setItem ov b v)
   release [v,ov,b] []):=by intro _;rfl):PG X (.Subscript o i pos) (HU to ti t):=by
 intro O9 s σ H v u Q I r h
 show Ja (Jy (cz (e O9 s σ H _ I h) λov s1 a=>?_))
 let⟨x,H1,I1,d,g⟩:=a
 show Ja (Jy (cz (l O9 s1 σ H1 _ I1 g) λb f a=>?_))
 let⟨y,H2,I2,c,j⟩:=a
 show Ja (wpAny_standAt (Ja (Jy (cz (m O9 f σ H2 x y v ov b u _ I2 d c r j) λ_ p a=>?_))))
 let⟨H3,I3,k⟩:=a
 show wpAny_release ⟨σ,H3,I3,k⟩
def lu (te:TE) (g:TG):TS:=λD σ H=>te σ H λx H1=>g x σ H1 D.nx
theorem e_(f:PE X e te)(d:PG X tg g)(j:swapsWithSole [tg] e pos.line X.env=pure false:=by rfl)(i:swappedStores [tg] e X.env=pure none:=by rfl)
  (h1:(NY [tg] X.env).map (·.2)=[assign tg X.env]:=by rfl):PS X (.Assign [tg] e pos) (lu te g):=by
 intro O9 s σ H D I h
 show wpAny_Assign_stores (cz (f O9 s σ H _ I h) λv s1 a=>?_) j i
 let⟨x,H1,I1,b,c⟩:=a
 rw[h1]
 show cz (d O9 s1 σ H1 x v _ I1 b c) λ_ k q=>q
theorem EZ(d:X.N.Nodup)(f:X.N[i]?>x)(hx:Fb X.env.scope x)(g:PE X e te)(j:swapsWith e (some (.Name x pos')) pos.line X.env=pure false:=by rfl)(hf:X.fn x=true\/X.env.scope.names.lookup x>.local):
  PS X (.Assign [.Name x pos'] e pos) (lu te (eM i)):=by
 intro O9 s σ H D I h
 show wpAny_Assign_Name (cz (g O9 s σ H _ I h) λv s1 a=>?_) j
 let⟨y,H1,I1,b,c⟩:=a
 show sv I1 d f hx b (λk I2=>⟨_,H1,I2,c⟩) hf
end
section
variable {pos:O2}
def tT (c:TT) (e:TS):TS:=λD σ H=>∃W:Nat->St->Hp->Prop,(∃m,W m σ H)/\∀m σ H,W m σ H->
 c σ H λb H1=>if b=true then∃N:St->Hp->Prop,(∀a H',N a H'->∃d,d<m/\W d a H')/\e {D with nx:=N,ct:=N,bk:=D.nx} σ H1 else D.nx σ H1
theorem rn(p:NO (Nd X.prog X.w) X.A X.env X.xe)(r:PT X c tc)(q:sM X body tb):PS X (.While c body [] pos) (tT tc tb):=by
 intro O9 s σ H D I h
 let⟨W,⟨u,x⟩,turn⟩:=h
 show wpAny_While (codeAny_whileLoop (λn s'=>∃e H',aG X O9 e H' s'/\W n e H') ?_ u ⟨σ,H,I,x⟩)
 rintro n s1 ⟨d,H1,I1,z⟩
 show KY p (cz (r O9 s1 d H1 _ I1 (turn n d H1 z)) λb y l=>?_)
 let⟨H2,I2,g⟩:=l
 cases b with
 |true=>
  let⟨N,o,g⟩:=g
  rw[N1 Z]
  show KY p (cz (q O9 y d H2 _ I2 g) λf B i=>?_)
  cases f with
  |next=>
   let⟨a,H3,I3,j⟩:=i
   let⟨k,hm,m⟩:=o a H3 j
   show⟨k,hm,a,H3,I3,m⟩
  |cont=>
   let⟨a,H3,I3,j⟩:=i
   let⟨k,hm,m⟩:=o a H3 j
   show⟨k,hm,a,H3,I3,m⟩
  |brk=>show i
  |ret v=>show i
 |false=>
  rw[N0 Jw]
  show wpAny_execs_nil ⟨d,H2,I2,g⟩
end
structure It where
 go:Nat->Hp->Prop
 yld:Nat->Hp->V->Hp->Prop
 stop:Nat->Hp->Prop
def jc (X:Cx) (a:-(N8×Nv)) (H:Hp) (b:N8):Prop:=
 H b=none/\b≠X.env.locals/\b∉X.fs/\(b∈X.ex\/~~~X.s₀<=b)/\(∀x c,X.env.cells.lookup x>c->c≠b)/\∀p∈X.pn++a,p.1≠b
theorem aG.turnedFp {h':Ng}{t':Nat}{fp:-N8}(I:aG X O9 σ H s)(hf:∀b∈fp,jc X O9 H b)(k:∀b u,b∉fp->s.heap.get? b>u->h'.get? b>u):aG X O9 σ H {s with heap:=h',toks:=t'}:=by
 show I.step (g':=s.gens) (d':=s.drawn) (t':=t') (h':=h') (ch:=fp) (λb hb=>⟨(hf b hb).2.2.2.1,(hf b hb).2.1,(hf b hb).2.2.2.2.1,(hf b hb).2.2.2.2.2⟩) (λb u _ _ hc' q _=>k b u hc' q) (λb u _ _ hc' q _=>⟨u.slots,k b u hc' q⟩) (λb u _ _ n=>n) (λb u hc' q=>⟨u,k b u hc' q⟩) (λb xs q=>q) (λb u xs q=>q) (λb ps q=>⟨#[],by rw[q];simp⟩) (λm hm=>?_) (λb u q=>?_) I.bare
 ·let⟨o',es,ep,a,r⟩:=hm
  show⟨o',es,ep,k _ o' (λz=>(hf _ z).2.1 Z) a,r⟩
 ·let yj:∀c u,H c>u->c∉fp:=λc u e z=>by rw[(hf c z).1] at e;cases e
  show(I.hok b u q).stay (λc v hc' e=>?_) (λ_ e=>e) λ_ _ e=>e
  let d:∃u',H c>u':=by
   rcases hc' with rfl|hc'
   ·show⟨_,q⟩
   ·show⟨_,hc'⟩
  let⟨u',f⟩:=d
  show k c v (yj c u' f) e
theorem aG.turned{it:N8}(I:aG X O9 σ H s)(hf:∀b∈[it],jc X O9 H b)(k:∀b u,b≠it->s.heap.get? b>u->h'.get? b>u):aG X O9 σ H {s with heap:=h',toks:=t'}:=I.turnedFp hf λb u hb=>k b u λz=>hb (by simp[z])
theorem aG.fpOk(I:aG X O9 σ H s)(a: ~~~s<=b)(d:H' b=none):jc X O9 H' b:=by
 show⟨d,Kv (JM I.lt a),I.nofs a,.inr (Jt I.sz a),λx c e z=>?_,λp hp z=>?_⟩
 ·let⟨v,q⟩:=I.cell x c e
  show absurd (JM q.lt (z<|a)) (JU _)
 ·show absurd (JM (Jj (I.pin p hp).1) (z<|a)) (JU _)
structure pR (P:Ni) (w:Nr) (K:Je) (tg:Nw) (J:It) (fp:-N8) (it:N8) (tn:Nat->Ng->Prop):Prop where
 mem:it∈fp
 obj:∀i h,tn i h->∀b∈fp,∃o,h.get? b>o/\∀v,o.data≠.cell v
 keep:∀i h h',tn i h->(∀b∈fp,∀o,h.get? b>o->h'.get? b>o)->tn i h'
 item:∀(X:Cx),X.prog=P->X.w=w->X.K=K->X.calm=true->∀(i:Nat) (O9:-(N8×Nv)) (s:N_) (σ:St) (H:Hp) (E:N7->N_->Prop),aG X O9 σ H s->(∀b∈fp,jc X O9 H b)->tn i s.heap->J.go i H->
  Na (Nd P w) X.A (NH (.ref it)) (λr s1=>∃u,r>u/\
   Na (Nd P w) X.A (letOwnedTupleGo tg (.ref it) u) (λ_ s2=>∃x H',aG X O9 σ H' s2/\aY x u/\J.yld i H x H'/\tn (i+1) s2.heap/\∀b∈fp,H' b=none) E s1) E s
 done:∀(X:Cx),X.prog=P->X.w=w->X.K=K->X.calm=true->∀(i:Nat) (O9:-(N8×Nv)) (s:N_) (σ:St) (H:Hp) (E:N7->N_->Prop),aG X O9 σ H s->(∀b∈fp,jc X O9 H b)->tn i s.heap->J.stop i H->
  Na (Nd P w) X.A (NH (.ref it)) (λr s1=>r=none/\aG X O9 σ H s1) E s
 self:∀(A:Nu) (i:Nat) (s:N_) (Q:N7->N_->Prop) (E:N7->N_->Prop),tn i s.heap->Q (.ref it) s->Na (Nd P w) A (pyIter (.ref it)) Q E s
abbrev TI:=St->Hp->(It->Hp->Prop)->Prop
def H_ (X:Cx) (a:-(N8×Nv)) (g:St) (f:Nw) (R:It->Hp->Prop) (c:N7) (d:N_):Prop:=
 ∃(it:N8) (fp:-N8) (e:Nat->Ng->Prop) (J:It) (H':Hp),c=.ref it/\aG X a g H' d/\pR X.prog X.w X.K f J fp it e/\e 0 d.heap/\(∀b∈fp,jc X a H' b)/\R J H'
def PI (X:Cx) (c a:Nw) (b:TI):Prop:=
 ∀(O9:-(N8×Nv)) (s:N_) (σ:St) (H:Hp) (R:It->Hp->Prop),aG X O9 σ H s->b σ H R->
  Na (Nd X.prog X.w) X.A (eval a X.env) (λv s1=>Na (Nd X.prog X.w) X.A (pyIter v) (H_ X O9 σ c R) X.xe s1) X.xe s
theorem q9{it:N8}{Q:Unit->N_->Prop}(d:s.heap.get? it>o)(b:o.cls=.type n)(c:o.data=.fields vs)
  (e:["enumerate", "zip", "dict_itemiterator", "dict_reverseitemiterator", "odict_iterator", "itertools.zip_longest", "itertools.pairwise"].contains n=false) (a:Q Unit.unit s):Na M A (letOwnedTupleGo tg (.ref it) u) Q E s:=by
 cases tg<;>first
  |show Jc a
  |(cases u<;>first
    |show Jc a
    |(show Ja (wpAny_load d ?_)
      rw[b,c]
      change Na M A (if (["enumerate", "zip", "dict_itemiterator", "dict_reverseitemiterator", "odict_iterator", "itertools.zip_longest", "itertools.pairwise"].contains n&&vs[0]?==some (NJ _))=true then _ else _) Q E s
      rw[N0 (by intro h;rw[e,Bool.false_and] at h;cases h)]
      show Jc a))
noncomputable def FV (K:Je) (a:N8):It:=
 ⟨λi H=>∃xs x,aM K H a xs/\xs[i]?>x,λi H x H'=>H'=H/\∀xs,aM K H a xs->xs[i]?>x,λi H=>∃xs,aM K H a xs/\↑xs<=i⟩
noncomputable def G0 (K:Je) (a:N8):It:=
 ⟨λi H=>∃xs x,bh K H a xs/\xs[i]?>x,λi H x H'=>H'=H/\∀xs,bh K H a xs->xs[i]?>x,λi H=>∃xs,bh K H a xs/\↑xs<=i⟩
noncomputable def Dc (a:Int) (n:Nat):It:=⟨λi _=>i<n,λi H x H'=>H'=H/\x=.int (a+i),λi _=>n<=i⟩
theorem w9 {P:Ni}{A:Nw}(a it:N8):pR P w K A (FV K a) [it] it (λi h=>h.IsListIter it a i) where
 mem:=by simp
 obj:=λi h st b hb=>by
  let e:b=it:=by simpa using hb
  subst e
  let⟨o,e,c,d⟩:=st
  show⟨o,e,λv z=>by rw[d] at z;cases z⟩
 keep:=λi h h' st k=>st.at λo e=>k it (by simp) o e
 item:=by
  intro X n j m r i O9 s σ H E I hf st hg
  subst n j m
  let⟨xs,x,hq,q⟩:=hg
  let⟨f,l,p,J⟩:=I.list hq
  let⟨u,B,C⟩:=l.get q
  show KZ st p.isList (x:=u) (by simpa using B) λh' g sb=>?_
  let y:aG X O9 σ H {s with heap:=h'}:=I.turned (t':=s.toks) hf (λb o hb e=>(sb.2 b hb).trans e)
  let⟨o,e,c,d⟩:=id g
  show⟨u,Z,q9 (s:={s with heap:=h'}) e c d (by decide) ⟨x,H,y,C,⟨Z,λys D=>by rw[I.list_inj D hq];show q⟩,g,λb hb=>(hf b hb).1⟩⟩
 done:=by
  intro X n j m r i O9 s σ H E I hf st hg
  subst n j m
  let⟨xs,hq,q⟩:=hg
  let⟨f,l,p,J⟩:=I.list hq
  let L:=↑l
  show wpAny_pyNext_list_end (I.ok.hd r) st p.isList (by simp;lia) λh' F=>⟨Z,I.turned (t':=s.toks) hf (λb o hb e=>F b o hb e)⟩
 self:=λ_ _ _ _ _ st h=>wpAny_pyIter_listiter st h
theorem uX {P:Ni}{A:Nw}(a it:N8):pR P w K A (G0 K a) [it] it (λi h=>h.IsTupleIter it a i) where
 mem:=by simp
 obj:=λi h st b hb=>by
  let e:b=it:=by simpa using hb
  subst e
  let⟨o,e,c,d⟩:=st
  show⟨o,e,λv z=>by rw[d] at z;cases z⟩
 keep:=λi h h' st k=>st.at λo e=>k it (by simp) o e
 item:=by
  intro X n j m r i O9 s σ H E I hf st hg
  subst n j m
  let⟨xs,x,hq,q⟩:=hg
  let⟨f,l,p,J⟩:=I.tuple hq
  let⟨u,B,C⟩:=l.get q
  show wpAny_pyNext_tuple_item st (show s.heap.IsTuple a f.toArray from p) (x:=u) (by simpa using B) λh' g sb=>?_
  let y:aG X O9 σ H {s with heap:=h'}:=I.turned (t':=s.toks) hf (λb o hb e=>(sb.2 b hb).trans e)
  let⟨o,e,c,d⟩:=id g
  show⟨u,Z,q9 (s:={s with heap:=h'}) e c d (by decide) ⟨x,H,y,C,⟨Z,λys D=>by rw[I.tuple_inj D hq];show q⟩,g,λb hb=>(hf b hb).1⟩⟩
 done:=by
  intro X n j m r i O9 s σ H E I hf st hg
  subst n j m
  let⟨xs,hq,q⟩:=hg
  let⟨f,l,p,J⟩:=I.tuple hq
  let L:=↑l
  show wpAny_pyNext_tuple_end (I.ok.hd r) st (show s.heap.IsTuple a f.toArray from p) (by simp;lia) λh' F=>⟨Z,I.turned (t':=s.toks) hf (λb o hb e=>F b o hb e)⟩
 self:=λ_ _ _ _ _ st h=>wpAny_pyIter_tupleiter st h
theorem tq {P:Ni}{r:Nw}(it:N8)(c:Int)(n:Nat):pR P w K r (Dc c n) [it] it (λi h=>IsRangeIter h it (c+(i:Nat)*1) ((n:Int) - (i:Nat)) 1) where
 mem:=by simp
 obj:=λi h st b hb=>by
  let e:b=it:=by simpa using hb
  subst e
  show⟨_,st,λv z=>by
   let q:Data.fields _=Data.cell v:=z
   cases q⟩
 keep:=λi h h' st k=>k it (by simp) _ st
 item:=by
  intro X l f j d i O9 s σ H E I hf st hg
  subst l f j
  let W:=Walks.range (prog:=X.prog) (w:=X.w) (I.ok.hd d) it c 1 n
  show W.item i s _ _ hg st λv h' g hv a m=>?_
  let⟨t,rfl⟩:=hv
  let p:aG X O9 σ H {s with heap:=h',toks:=g}:=I.turned hf (λb o hb e=>m b o (by simpa using hb) e)
  show⟨_,Z,q9 (s:={s with heap:=h',toks:=g}) (n:= "range_iterator") a Z Z (by decide) ⟨.int (c+i),H,p,⟨t,?_⟩,⟨Z,Z⟩,a,λb hb=>(hf b hb).1⟩⟩
  rw[Int.mul_one]
 done:=by
  intro X l f j d i O9 s σ H E I hf st hg
  show wpAny_pyNext_range_end (I.ok.hd d) st (by have:n<=i:=hg;lia) λh' u=>⟨Z,I.turned (t':=s.toks) hf (λb o hb e=>u b o hb e)⟩
 self:=λ_ _ _ _ _ st h=>wpAny_pyIter_rangeiter st h
section
variable {tg:Nw}
def Dh (K:Je) (b:TE):TI:=λσ H R=>b σ H λx H1=>∃a,x=.ref a/\(∃xs,aM K H1 a xs)/\R (FV K a) H1
def HM (K:Je) (b:TE):TI:=λσ H R=>b σ H λx H1=>∃a,x=.ref a/\(∃xs,bh K H1 a xs)/\R (G0 K a) H1
theorem bF(i:PE X l tl):PI X tg l (Dh X.K tl):=by
 intro O9 s σ H R I h
 show cz (i O9 s σ H _ I h) λv s1 d=>?_
 let⟨x,H1,I1,f,g⟩:=d
 let⟨a,e,⟨xs,hq⟩,q⟩:=g
 subst e
 cases f
 let⟨c,j,p,k⟩:=I1.list hq
 show Kw p.isList ?_
 show⟨~~~s1,[~~~s1],_,_,H1,Z,I1.kept (t':=s1.toks) λb o e=>Ji _ e,w9 a _,⟨_,Jp _ Z,Z,Z⟩,λb hb=>?_,q⟩
 let e:b= ~~~s1:=by simpa using hb
 subst e
 show I1.fpOk (Jd _) (I1.hok.fresh (Jd _))
theorem kT(i:PE X l tl):PI X tg l (HM X.K tl):=by
 intro O9 s σ H R I h
 show cz (i O9 s σ H _ I h) λv s1 d=>?_
 let⟨x,H1,I1,f,g⟩:=d
 let⟨a,e,⟨xs,hq⟩,q⟩:=g
 subst e
 cases f
 let⟨c,j,p,k⟩:=I1.tuple hq
 show wpAny_pyIter_tuple (show s1.heap.IsTuple a c.toArray from p) ?_
 show⟨~~~s1,[~~~s1],_,_,H1,Z,I1.kept (t':=s1.toks) λb o e=>Ji _ e,uX a _,⟨_,Jp _ Z,Z,Z⟩,λb hb=>?_,q⟩
 let e:b= ~~~s1:=by simpa using hb
 subst e
 show I1.fpOk (Jd _) (I1.hok.fresh (Jd _))
theorem rh {R:It->Hp->Prop}{lo a:Int}{t u v:Tok}{tk:Nat}(I:aG X O9 σ H s)(h1: -2^62<=lo)(h:lo<2^62)(g: -2^62<=a)(i:a<2^62)
  (q:R (Dc lo (a - lo).toNat) H):Na (Nd X.prog X.w) X.A (pyIter (.ref (~~~s))) (H_ X O9 σ tg R) E {s with heap:=s.heap.push {cls:=.type "range",data:=.fields #[.int lo t,.int a u,.int 1 v]},toks:=tk}:=by
 show wpAny_pyIter_range (IsRange.new ..) (small_one h1 h g i) ?_
 let c:aG X O9 σ H {s with heap:=s.heap.push {cls:=.type "range",data:=.fields #[.int lo t,.int a u,.int 1 v]},toks:=tk}:=I.kept λb o e=>Ji _ e
 show⟨(s.heap.push {cls:=.type "range",data:=.fields #[.int lo t,.int a u,.int 1 v]}).objs.size,[(s.heap.push {cls:=.type "range",data:=.fields #[.int lo t,.int a u,.int 1 v]}).objs.size],_,_,H,Z,
  c.kept (t':=tk) λb o e=>Ji _ e,tq _ lo (a - lo).toNat,?_,λb hb=>?_,q⟩
 ·let d:lo+((0:Nat):Int)*1=lo:=by simp
  let f:(((a - lo).toNat:Nat):Int) - ((0:Nat):Int)=Nc.Range.rangeSize lo a 1:=by rw[rangeSize_one];split<;>lia
  rw[d,f]
  show Jp _ Z
 ·let e:b=(s.heap.push {cls:=.type "range",data:=.fields #[.int lo t,.int a u,.int 1 v]}).objs.size:=by simpa using hb
  subst e
  show c.fpOk (Jd _) (c.hok.fresh (Jd _))
def vT (ta:TA):TI:=λσ H R=>ta σ H λvs H1=>∃j:Int,vs=[.int j]/\ -2^62<=j/\j<2^62/\R (Dc 0 j.toNat) H1
def Dt (ta:TA):TI:=λσ H R=>ta σ H λvs H1=>∃i j:Int,vs=[.int i,.int j]/\(-2^62<=i/\i<2^62/\ -2^62<=j/\j<2^62)/\R (Dc i (j - i).toNat) H1
theorem yh(f:Gl X "range")(i:X.mg "range" =none)(g:PA X [a] ta)(l:Nf [a] X.env=[(false,eval a X.env)]:=by rfl):PI X tg (.Call (.Name "range" p) [a] [] pos) (vT ta):=by
 intro O9 s σ H R I h
 show Call_ (iJ I f i boot_range (PyProof.Rows.callWith_type1 (cz (g pos O9 s σ H _ I h) λm s1 c=>?_) l Z))
 let⟨vs,H1,I1,d,b⟩:=c
 let⟨j,e,b,k,q⟩:=b
 subst e
 cases d with
 |cons r rr=>
  cases rr
  let⟨t,rfl⟩:=r
  show call_range_1 (rh I1 () () b k (by simpa using q))
theorem xK(l:Gl X "range")(n:X.mg "range" =none)(m:PA X [a,b] ta)(v:Nf [a,b] X.env=[(false,eval a X.env),(false,eval b X.env)]:=by rfl)(c:Nf [b] X.env=[(false,eval b X.env)]:=by rfl):
  PI X tg (.Call (.Name "range" p) [a,b] [] pos) (Dt ta):=by
 intro O9 s σ H R I h
 show Call_ (iJ I l n boot_range (PyProof.Rows.callWith_type1 (cz (m pos O9 s σ H _ I h) λw s1 f=>?_) (by rw[v,c]) (by rw[c];rfl)))
 let⟨vs,H1,I1,k,d⟩:=f
 let⟨i,j,e,⟨d,o,u,g⟩,q⟩:=d
 subst e
 cases k with
 |cons r rr=>
  cases rr with
  |cons r' rr=>
   cases rr
   let⟨t,rfl⟩:=r
   let⟨x,rfl⟩:=r'
   show call_range_2 (rh I1 d o u g q)
abbrev SV:=(St->Hp->Prop)->V->St->Hp->Prop
def A9 (J:It) (b:St) (H:Hp) (S:SV) (F:St->Hp->Prop):Prop:=∃W:Nat->Nat->St->Hp->Prop,(∃m,W 0 m b H)/\∀i m b H,W i m b H->(J.stop i H/\F b H)\/(J.go i H/\∃N:St->Hp->Prop,(∀a H',N a H'->∃c,c<m/\W (i+1) c a H')/\∀x H',J.yld i H x H'->S N x b H')
abbrev sF (g:TG) (tb:TS) (D:jf):SV:=λN x σ H=>g x σ H λσ2 H2=>tb {D with nx:=N,ct:=N,bk:=D.nx} σ2 H2
def nM (a:TI) (g:TG) (b:TS):TS:=λD σ H=>a σ H λJ H1=>A9 J σ H1 (sF g b D) D.nx
noncomputable def mY (fp:-N8) (h:Ng):-(N8×Nv):=fp.filterMap λb=>(h.get? b).map λo=>(b,o)
theorem hZ(a:b∈fp)(e:h.get? b>o):(b,o)∈mY fp h:=KW.mpr ⟨b,a,by rw[e];rfl⟩
theorem yc{p:N8×Nv}(c:p∈mY fp h):p.1∈fp/\h.get? p.1>p.2:=by
 let⟨b,hb,e⟩:=KW.mp c
 cases q:h.get? b with
 |none=>rw[q] at e;cases e
 |some o=>
  rw[q] at e
  let a:(b,o)=p:=Option.some.inj e
  subst a
  show⟨hb,q⟩
theorem aG.pinned(I:aG X O9 σ H s)(hf:∀b∈fp,jc X O9 H b)(g:∀b∈fp,∃o,s.heap.get? b>o/\∀v,o.data≠.cell v):aG X (O9++mY fp s.heap) σ H s:=
 I.pins_of λp hp=>(Jz.mp hp).elim (λz=>I.pin p (Kf _ z)) λz=>by
  let⟨hb,e⟩:=yc z
  let⟨c,h,f,_⟩:=hf p.1 hb
  let⟨o,a,d⟩:=g p.1 hb
  rw[e] at a;cases a
  show⟨e,c,h,f,d⟩
theorem aG.unpinned {pl:-(N8×Nv)}(I:aG X (O9++pl) σ H s):aG X O9 σ H s:=I.pins_of λp hp=>I.pin p (Kf _ (Ld _ hp))
theorem EN(M:NO (Nd X.prog X.w) X.A X.env X.xe)(R:X.calm=true)(hi:PI X tg iter wi)(hg:PG X tg g)(C:sM X body tb)
  (hs:∀x,NK iter X.env x=pure x:=by intro _;rfl):PS X (.For tg iter body [] pos) (nM wi g tb):=by
 intro O9 s σ H D I h
 show wpAny_For (cz (hi O9 s σ H _ I h) λv s1 h1=>cz h1 λa5 s2 h2=>?_) hs
 let⟨it,fp,U,J,H2,e,I2,T,p,S,W,⟨m0,w0⟩,turn⟩:=h2
 subst e
 let a:∀{H':Hp},(∀b∈fp,H' b=none)->∀b∈fp,jc X O9 H' b:=λhn b C=>⟨hn b C,(S b C).2⟩
 show codeAny_forLoop_any (λn s'=>∃i E H',aG X O9 E H' s'/\U i s'.heap/\(∀b∈fp,H' b=none)/\W i n E H') ?_ m0 ⟨0,σ,H2,I2,p,λb C=>(S b C).1,w0⟩
 rintro n Z0 ⟨i,B,H3,I3,l,k,w3⟩
 rcases turn i n B H3 w3 with ⟨L,qn⟩|⟨go,N,hN,step⟩
 ·show KY M (cz (T.done X Z Z Z R i O9 Z0 B H3 X.xe I3 (a k) l L) λr s4 z=>?_)
  let⟨hr,I4⟩:=z
  subst hr
  show wpAny_execs_nil ⟨B,H3,I4,qn⟩
 ·show KY M (cz (T.item X Z Z Z R i O9 Z0 B H3 X.xe I3 (a k) l go) λr s4 z=>?_)
  let⟨u,hr,h4⟩:=z
  subst hr
  show KY M (cz h4 λ_ Y z=>?_)
  let⟨x,H5,I5,r5,y5,j,q⟩:=z
  let Q:=I5.pinned (a q) (T.obj _ _ j)
  show KY M (cz (hg _ Y B H5 x u _ Q r5 (step x H5 y5)) λ_ s6 z=>?_)
  let⟨P,H6,I6,q6⟩:=z
  show KY M (cz (C _ s6 P H6 _ I6 q6) λf O F=>?_)
  let c:∀{y:St} {H7:Hp},aG X (O9++mY fp Y.heap) y H7 O->N y H7->∃m,m<n/\∃i E H',aG X O9 E H' O/\U i O.heap/\(∀b∈fp,H' b=none)/\W i m E H':=fun{y H7} I7 K=>by
   let⟨m',hm,w7⟩:=hN y H7 K
   show⟨m',hm,i+1,y,H7,I7.unpinned,T.keep _ _ _ j λb C o e=>(I7.pin (b,o) (Kf _ (Kf _ (hZ C e)))).1,λb C=>?_,w7⟩
   let⟨o,e,d⟩:=T.obj _ _ j b C
   show(I7.pin (b,o) (Kf _ (Kf _ (hZ C e)))).2.1
  cases f with
  |next=>let⟨y,H7,I7,K⟩:=F;show c I7 K
  |cont=>let⟨y,H7,I7,K⟩:=F;show c I7 K
  |brk=>let⟨y,H7,I7,F⟩:=F;show⟨y,H7,I7.unpinned,F⟩
  |ret v=>let⟨x7,y,H7,I7,r7,F⟩:=F;show⟨x7,y,H7,I7.unpinned,r7,F⟩
end
theorem jF{S:SV}(n:Nat)(a:Nat->St->Hp->Prop)(h0:a 0 σ H)(d:∀i σ H,i<n->a i σ H->J.go i H/\∀x H',J.yld i H x H'->S (a (i+1)) x σ H')(e:∀σ H,a n σ H->J.stop n H/\F σ H):A9 J σ H S F:=by
 show⟨λi m σ H=>m=n - i/\i<=n/\a i σ H,⟨n,by simp,Ju _,h0⟩,?_⟩
 rintro i m σ H ⟨rfl,hi,p⟩
 by_cases hlt:i<n
 ·let⟨h1,h2⟩:=d i σ H hlt p
  show .inr ⟨h1,a (i+1),λc H' b=>⟨n - (i+1),(),Z,hlt,b⟩,h2⟩
 ·obtain rfl:i=n:=by lia
  show .inl (e σ H p)
theorem bf {a:N8}{xs:-V}{S:SV}{F:St->Hp->Prop}(b:Nat->St->Hp->Prop)(h0:b 0 σ H)(c:∀i σ H,i<=↑xs->b i σ H->aM K H a xs)(d:∀i x σ H,xs[i]?>x->b i σ H->S (b (i+1)) x σ H)(e:∀σ H,b ↑xs σ H->F σ H):A9 (FV K a) σ H S F:=by
 show jF ↑xs b h0 (λi σ H hi p=>⟨⟨xs,xs[i],c i σ H (JX hi) p,by simp[hi]⟩,?_⟩) λσ H p=>⟨⟨xs,c _ σ H (Jd _) p,Jd _⟩,e σ H p⟩
 rintro x _ ⟨rfl,y⟩
 show d i x σ _ (y xs (c i σ _ (JX hi) p)) p
theorem eO {b:Int}{n:Nat}{S:SV}{F:St->Hp->Prop}(a:Nat->St->Hp->Prop)(h0:a 0 σ H)(c:∀i σ H,i<n->a i σ H->S (a (i+1)) (.int (b+i)) σ H)(d:∀σ H,a n σ H->F σ H):A9 (Dc b n) σ H S F:=by
 show jF n a h0 (λi σ H hi p=>⟨hi,?_⟩) λσ H p=>⟨Jd _,d σ H p⟩
 rintro x _ ⟨rfl,rfl⟩
 show c i σ _ hi p
abbrev R2:=V->V->Hp->VK->Prop
def fZ (X:Cx) (f:N7->N7->Sem N7) (r:R2):Prop:=
 ∀(O9:-(N8×Nv)) (s:N_) (σ:St) (H:Hp) (x y:V) (v u:N7) (Q:VK),aG X O9 σ H s->aY x v->aY y u->r x y H Q->
  Na (Nd X.prog X.w) X.A (f v u) (EP X O9 σ Q) X.xe s
def HL (X:Cx) (f:N7->Sem N7) (r:V->Hp->VK->Prop):Prop:=
 ∀(O9:-(N8×Nv)) (s:N_) (σ:St) (H:Hp) (x:V) (v:N7) (Q:VK),aG X O9 σ H s->aY x v->r x H Q->
  Na (Nd X.prog X.w) X.A (f v) (EP X O9 σ Q) X.xe s
def cJ (X:Cx) (f:N7) (r:-V->Hp->VK->Prop):Prop:=
 ∀(O9:-(N8×Nv)) (s:N_) (σ:St) (H:Hp) (xs:-V) (a:-N7) (Q:VK),aG X O9 σ H s->a8 xs a->r xs H Q->
  Na (Nd X.prog X.w) X.A (call f a) (EP X O9 σ Q) X.xe s
def gb (r:R2) (ta a:TE):TE:=λσ H Q=>ta σ H λx H1=>a σ H1 λy H2=>r x y H2 Q
def Fn (r:V->Hp->VK->Prop) (ta:TE):TE:=λσ H Q=>ta σ H λx H1=>r x H1 Q
def rI (C:Int->Int->Prop) (g:Int->Int->V):R2:=λx y H Q=>∃i j,x=.int i/\y=.int j/\C i j/\Q (g i j) H
def z9 (g:Int->Int->V):R2:=λx y H Q=>∃i j,x=.int i/\y=.int j/\Q (g i j) H
def rU (g:Int->V):V->Hp->VK->Prop:=λx H Q=>∃i,x=.int i/\Q (g i) H
section
variable {a b c:Nw} {ta tb tc:TE} {pos:O2}
theorem ER (m:PE X a ta)(i:PE X b tb){R:V->V->Hp->Prop}(I:aG X O9 σ H s)
  (h:ta σ H λx H1=>tb σ H1 λy H2=>R x y H2) {Q:N7->N_->Prop} {f:N7->N7->Sem N7}
  (hf:∀v u g x y H2,aG X O9 σ H2 g->aY x v->aY y u->R x y H2->Na (Nd X.prog X.w) X.A (f v u) Q X.xe g):
  Na (Nd X.prog X.w) X.A (eval a X.env) (λv e=>Na (Nd X.prog X.w) X.A (eval b X.env) (λu d=>Na (Nd X.prog X.w) X.A (f v u) Q X.xe d) X.xe e) X.xe s:=by
 show cz (m O9 s σ H _ I h) λv s1 c=>?_
 let⟨x,H1,I1,j,l⟩:=c
 show cz (i O9 s1 σ H1 _ I1 l) λu g c=>?_
 let⟨y,H2,I2,k,n⟩:=c
 show hf v u g x y H2 I2 j k n
theorem aA(d:fZ X (binaryOp op) r)(g:PE X a ta)(c:PE X b tb):PE X (.BinOp a op b pos) (gb r ta tb):=by
 intro O9 s σ H Q I h
 show wpAny_BinOp (ER g c I h λv u e x y H2 I2 i f q=>d O9 e σ H2 x y v u Q I2 i f q)
theorem mn {op:UnaryOp}{r:V->Hp->VK->Prop}(e:HL X (unaryOp op) r)(c:PE X a ta):PE X (.UnaryOp op a pos) (Fn r ta):=by
 intro O9 s σ H Q I h
 show UnaryOp_ (cz (c O9 s σ H _ I h) λv s1 b=>by let⟨x,H1,I1,d,f⟩:=b;show e O9 s1 σ H1 x v Q I1 d f)
theorem GU {f:N7->N7->Sem N7}{C:Int->Int->Prop}{g:Int->Int->Int}
  (a:∀(i j:Int) (t u:Tok) (s:N_) (Q:N7->N_->Prop) (E:N7->N_->Prop),C i j->Q (.int (g i j) s.toks) {s with toks:=s.toks+1}->Na (Nd X.prog X.w) X.A (f (.int i t) (.int j u)) Q E s):
  fZ X f (rI C λi j=> .int (g i j)):=by
 intro O9 s σ H x y v u Q I d c h
 let⟨i,j,rfl,rfl,b,q⟩:=h
 let⟨t,rfl⟩:=d
 let⟨e,rfl⟩:=c
 show a i j t e s _ _ b ⟨.int (g i j),H,I.tok _,⟨_,Z⟩,q⟩
theorem Gy {f:N7->N7->Sem N7}{g:Int->Int->Int}
  (a:∀(i j:Int) (t u:Tok) (s:N_) (Q:N7->N_->Prop) (E:N7->N_->Prop),Q (.int (g i j) s.toks) {s with toks:=s.toks+1}->Na (Nd X.prog X.w) X.A (f (.int i t) (.int j u)) Q E s):
  fZ X f (z9 λi j=> .int (g i j)):=by
 intro O9 s σ H x y v u Q I c b h
 let⟨i,j,rfl,rfl,q⟩:=h
 let⟨t,rfl⟩:=c
 let⟨d,rfl⟩:=b
 show a i j t d s _ _ ⟨.int (g i j),H,I.tok _,⟨_,Z⟩,q⟩
theorem Cm {f:N7->N7->Sem N7}{g:Int->Int->Bool}
  (a:∀(i j:Int) (t u:Tok) (s:N_) (Q:N7->N_->Prop) (E:N7->N_->Prop),Q (.bool (g i j)) s->Na (Nd X.prog X.w) X.A (f (.int i t) (.int j u)) Q E s):
  fZ X f (z9 λi j=> .bl (g i j)):=by
 intro O9 s σ H x y v u Q I c b h
 let⟨i,j,rfl,rfl,q⟩:=h
 let⟨t,rfl⟩:=c
 let⟨d,rfl⟩:=b
 show a i j t d s _ _ ⟨.bl (g i j),H,I,Z,q⟩
def F0 (i j:Int):Prop:=0<=j/\j<=1000000/\i.natAbs<2^64
def Ar (i j:Int):Prop:=(-2^64<i/\i<2^64)\/(-2^64<j/\j<2^64)
theorem Ar.ok(h:Ar i j):IntMulOk i j:=by
 rcases h with ⟨h1,h2⟩|⟨h1,h2⟩
 ·show .of_left (intBits_le_64 h1 h2)
 ·show .of_right (intBits_le_64 h1 h2)
theorem aX:fZ X (binaryOp .Add) (z9 λi j=> .int (i+j)):=Gy λ_ _ _ _ _ _ _ q=>add_int q
theorem cV:fZ X (binaryOp .Sub) (z9 λi j=> .int (i - j)):=Gy λ_ _ _ _ _ _ _ q=>sub_int q
theorem dW:fZ X (binaryOp .Mult) (rI Ar λi j=> .int (i*j)):=GU λ_ _ _ _ _ _ _ a q=>mul_int q a.ok
theorem a_:fZ X (binaryOp .Mod) (rI (λ_ j=>0<j) λi j=> .int (i%j)):=GU λi j _ _ _ _ _ a q=>by
 show mod_int' () (Int.fmod_eq_emod_of_nonneg i ()<|q)
theorem kP:fZ X (binaryOp .Pow) (rI F0 λi j=> .int (i^j.toNat)):=GU λ_ _ _ _ _ _ _ a q=>pow_int_small a.1 a.2.1 a.2.2 q
theorem IY {f:N7->Sem N7}{g:Int->Int}
  (a:∀(i:Int) (t:Tok) (s:N_) (Q:N7->N_->Prop) (E:N7->N_->Prop),Q (.int (g i) s.toks) {s with toks:=s.toks+1}->Na (Nd X.prog X.w) X.A (f (.int i t)) Q E s):
  HL X f (rU λi=> .int (g i)):=by
 intro O9 s σ H x v Q I b h
 let⟨i,rfl,q⟩:=h
 let⟨t,rfl⟩:=b
 show a i t s _ _ ⟨.int (g i),H,I.tok _,⟨_,Z⟩,q⟩
theorem jz:HL X (unaryOp .USub) (rU λi=> .int (-(i:_))):=IY λ_ _ _ _ _ q=>neg_int q
end
def FY:V->V->Bool
 | .int _,.int _=>true
 |_,_=>false
def GB:R2:=λx y H Q=>FY x y=true/\Q (.bl (decide (x=y))) H
def Iu:R2:=λx y H Q=>FY x y=true/\Q (.bl (!decide (x=y))) H
theorem lO:decide (V.int i=V.int j)=(i==j):=by
 rw[KJ]
 simp
section
variable {a b c:Nw} {ta tb tc:TE} {pos:O2}
theorem jA(I:aG X O9 σ H s)(q:Q (.bl k) H)(e:k=k'):EP X O9 σ Q (.bool k') s:=by
 subst e
 show⟨.bl k,H,I,Z,q⟩
theorem cT:fZ X (Nk .Eq) GB:=by
 intro O9 s σ H x y v u Q I b a h
 let⟨hs,q⟩:=h
 cases x<;>cases y<;>first|show absurd (show false=true from hs) Jw|skip
 let⟨t,rfl⟩:=b
 let⟨c,rfl⟩:=a
 show eq_int (jA I q lO)
theorem f9:fZ X (Nk .NotEq) Iu:=by
 intro O9 s σ H x y v u Q I b a h
 let⟨hs,q⟩:=h
 cases x<;>cases y<;>first|show absurd (show false=true from hs) Jw|skip
 let⟨t,rfl⟩:=b
 let⟨c,rfl⟩:=a
 show ne_int (jA I q (congrArg not lO))
theorem mV:fZ X (Nk .Lt) (z9 λi j=> .bl (decide (i<j))):=Cm λ_ _ _ _ _ _ _ q=>lt_int q
theorem eN:fZ X (Nk .LtE) (z9 λi j=> .bl (decide (i<=j))):=Cm λ_ _ _ _ _ _ _ q=>le_int q
theorem jg:fZ X (Nk .Gt) (z9 λi j=> .bl (decide (j<i))):=Cm λ_ _ _ _ _ _ _ q=>gt_int q
theorem Dm:fZ X (Nk .GtE) (z9 λi j=> .bl (decide (j<=i))):=Cm λ_ _ _ _ _ _ _ q=>ge_int q
theorem ou:fZ X (Nk .In) (λx y H Q=>∃i j,x=.str i/\y=.str j/\Q (.bl (!(Nc.Str.occurrences j i 0 ↑j 1).isEmpty)) H):=by
 intro O9 s σ H x y v u Q I b a h
 let⟨i,j,rfl,rfl,q⟩:=h
 let⟨t,rfl⟩:=b
 let⟨c,rfl⟩:=a
 show in_str (jA I q Z)
theorem yY:fZ X (Nk .Is) (λx y H Q=>y=.non/\Q (.bl (decide (x=.non))) H):=by
 intro O9 s σ H x y v u Q I a b h
 let⟨rfl,q⟩:=h
 cases b
 show is_none_gen (jA I q ?_)
 cases x<;>first
  |(cases a;rfl)
  |(let⟨t,rfl⟩:=a;rfl)
theorem Bu:fZ X (Nk .IsNot) (λx y H Q=>y=.non/\Q (.bl (!decide (x=.non))) H):=by
 intro O9 s σ H x y v u Q I a b h
 let⟨rfl,q⟩:=h
 cases b
 show isnot_none_gen (jA I q ?_)
 cases x<;>first
  |(cases a;rfl)
  |(let⟨t,rfl⟩:=a;rfl)
theorem qA:fZ X (Nk .NotIn) (λx y H Q=>∃i j,x=.str i/\y=.str j/\Q (.bl (!(!(Nc.Str.occurrences j i 0 ↑j 1).isEmpty))) H):=by
 intro O9 s σ H x y v u Q I b a h
 let⟨i,j,rfl,rfl,q⟩:=h
 let⟨t,rfl⟩:=b
 let⟨c,rfl⟩:=a
 show notIn_str (jA I q Z)
theorem zB (b:Nw){op:CmpOp}(h:op≠.In:=by decide)(a:op≠.NotIn:=by decide):behindInMarks op b=false:=by
 let d:(op==CmpOp.In)=false:=by cases op<;>first|rfl|show absurd Z h
 let c:(op==CmpOp.NotIn)=false:=by cases op<;>first|rfl|show absurd Z a
 cases b<;>simp[behindInMarks,d,c]
theorem lE(d:fZ X (Nk op) r)(g:PE X a ta)(c:PE X b tb)(j:behindInMarks op b=false):PE X (.Compare a [op] [b] pos) (gb r ta tb):=by
 intro O9 s σ H Q I h
 show wpAny_Compare1 (ER g c I h λv u e x y H2 I2 i f q=>d O9 e σ H2 x y v u Q I2 i f q) j
def k9 (t:TE):TT:=λσ H Q=>t σ H λx H'=>∃k,x=.bl k/\Q k H'
theorem e7(j:fZ X (Nk op) r)(n:PE X a ta)(f:PE X b tb)(o:behindInMarks op b=false):PT X (.Compare a [op] [b] pos) (k9 (gb r ta tb)):=by
 intro O9 s σ H Q I h
 show wpAny_isTrue_Compare1 (cz (n O9 s σ H _ I h) λv s1 c=>?_) o
 let⟨x,H1,I1,i,m⟩:=c
 show cz (f O9 s1 σ H1 _ I1 m) λu l c=>?_
 let⟨y,H2,I2,g,p⟩:=c
 show cz (j O9 l σ H2 x y v u _ I2 i g p) λd A c=>?_
 let⟨z,H3,I3,w,k,e,q⟩:=c
 subst e
 cases w
 show Kl ⟨H3,I3,q⟩
def tO (r a:R2) (ta b d:TE):TE:=λσ H Q=>ta σ H λx H1=>b σ H1 λy H2=>r x y H2 λz H3=>∃k,z=.bl k/\
 (if k=true then d σ H3 λc H4=>a y c H4 Q else Q (.bl false) H3)
theorem mS(p:fZ X (Nk op) r)(g:fZ X (Nk op') r')(D:PE X a ta)(l:PE X b tb)(m:PE X c tc)
  (E:lastMarks [op,op'] [b,c]=false:=by with_unfolding_all rfl):PE X (.Compare a [op,op'] [b,c] pos) (tO r r' ta tb tc):=by
 intro O9 s σ H Q I h
 show Compare_chain (cz (D O9 s σ H _ I h) λv s1 f=>?_) E
 let⟨x,H1,I1,o,A⟩:=f
 show chain_link (cz (l O9 s1 σ H1 _ I1 A) λu q f=>?_)
 let⟨y,H2,I2,i,F⟩:=f
 show cz (p O9 q σ H2 x y v u _ I2 o i F) λd L f=>?_
 let⟨z,H3,I3,J,k,e,j⟩:=f
 subst e
 cases J
 show Kl ?_
 cases k with
 |false=>show ite_ff ⟨.bl false,H3,I3,Z,j⟩
 |true=>show ite_tt (chain_last (cz (m O9 L σ H3 _ I3 j) λw K f=>by let⟨C,H4,I4,B,n⟩:=f;show g O9 K σ H4 y C u w Q I4 i B n))
theorem fK(o:fZ X (Nk op) r)(g:fZ X (Nk op') r')(L:PE X a ta)(l:PE X b tb)(m:PE X c tc)
  (M:lastMarks [op,op'] [b,c]=false:=by with_unfolding_all rfl):PT X (.Compare a [op,op'] [b,c] pos) (k9 (tO r r' ta tb tc)):=by
 intro O9 s σ H Q I h
 show isTrue_chain (cz (L O9 s σ H _ I h) λv s1 f=>?_) M
 let⟨x,H1,I1,F,w⟩:=f
 show test_link (cz (l O9 s1 σ H1 _ I1 w) λu p f=>?_)
 let⟨y,H2,I2,i,N⟩:=f
 show cz (o O9 p σ H2 x y v u _ I2 F i N) λd O f=>?_
 let⟨z,H3,I3,C,k,e,j⟩:=f
 subst e
 cases C
 show Kl ?_
 cases k with
 |false=>
  let⟨S,K,P⟩:=j
  cases K
  show ite_ff ⟨H3,I3,P⟩
 |true=>
  show ite_tt (test_last (cz (m O9 O σ H3 _ I3 j) λq D f=>?_))
  let⟨B,H4,I4,A,E⟩:=f
  show cz (g O9 D σ H4 y B u q _ I4 i A E) λU Y f=>?_
  let⟨T,H5,I5,J,W,n,R⟩:=f
  subst n
  cases J
  show Kl ⟨H5,I5,R⟩
theorem qr:(N9:Nat)<2^63:=by rw[NP];decide
theorem dZ(r:a8 [x] us):∃u,us=[u]/\aY x u:=by
 cases r with
 |cons r1 r2=>cases r2;show⟨_,Z,r1⟩
theorem gF(r:a8 [x,y] us):∃u w',us=[u,w']/\aY x u/\aY y w':=by
 cases r with
 |cons r1 r2=>
  cases r2 with
  |cons r3 r4=>cases r4;show⟨_,_,Z,r1,r3⟩
theorem mT:cJ X (.builtin "abs") (λxs H Q=>∃i,xs=[.int i]/\Q (.int (if i<0 then -(i:_) else i)) H):=by
 intro O9 s σ H xs a Q I r h
 let⟨i,rfl,q⟩:=h
 let⟨u,rfl,t,rfl⟩:=dZ r
 show call_abs_int λu b=>⟨.int (if i<0 then -(i:_) else i),H,I.tok _,⟨_,Z⟩,q⟩
theorem kO (a:X.calm=true):cJ X (.builtin "max") (λxs H Q=>∃i j,xs=[.int i,.int j]/\Q (.int (if i<j then j else i)) H):=by
 intro O9 s σ H xs c Q I r h
 let⟨i,j,rfl,q⟩:=h
 let⟨u,b,rfl,⟨t,rfl⟩,⟨d,rfl⟩⟩:=gF r
 show max_two_ints (I.ok.hd a) λh' e k=>⟨_,H,I.kept k,?_,q⟩
 by_cases hj:i<j
 ·rw[N1 hj,N1 hj];show⟨_,Z⟩
 ·rw[N0 hj,N0 hj];show⟨_,Z⟩
theorem kz (a:X.calm=true):cJ X (.builtin "min") (λxs H Q=>∃i j,xs=[.int i,.int j]/\Q (.int (if j<i then j else i)) H):=by
 intro O9 s σ H xs c Q I r h
 let⟨i,j,rfl,q⟩:=h
 let⟨u,b,rfl,⟨t,rfl⟩,⟨d,rfl⟩⟩:=gF r
 show min_two_ints (I.ok.hd a) λh' e k=>⟨_,H,I.kept k,?_,q⟩
 by_cases hj:j<i
 ·rw[N1 hj,N1 hj];show⟨_,Z⟩
 ·rw[N0 hj,N0 hj];show⟨_,Z⟩
theorem i8:cJ X (.type "int") (λxs H Q=>(∃i,xs=[.int i]/\Q (.int i) H)\/∃k,xs=[.bl k]/\Q (.int (if k then 1 else 0)) H):=by
 intro O9 s σ H xs b Q I r h
 rcases h with ⟨i,rfl,q⟩|⟨k,rfl,q⟩
 ·let⟨u,rfl,t,rfl⟩:=dZ r
  show call_int_int ⟨.int i,H,I,⟨_,Z⟩,q⟩
 ·let⟨u,rfl,a⟩:=dZ r
  cases a
  show call_int_bool ⟨.int (if k then 1 else 0),H,I.tok _,⟨_,Z⟩,q⟩
def B_ (K:Je) (x:V) (H:Hp) (n:Nat):Prop:=
 match x with
 | .str y=>↑y<=N9/\n=↑y
 | .byt y=>y.size<=N9/\n=y.size
 | .ref p=>(∃xs,aM K H p xs/\n=↑xs)\/∃xs,bh K H p xs/\n=↑xs
 |_=>False
theorem aO:cJ X (.builtin "len") (λxs H Q=>∃x n,xs=[x]/\B_ X.K x H n/\Q (.int n) H):=by
 intro O9 s σ H xs l Q I r h
 let⟨x,n,rfl,e,q⟩:=h
 let⟨u,rfl,g⟩:=dZ r
 let hs:N9=16777216:=NP
 cases x with
 |str y=>
  let⟨t,rfl⟩:=g
  obtain⟨j,c⟩:↑y<=N9/\n=↑y:=e
  subst c
  show len_str () ⟨.int _,H,I.tok _,⟨_,Z⟩,q⟩
 |byt y=>
  let⟨t,rfl⟩:=g
  obtain⟨j,c⟩:y.size<=N9/\n=y.size:=e
  subst c
  show PySem.W.len_bytes () ⟨.int _,H,I.tok _,⟨_,Z⟩,q⟩
 |ref p=>
  cases g
  let c:(∃xs,aM X.K H p xs/\n=↑xs)\/∃xs,bh X.K H p xs/\n=↑xs:=e
  rcases c with ⟨xs,i,c⟩|⟨xs,i,c⟩
  ·subst c
   let⟨b,d,f,k⟩:=I.list i
   let a:=↑d
   show Calls.call_len_list f.isList (by simp only[JD];lia) ⟨.int ↑xs,H,I.tok _,⟨_,by simp only[JD];rw[a]⟩,q⟩
  ·subst c
   let⟨b,d,f,k⟩:=I.tuple i
   let a:=↑d
   show len_tuple f (by simp only[JD];lia) ⟨.int ↑xs,H,I.tok _,⟨_,by simp only[JD];rw[a]⟩,q⟩
 |_=>show(show False from e).elim
end
structure uR (h:Ng) (x dx C:N8) (mA:Nh->Option N7):Prop where
 obj:h.get? x>KI C dx
 ns:h.Ns1 dx mA
 ne:dx≠x
set_option tactic.hygienic true in
theorem xg {h:Ng}{f:N8}{d:Nh->Option N7}(n:h.Ns1 f d):∃c,h.get? f>c/\∀name,PySem.W.lookIn name c>d name:=by
 let⟨o,es,ep,g,l,k,_,hm⟩:=n
 show⟨o,g,λname=>?_⟩
 let e:=hm name
 unfold nsFind findBy at e
 rw[<-Array.find?_toList] at e
 unfold PySem.W.lookIn
 rw[l]
 dsimp only
 split
 ·rename_i y q
  rw[q] at e
  show congrArg some e
 ·rename_i q
  rw[q] at e
  let a:es.toList.any (·.refKey)=false:=by
   rw[List.any_eq_false]
   intro y j
   let⟨z,t,b⟩:=k y (Kx.mp j)
   simp[NE.refKey,b]
  let i:¬es.toList.any (·.refKey)=true:=a<|Jw
  rw[N0 i]
  show congrArg some e
theorem uR.look(I:uR h x dx C mA):∃a,PySem.W.InstAt h x (KI C dx) C (some a)/\∀name,PySem.W.lookIn name a>mA name:=
 let ⟨a,ho,hl⟩:=xg I.ns
 ⟨a,⟨I.obj,Z,Z,ho⟩,hl⟩
section
variable {x dx C f:N8} {mA:Nh->Option N7} {name:Nh} {v:N7}
theorem BO(X:K.In s.heap)(I:uR s.heap x dx C mA)(b:Lm K C name=true)(e:LJ K C=true)
  (c:JS K (.ref C) name>none) (hv:mA name>v) (a:PySem.W.handedIn v=true) (h:Q v {s with toks:=s.toks+1}):
  Na (Nd prog w) A (getAttr (.ref x) name expr) Q E s:=by
 let⟨f,J,d⟩:=I.look
 show PySem.W.get_value X J (PySem.W.plainGet_of b).1 (PySem.W.findObj_own e c Z (by rw[d,hv])) a h
theorem zx {pl:Sem Bool}{Q:N7×-N7->N_->Prop}(X:K.In s.heap)(I:uR s.heap x dx C mA)(a:Lm K C name=true)
  (hf:JS K (.ref C) name>some (.ref f)) (ht:KL K (.ref f)=true) (hv:mA name=none) (h:Q (.ref f,[.ref x]) s):
  Na (Nd prog w) A (getMethod (.ref x) name pl) Q E s:=by
 let⟨b,J,c⟩:=I.look
 show PySem.W.method_fn X J (PySem.W.plainGet_of a).1 (PySem.W.plainGet_of a).2 hf (beq_iff_eq.mp ht) (by change(PySem.W.lookIn name b).map (·.isSome)>false;rw[c,hv];rfl) h
theorem BY{ns:-Nh}{Q:Unit->N_->Prop}(X:K.In s.heap)(I:uR s.heap x dx C mA)
  (q:JS K (.ref C) "__setattr__" >some (.builtin "object.__setattr__")) (n:PySem.W.plainOver K C=true) (ht:PySem.W.takerIn K C name>none) (o:LJ K C=true)
  (p:PySem.Within mA ns) (hsz:ns.length<=N9)
  (h:∀h',uR h' x dx C (λy=>if y=name then some v else mA y)->Ng.SameBut dx s.heap h'->Q Unit.unit {s with heap:=h',toks:=s.toks+2}):
  Na (Nd prog w) A (setAttr (.ref x) name v) Q E s:=by
 let⟨z,J,D⟩:=I.look
 show PySem.W.set_plain X J q (PySem.W.osa_open (s:={s with toks:=s.toks+1}) (r:=none) X J n ht λb=>?_)
 let⟨B,l,d⟩:=PySem.W.any_some o
 let m:s.heap.get? x>⟨.ref C,some dx,.plain,#[]⟩:=I.obj
 show Ja (Jc (Ja (Ja (wpAny_loadPart m (Ja (Ln.here (s:={s with toks:=s.toks+1}) (PySem.W.looks_clsIn X l) ?_))))))
 rw[d]
 show Jc (a:=some dx) (Ja (Jc (Ja ?_)))
 show wpAny_nsSet1 (s:={s with toks:=s.toks+1}) I.ns λh' k j=>?_
 let⟨u,i,g,c,e,f⟩:=k.count (PySem.Within.cons name v p)
 show Ja (wpAny_lookBehind c (e<|pastItsLine_dict (Jt f (by rw[JY];lia))) ?_)
 show Jc (h _ ⟨(j.2 _ (Jr I.ne)).trans I.obj,k,I.ne⟩ j)
theorem yD{b:-(Nh×N7)}(X:K.In s.heap)(c:PySem.W.makesIn K C=true)
  (d:JS K (.ref C) "__init__" >some (.ref f)) (hf:PySem.W.typeIn K (.ref f)>.type "function")
  (h:NL (Nd prog w) (A.under (.builtin "type.__call__" ⟨.ref C::vs,b⟩)) (.call (.ref f) ⟨.ref (~~~s+1)::vs,b⟩) (PySem.W.InitBack (~~~s+1) R)
   {s with heap:=(s.heap.push Ky).push (KI C (~~~s))}):
  NL (Nd prog w) A (.call (.ref C) ⟨vs,b⟩) R s:=by
 show PySem.W.make_core (PySem.W.makes_of X c) (PySem.W.looks_findIn X d) (λa=>PySem.W.bind_fn X a hf) (.inl Z) h
end
noncomputable def eQ (f:Nh) (v:V):-(Nh×V)->-(Nh×V)
 |[]=>[(f,v)]
 |(g,x)::r=>if g=f then (g,v)::r else (g,x)::eQ f v r
theorem cu (f g:Nh)(v:V):∀fs:-(Nh×V),(eQ f v fs).lookup g=if g=f then some v else fs.lookup g
 |[]=>by
  change Kz g [(f,v)]=_
  by_cases h:g=f
  ·let hb:(g==f)=true:=beq_iff_eq.mpr h
   simp only[Kz,hb,N1 h]
  ·let hb:(g==f)=false:=beq_eq_false_iff_ne.mpr h
   simp only[Kz,hb,N0 h]
 |(k,x)::r=>by
  let a:=cu f g v r
  rw[show eQ f v ((k,x)::r)=(if k=f then (k,v)::r else (k,x)::eQ f v r) from Z]
  by_cases hk:k=f
  ·rw[N1 hk]
   by_cases h:g=k
   ·let hb:(g==k)=true:=beq_iff_eq.mpr h
    simp only[Kz,hb,N1 (h.trans hk)]
   ·let hb:(g==k)=false:=beq_eq_false_iff_ne.mpr h
    simp only[Kz,hb,N0 (λe:g=f=>h (e.trans hk.symm))]
  ·rw[N0 hk]
   by_cases h:g=k
   ·let hb:(g==k)=true:=beq_iff_eq.mpr h
    simp only[Kz,hb,N0 (λe:g=f=>hk (h.symm.trans e))]
   ·let hb:(g==k)=false:=beq_eq_false_iff_ne.mpr h
    simp only[Kz,hb]
    show a
theorem kr (f:Nh)(v:V):∀fs:-(Nh×V),f∈(eQ f v fs).map (·.1)/\∀g,g∈fs.map (·.1)->g∈(eQ f v fs).map (·.1)
 |[]=>⟨by simp[eQ],λg h=>by simp at h⟩
 |(k,x)::r=>by
  let⟨i1,i2⟩:=kr f v r
  rw[show eQ f v ((k,x)::r)=(if k=f then (k,v)::r else (k,x)::eQ f v r) from Z]
  by_cases hk:k=f
  ·rw[N1 hk]
   subst hk
   show⟨by simp,λg h=>by simpa using h⟩
  ·rw[N0 hk]
   show⟨?_,λg h=>?_⟩
   ·rw[Jq]
    show JC _ i1
   ·rw[Jq] at h|-
    rcases Jk.mp h with e|e
    ·show Jk.mpr (.inl e)
    ·show JC _ (i2 g e)
theorem cY (f:Nh)(v:V):∀fs:-(Nh×V),↑(eQ f v fs)<=↑fs+1
 |[]=>by simp[eQ]
 |(k,x)::r=>by
  let a:=cY f v r
  rw[show eQ f v ((k,x)::r)=(if k=f then (k,v)::r else (k,x)::eQ f v r) from Z]
  by_cases hk:k=f
  ·rw[N1 hk,JY,JY];lia
  ·rw[N0 hk,JY,JY];lia
theorem jx.some_of{o:Option N7}(r:jx (some v) o):∃u,o>u/\aY v u:=by
 cases o with
 |none=>show(show False from r).elim
 |some u=>show⟨u,Z,r⟩
theorem jx.none_of {o:Option N7}(r:jx none o):o=none:=by
 cases o with
 |none=>rfl
 |some u=>show(show False from r).elim
theorem xn(r:aY v u):PySem.W.handedIn u=true:=by
 cases v with
 |non=>cases(show u=N7.none from r);rfl
 |bl b=>cases(show u=N7.bool b from r);rfl
 |int i=>let⟨t,e⟩:=(show∃t,u=N7.int i t from r);cases e;rfl
 |str x=>let⟨t,e⟩:=(show∃t,u=N7.str x t from r);cases e;rfl
 |byt b=>let⟨t,e⟩:=(show∃t,u=N7.bytes b t from r);cases e;rfl
 |flt b=>let⟨t,e⟩:=(show∃t,u=N7.float b t from r);cases e;rfl
 |ref a=>cases(show u=N7.ref a from r);rfl
 |ty n=>cases(show u=N7.type n from r);rfl
section
variable {P:Ni} {H':Hp} {h h':Ng} {a C dx:N8} {fs fs':-(Nh×V)}
theorem lR (b:iu P w H h)(e:H a>.ins C dx fs):∃mA,uR h a dx C mA/\(∀f,jx (fs.lookup f) (mA f))/\PySem.Within mA (fs.map (·.1))/\↑fs<=1000/\H dx>.own a:=by
 let⟨d,z,g,c,mA,n,r,q⟩:=(show bN P w H h a (.ins C dx fs) from b a _ e)
 show⟨mA,⟨c,n,g⟩,r,q,z,d⟩
end
structure nQ (K:Je) (C:N8):Prop where
 pg:Lm K C Nh.empty=true
 hd:LJ K C=true
 po:PySem.W.plainOver K C=true
 sa:JS K (.ref C) "__setattr__" >some (.builtin "object.__setattr__")
theorem nQ.get {C:N8}(c:nQ K C)(f:Nh):Lm K C f=true:=c.pg
def bY (K:Je) (C:N8) (f:Nh):Prop:=JS K (.ref C) f>none
theorem bY.taker {C:N8}{f:Nh}(n:bY K C f):PySem.W.takerIn K C f>none:=by
 unfold PySem.W.takerIn
 rw[show JS K (.ref C) f>none from n]
 rfl
structure B1 (K:Je) (C:N8) (m:Nh) (f:N8):Prop where
 at_:JS K (.ref C) m>some (.ref f)
 fn:KL K (.ref f)=true
 kp:J5 K (.ref f)=true
section
variable {a C dx:N8} {fs:-(Nh×V)} {f:Nh} {v:V}
theorem tJ(I:aG X O9 σ H s)(e:H a>.ins C dx fs)(c:nQ X.K C)(n:bY X.K C f)(l:fs.lookup f>v)
  (h:∀u s',aG X O9 σ H s'->aY v u->Q u s'):Na (Nd X.prog X.w) A (getAttr (.ref a) f b) Q E s:=by
 let⟨mA,O,r,_,_,_⟩:=lR I.hok e
 let⟨u,g,d⟩:=jx.some_of (v:=v) (o:=mA f) (by rw[<-l];show r f)
 show BO I.kIn O (c.get f) c.hd n g (xn d) (h u _ (I.tok _) d)
theorem mz{pl:Sem Bool}{Q:N7×-N7->N_->Prop}(I:aG X O9 σ H s)(e:H a>.ins C dx fs)(c:nQ X.K C)(k:B1 X.K C m g)(l:fs.lookup m=none)
  (h:Q (.ref g,[.ref a]) s):Na (Nd X.prog X.w) A (getMethod (.ref a) m pl) Q E s:=by
 let⟨mA,O,r,_,_,_⟩:=lR I.hok e
 let b:mA m=none:=jx.none_of (by rw[<-l];show r m)
 show zx I.kIn O (c.get m) k.at_ k.fn b h
theorem ux{Q:Unit->N_->Prop}(I:aG X O9 σ H s)(e:H a>.ins C dx fs)(c:nQ X.K C)(n:bY X.K C f)(l:↑fs<1000)(i:aY y u)
  (h:∀s',aG X O9 σ (Oc H a (.ins C dx (eQ f y fs))) s'->Q Unit.unit s'):Na (Nd X.prog X.w) A (setAttr (.ref a) f u) Q E s:=by
 let⟨mA,O,r,wi,_,d⟩:=lR I.hok e
 let j:↑(fs.map (·.1))<=N9:=by rw[Jb,NP];lia
 show BY I.kIn O c.sa c.po n.taker c.hd wi j λh' O' sb=>h _ ?_
 let k:∃o,h'.get? dx>o:=let ⟨o,_,_,e',_⟩:=O'.ns;⟨o,e'⟩
 show I.write (x:=a) (e:=dx) (e<|True.intro) (.inr d) (λb q hb z=>(sb.2 b hb).trans z) k ?_
 show⟨aj O.ne<|d,?_,O.ne,O'.obj,_,O'.ns,λg=>?_,λg hg=>?_⟩
 ·have:=cY f y fs;lia
 ·change jx ((eQ f y fs).lookup g) (if g=f then some u else mA g)
  rw[cu]
  by_cases q:g=f
  ·rw[N1 q,N1 q];show i
  ·rw[N0 q,N0 q];show r g
 ·by_cases q:g=f
  ·rw[q];show(kr f y fs).1
  ·show(kr f y fs).2 g (wi g λz=>hg ?_)
   change(if g=f then some u else mA g)=none
   rw[N0 q];show z
theorem aG.made (I:aG X O9 σ H s):aG X O9 σ (Oc (Oc H (~~~s) (.own (~~~s+1))) (~~~s+1) (.ins C (~~~s) []))
  {s with heap:=(s.heap.push Ky).push (KI C (~~~s))}:=by
 let c:(s.heap.push Ky).get? (~~~s)>Ky:=Jp s.heap Z
 let f:((s.heap.push Ky).push (KI C (~~~s))).get? (~~~s+1)>KI C (~~~s):=by
  have:=Jp (s.heap.push Ky) (o:=KI C (~~~s)) Z
  rwa [Kc] at this
 let i:(s.heap.push Ky).Ns (~~~s) (λ_=>none):=⟨Ky,#[],_,c,Z,(λe j=>absurd j (by simp)),λ_=>rfl⟩
 let h:=I.laid (a:= ~~~s) (o:=.own (~~~s+1)) (h':=s.heap.push Ky) (t':=s.toks) (λb u q=>Ji _ q) (Jd _) ⟨_,c⟩
 show h.laid (a:= ~~~s+1) (o:=.ins C (~~~s) []) (t':=s.toks) (λb u q=>Ji _ q) (Nat.le_of_eq (Kc _ _)) ?_
 let d: ~~~s≠~~~s+1:=Jm (J9 _)
 show⟨by rw[aj d,af],Ju _,d,f,λ_=>none,(Ng.Ns1.of_empty i).at λo q=>Ji _ q,λ_=>True.intro,λy g=>absurd Z g⟩
theorem Br(b:NV e f env (eval e env)=eval e env)
  (h:Na (Nd prog w) A (eval e env) (λo a=>Na (Nd prog w) A (getAttr o f true) Q E a) E s):Na (Nd prog w) A (eval (.Attribute e f pos) env) Q E s:=
 Attribute_any_ h (by rw[arm_eval_Attribute,b])
end
def DG (K:Je) (ta:TE) (f:Nh):TE:=λσ H Q=>ta σ H λx H1=>∃a C dx fs v,x=.ref a/\H1 a>.ins C dx fs/\nQ K C/\bY K C f/\fs.lookup f>v/\Q v H1
def Hm (K:Je) (ta b:TE) (f:Nh):TS:=λD σ H=>b σ H λy H1=>ta σ H1 λx H2=>∃a C dx fs,x=.ref a/\H2 a>.ins C dx fs/\nQ K C/\bY K C f/\↑fs<1000/\
 D.nx σ (Oc H2 a (.ins C dx (eQ f y fs)))
section
variable {o e value:Nw} {f:Nh} {pos pos' tpos:O2} {ta tv:TE}
theorem bI (k:PE X e ta)(d:NV e f X.env (eval e X.env)=eval e X.env):PE X (.Attribute e f pos) (DG X.K ta f):=by
 intro O9 s σ H Q I h
 show Br d (cz (k O9 s σ H _ I h) λu s1 b=>?_)
 let⟨x,H1,I1,i,a,C,dx,fs,v,ex,g,c,n,l,q⟩:=b
 subst ex
 obtain rfl:u=N7.ref a:=i
 show tJ I1 g c n l λo m I2 j=>⟨v,H1,I2,j,q⟩
theorem eL (g:PE X o ta)(hv:PE X value tv)(k:swapsWith value (some (.Attribute o f pos')) pos.line X.env=pure false):PS X (.Assign [.Attribute o f pos'] value pos) (Hm X.K ta tv f):=by
 intro O9 s σ H D I h
 show plainObj_wpAny_Assign_Attribute (cz (hv O9 s σ H _ I h) λu s1 b=>?_) k
 let⟨y,H1,I1,e,q⟩:=b
 show cz (g O9 s1 σ H1 _ I1 q) λov m b=>?_
 let⟨x,H2,I2,i,a,C,dx,fs,ex,d,c,n,l,j⟩:=b
 subst ex
 obtain rfl:ov=N7.ref a:=i
 show ux I2 d c n l e λp I3=>⟨σ,_,I3,j⟩
end
structure aR (k:Nat) (A:Nu):Prop where
 hd:A.handled=none
 dp:A.depth+3*k+5<recursionLimit
 un:A.units+16*k+200<NF
 gd:A.guards>[]
theorem aR.mono(r:aR k A)(h:j<=k):aR j A:=⟨r.hd,by have:=r.dp;lia,by have:=r.un;lia,r.gd⟩
theorem aR.deeper(r:aR (k+1) A)(env:O0):aR k (A.deeper env):=
 ⟨r.hd,by have:=r.dp;change A.depth+1+3*k+5<_;lia,by have:=r.un;change A.units+3+16*k+200<_;lia,r.gd⟩
theorem ud {C:N8}{us:-N7}{a:-(Nh×N7)}:(A.under (.builtin "type.__call__" ⟨.ref C::us,a⟩)).depth=A.depth+1:=by
 first|rfl|simp[Nu.under,Code.weight,Code.isCreation,Code.isGuard,Code.isCaller,Code.frames,Code.isFrame,guardIds]
theorem uA {C:N8}{us:-N7}{a:-(Nh×N7)}:(A.under (.builtin "type.__call__" ⟨.ref C::us,a⟩)).units=A.units+1:=by
 first|rfl|simp[Nu.under,Code.cUnits,Code.frames,Code.isFrame]
theorem su {C:N8}{us:-N7}{a:-(Nh×N7)}:(A.under (.builtin "type.__call__" ⟨.ref C::us,a⟩)).guards=A.guards:=by
 first|rfl|simp[Nu.under,Code.isGuard,Code.guards,guardIds]
theorem aR.make(r:aR (k+1) A)(C:N8)(us:-N7)(a:-(Nh×N7)):aR k (A.under (.builtin "type.__call__" ⟨.ref C::us,a⟩)):=
 ⟨r.hd,by have:=r.dp;rw[ud];lia,by have:=r.un;rw[uA];lia,su<|r.gd⟩
theorem aR.depth(r:aR k A):A.depth<recursionLimit:=by have:=r.dp;lia
theorem aR.units(r:aR k A):A.units+64<NF:=by have:=r.un;lia
def fE:TA:=λ_ H Q=>Q [] H
def bX (ta:TE) (tr:TA):TA:=λσ H Q=>ta σ H λx H1=>tr σ H1 λxs H2=>Q (x::xs) H2
section
variable {e:Nw} {es:-Nw} {te:TE} {t:TA} {pos:O2}
theorem cO:PA X [] fE:=λ_ _ _ _ H Q I h=>Calls.spliced_nil ⟨[],H,I,.nil,h⟩
theorem av (g:PE X e te)(d:PA X es t)(j:Nf (e::es) X.env=(false,eval e X.env)::Nf es X.env:=by rfl):PA X (e::es) (bX te t):=by
 intro pos O9 s σ H Q I h
 rw[j]
 show Calls.spliced_cons (cz (g O9 s σ H _ I h) λu s1 a=>?_)
 let⟨x,H1,I1,c,f⟩:=a
 show cz (d pos O9 s1 σ H1 _ I1 f) λl k a=>by let⟨xs,H2,I2,b,i⟩:=a;show⟨x::xs,H2,I2,.cons c b,i⟩
def p_ (t:TA):TE:=λσ H Q=>t σ H λxs H1=>↑xs<=N9/\∀p,H1 p=none->Q (.ref p) (Oc H1 p (.tup xs))
def rL (t:TA):TE:=λσ H Q=>t σ H λxs H1=>↑xs<=N9/\∀p,H1 p=none->Q (.ref p) (Oc H1 p (.lst xs))
theorem aS {x1}(h:PA X es t):PE X (.Tuple es x1 pos) (p_ t):=by
 intro O9 s σ H Q I hq
 show wpAny_Tuple_spliced (cz (h pos O9 s σ H _ I hq) λc s1 a=>?_)
 let⟨xs,H1,I1,r,z,q⟩:=a
 show⟨by rw[<-↑r];show z,?_⟩
 let hf:H1 (~~~s1)=none:=I1.hok.fresh (Jd _)
 show⟨.ref (~~~s1),Oc H1 (~~~s1) (.tup xs),I1.laid (t':=s1.toks) (λb u e=>Ji _ e) (Jd _) ?_,Z,q _ hf⟩
 show⟨z,c,r,⟨_,Jp _ Z,Z,_,Z⟩⟩
theorem bB (h:PA X es t):PE X (.List es pos) (rL t):=by
 intro O9 s σ H Q I hq
 show wpAny_List_spliced (cz (h pos O9 s σ H _ I hq) λc s1 a=>?_)
 let⟨xs,H1,I1,r,z,q⟩:=a
 show⟨by rw[<-↑r];show z,?_⟩
 let hf:H1 (~~~s1)=none:=I1.hok.fresh (Jd _)
 show⟨.ref (~~~s1),Oc H1 (~~~s1) (.lst xs),I1.laid (t':=s1.toks) (λb u e=>Ji _ e) (Jd _) ?_,Z,q _ hf⟩
 show⟨z,c,0,r,Jp _ Z⟩
end
abbrev Sp:=-V->Hp->VK->XK->Prop
abbrev A7:=-O0->Hp->N_->XK->N7->N_->Prop
structure lx (P:Ni) (w:Nr) (K:Je) (mg:Nh->Option N7) (Oa:Ng) (A:Nu) (outer:-O0) (s:N_) (H:Hp):Prop where
 frames:A.frames>outer
 mod:Mod K mg Oa
 bs:∀b o,Oa.get? b>o->s.heap.get? b>o/\H b=none
 bsz:Oa.objs.size<= ~~~s
 funs:s.heap.FunFrames Oa outer
 frf:∀b∈vX outer,H b=none
 hok:iu P w H s.heap
 bare:AllBare s.gens
def CE (a:-O0) (P:Ni) (w:Nr) (H:Hp) (s:N_) (Q:VK) (u:N7) (b:N_):Prop:=
 ∃v H',b.os=s.os/\AllBare b.gens/\Un (vX a) [] H H' s.heap b.heap/\iu P w H' b.heap/\aY v u/\Q v H'
def CR (CX:A7) (a:-O0) (P:Ni) (w:Nr) (H:Hp) (s:N_) (Q:VK) (E:XK) (r:Result) (b:N_):Prop:=
 match r with
 | .ok (.ret u)=>CE a P w H s Q u b
 | .ok _=>False
 | .error e=>CX a H s E e b
structure fq (P:Ni) (w:Nr) (K:Je) (mg:Nh->Option N7) (Oa:Ng) (CX:A7) (k:Nat) (f:N8) (fd:NN) (ps:-Nh) (sp:Sp):Prop where
 len:∀vs H Q E,sp vs H Q E->↑vs=↑ps
 run:∀(A:Nu) (outer:-O0) (s:N_) (H:Hp) (args:Args) (us:-N7) (vs:-V) (Q:VK) (E:XK),aR k A->lx P w K mg Oa A outer s H->BindsTo s fd args (ps.zip us)->a8 vs us->sp vs H Q E->
  NL (Nd P w) A (.call (.ref f) args) (CR CX outer P w H s Q E) s
theorem lx.make {P:Ni}{a:-O0}(e:lx P w K mg Oa A a s H)(C:N8)(us:-N7)(b:-(Nh×N7)):
  lx P w K mg Oa (A.under (.builtin "type.__call__" ⟨.ref C::us,b⟩)) a s H:=⟨by first|show e.frames|(simpa[Nu.under,Code.envs,Code.isFrame,pushEnvs] using e.frames),e.mod,e.bs,e.bsz,e.funs,e.frf,e.hok,e.bare⟩
section
variable {s':N_}
theorem aG.env0 (I:aG X O9 σ H s):lx X.prog X.w X.K X.mg X.Oa X.A X.stack s H:=
 ⟨I.ok.frames,I.ok.mod,I.bs,Jt I.ok.bsz I.sz,I.stack,I.stkFree,I.hok,I.bare⟩
theorem aG.after(I:aG X O9 σ H s)(h:CE X.stack X.prog X.w H s Q u s'):EP X O9 σ Q u s':=by
 let⟨v,H',os,bare,un,c,r,q⟩:=h
 let⟨e,g,d,t,a⟩:=s'
 obtain rfl:a=s.os:=os
 show⟨v,H',I.call (h':=e) (g':=g) (d':=d) (t':=t) (ch:=[]) un c bare (λb z=>absurd z (by simp)),r,q⟩
end
def jP (sp:Sp) (a:-V) (E:XK) (t:TA):TE:=λσ H Q=>t σ H λvs H1=>sp (vs++a) H1 Q E
def wK (C:N8) (m:Nh) (sp:Sp) (b:-V) (E:XK) (ta:TE) (t:TA):TE:=λσ H Q=>ta σ H λx H1=>∃a dx fs,x=.ref a/\H1 a>.ins C dx fs/\fs.lookup m=none/\
 t σ H1 λvs H2=>sp (x::(vs++b)) H2 Q E
def oj (C:N8) (sp:Sp) (a:-V) (E:XK) (t:TA):TE:=λσ H Q=>t σ H λvs H1=>∀x dx,H1 x=none->H1 dx=none->dx≠x->
 sp (.ref x::(vs++a)) (Oc (Oc H1 dx (.own x)) x (.ins C dx [])) (λv H2=>v=.non/\Q (.ref x) H2) E
def c6 (K:Je) (c:NN) (ps:-Nh) (b:-N7):Prop:=
 ∀(s:N_) (a:-N7),K.In s.heap->↑(a++b)=↑ps->BindsTo s c ⟨a,[]⟩ (ps.zip (a++b))
theorem c6.all {b:NN}{ps:-Nh}(h:∀a:-N7,↑a=↑ps->bindArgs b ⟨a,[]⟩=pure (ps.zip a)):c6 K b ps []:=λs a _ c=>by
 rw[Km] at c|-
 show .of_eq (h a c)
def jB (CX:A7) (X:Cx) (E:XK):Prop:=∀(O9:-(N8×Nv)) (σ:St) (H:Hp) (s:N_) (e:N7) (s':N_),aG X O9 σ H s->CX X.stack H s E e s'->X.xe e s'
section
variable {CX:A7} {k:Nat} {f C:N8} {fd:NN} {ps:-Nh} {sp:Sp} {dvs:-V} {ds:-N7} {E:XK} {x m:Nh} {p pos apos:O2} {e o:Nw} {es:-Nw} {ta:TE} {t:TA}
theorem qu(F:fq X.prog X.w X.K X.mg X.Oa CX k f fd ps sp)(c:aR k X.A)(b:c6 X.K fd ps ds)(d:a8 dvs ds)(hx:jB CX X E)
  (I:aG X O9 σ H s) (r:a8 vs us) (h:sp (vs++dvs) H Q E):Na (Nd X.prog X.w) X.A (call (.ref f) us) (EP X O9 σ Q) X.xe s:=by
 let a:a8 (vs++dvs) (us++ds):=r.append d
 let g:↑(us++ds)=↑ps:=by rw[<-↑a];show F.len _ _ _ _ h
 show wpAny_call (NS (F.run X.A X.stack s H ⟨us,[]⟩ (us++ds) (vs++dvs) Q E c I.env0 (b s us I.kIn g) a h) λr s' hq=>?_)
 cases r with
 |error e=>show hx O9 σ H s e s' I hq
 |ok fl=>
  cases fl with
  |ret u=>show I.after hq
  |next=>show False.elim hq
  |brk=>show False.elim hq
  |cont=>show False.elim hq
theorem Ct (F:fq X.prog X.w X.K X.mg X.Oa CX k f fd ps sp)(g:aR k X.A)(j:Gl X x)(m:X.mg x>.ref f)(i:J5 X.K (.ref f)=true)(d:c6 X.K fd ps ds)(o:a8 dvs ds)(hx:jB CX X E)
  (l:PA X (e::es) t) (a:(x==("__debug__" :Nh))=false:=by decide) (n:Nf (e::es) X.env=(false,eval e X.env)::Nf es X.env:=by rfl) (b:(NG pos (Nf es X.env)).any (·.1)=false:=by rfl):
  PE X (.Call (.Name x p) (e::es) [] pos) (jP sp dvs E t):=by
 intro O9 s σ H Q I h
 show KM (qC I j m ?_ a)
 show LK (h₀:=X.Oa) I.ok.mod.kin i (cz (l pos O9 s σ H _ I h) λu s1 c=>?_) n b
 let⟨vs,H1,I1,r,q⟩:=c
 show⟨I1.kIn,?_⟩
 show qu F g d o hx I1 r q
theorem BL {pl:Sem Bool}(B:PE X o ta)(c:nQ X.K C)(j:B1 X.K C m f)(F:fq X.prog X.w X.K X.mg X.Oa CX k f fd ps sp)(J:aR k X.A)(y:c6 X.K fd ps ds)(D:a8 dvs ds)(hx:jB CX X E)(p:PA X (e::es) t)
  (g:Nf (e::es) X.env=(false,eval e X.env)::Nf es X.env:=by rfl) (d:(NG pos (Nf es X.env)).any (·.1)=false:=by rfl)
  (ht:eval (.Call (.Attribute o m apos) (e::es) [] pos) X.env=(do
   let ov<-eval o X.env
   standAt apos.atName
   let (f,first)<-holding [ov] (getMethod ov m pl)
   callWith pos f first (NG pos (Nf (e::es) X.env)) (backToKw pos (keywordEach [] X.env))):=by rfl):
  PE X (.Call (.Attribute o m apos) (e::es) [] pos) (wK C m sp dvs E ta t):=by
 intro O9 s σ H Q I h
 show PySem.W.methodCall_KW (pl:=pl) (cz (B O9 s σ H _ I h) λu s1 b=>?_) ht
 let⟨x,H1,I1,z,a,dx,fs,ex,n,l,q⟩:=b
 subst ex
 obtain rfl:u=N7.ref a:=z
 show mz I1 n c j l ?_
 show LK (first:=[.ref a]) (h₀:=X.Oa) I.ok.mod.kin j.kp (cz (p pos O9 s1 σ H1 _ I1 q) λi L b=>?_) g d
 let⟨vs,H2,I2,r,v⟩:=b
 show⟨I2.kIn,?_⟩
 show qu (us:=.ref a::i) (vs:=.ref a::vs) F J y D hx I2 (.cons Z r) v
theorem zg {pl:Sem Bool}(n:PE X o ta)(c:nQ X.K C)(d:B1 X.K C m f)(F:fq X.prog X.w X.K X.mg X.Oa CX k f fd ps sp)(i:aR k X.A)(e:c6 X.K fd ps ds)(p:a8 dvs ds)(hx:jB CX X E)
  (ht:eval (.Call (.Attribute o m apos) [] [] pos) X.env=(do
   let ov<-eval o X.env
   standAt apos.atName
   let (f,first)<-holding [ov] (getMethod ov m pl)
   callWith pos f first (NG pos (Nf [] X.env)) (backToKw pos (keywordEach [] X.env))):=by rfl):
  PE X (.Call (.Attribute o m apos) [] [] pos) (wK C m sp dvs E ta fE):=by
 intro O9 s σ H Q I h
 show PySem.W.methodCall_KW (pl:=pl) (cz (n O9 s σ H _ I h) λu s1 b=>?_) ht
 let⟨x,H1,I1,j,a,dx,fs,ex,g,l,q⟩:=b
 subst ex
 obtain rfl:u=N7.ref a:=j
 show mz I1 g c d l ?_
 show PySem.W.callWith_K0 (first:=[.ref a]) I1.kIn d.kp (qu (us:=[.ref a]) (vs:=[.ref a]) F i e p hx I1 (.cons Z .nil) q)
structure Mk (K:Je) (C f:N8):Prop where
 makes:PySem.W.makesIn K C=true
 init:JS K (.ref C) "__init__" >some (.ref f)
 fn:KL K (.ref f)=true
 kp:J5 K (.ref C)=true
theorem Ag(M:Mk X.K C f)(F:fq X.prog X.w X.K X.mg X.Oa CX k f fd ps sp)(m:aR (k+1) X.A)(d:c6 X.K fd ps ds)(i:a8 dvs ds)
  (hx:jB CX X E) (I:aG X O9 σ H s) (r:a8 vs us)
  (h:∀x dx,H x=none->H dx=none->dx≠x->sp (.ref x::(vs++dvs)) (Oc (Oc H dx (.own x)) x (.ins C dx [])) (λv H2=>v=.non/\Q (.ref x) H2) E):
  Na (Nd X.prog X.w) X.A (call (.ref C) us) (EP X O9 σ Q) X.xe s:=by
 let hq:=h (~~~s+1) (~~~s) (I.hok.fresh (Nat.le_succ _)) (I.hok.fresh (Jd _)) (Jm (J9 _))
 let b:=aG.made (C:=C) I
 let c:a8 (V.ref (~~~s+1)::(vs++dvs)) (N7.ref (~~~s+1)::(us++ds)):=.cons Z (r.append i)
 let j:↑(N7.ref (~~~s+1)::us++ds)=↑ps:=by
  let e:=↑c
  rw[F.len _ _ _ _ hq] at e
  show e.symm
 show wpAny_call (yD (f:=f) I.kIn M.makes M.init (beq_iff_eq.mp M.fn) (NS (F.run _ X.stack _ _ ⟨N7.ref (~~~s+1)::us,[]⟩ (N7.ref (~~~s+1)::(us++ds)) _ _ E (m.make C us [])
  (b.env0.make C us []) (d _ (N7.ref (~~~s+1)::us) b.kIn j) c hq) λr s' a=>?_))
 cases r with
 |error e=>show hx O9 σ _ _ e s' b a
 |ok fl=>
  cases fl with
  |ret u=>
   let⟨v,H',I3,g,l,n⟩:=b.after a
   subst l
   show⟨g,⟨V.ref (~~~s+1),H',I3,Z,n⟩⟩
  |next=>show False.elim a
  |brk=>show False.elim a
  |cont=>show False.elim a
theorem vw (M:Mk X.K C f)(F:fq X.prog X.w X.K X.mg X.Oa CX k f fd ps sp)(g:aR (k+1) X.A)(i:Gl X x)(l:X.mg x>.ref C)(d:c6 X.K fd ps ds)(n:a8 dvs ds)(hx:jB CX X E)
  (j:PA X (e::es) t) (a:(x==("__debug__" :Nh))=false:=by decide) (m:Nf (e::es) X.env=(false,eval e X.env)::Nf es X.env:=by rfl) (b:(NG pos (Nf es X.env)).any (·.1)=false:=by rfl):
  PE X (.Call (.Name x p) (e::es) [] pos) (oj C sp dvs E t):=by
 intro O9 s σ H Q I h
 show KM (qC I i l ?_ a)
 show LK (h₀:=X.Oa) I.ok.mod.kin M.kp (cz (j pos O9 s σ H _ I h) λo s1 c=>?_) m b
 let⟨vs,H1,I1,r,q⟩:=c
 show⟨I1.kIn,?_⟩
 show Ag M F g d n hx I1 r q
end
structure ei (N P:-Nh) (sc:NT):Prop where
 kind:sc.kind=.function
 co:sc.isCoroutine=false
 gen:sc.isGenerator=false
 nd:N.Nodup
 pre:N.take ↑P=P
 par:∀x∈P,sc.names.lookup x>.local\/sc.names.lookup x>.cell
 nofree:∀y∈sc.names,y.2≠.free
theorem oP {a:Nh->Option No}:∀{binds:-(Nh×N7)} {m:Nh->Option N7},(∀v,(x,v)∉binds)->bindL a binds m x=m x
 |[],_,_=>rfl
 |(n,v)::r,m,h=>by
  unfold bindL
  rw[oP λw b=>h w (JC _ b)]
  split
  ·have:x≠n:=by rintro rfl;show h v JA
   simp[this]
  ·rfl
theorem oJ {a:Nh->Option No}:∀{binds:-(Nh×N7)} {m:Nh->Option N7},(∀v,(x,v)∉binds)->bindC a binds m x=m x
 |[],_,_=>rfl
 |(n,v)::r,m,h=>by
  unfold bindC
  rw[oJ λw b=>h w (JC _ b)]
  split
  ·rfl
  ·have:x≠n:=by rintro rfl;show h v JA
   simp[this]
theorem oZ {a:Nh->Option No}:∀{P:-Nh} {vs:-N7} {i:Nat} {m:Nh->Option N7},P.Nodup->P[i]?>x->vs[i]?>v->a x>.local->
  bindL a (P.zip vs) m x>v
 |[],_,_,_,_,h,_,_=>by simp at h
 |_::_,[],_,_,_,_,h,_=>by simp at h
 |p::P,w::vs,0,m,nd,h1,h2,hk=>by
  simp at h1 h2;subst h1;subst h2
  change bindL a ((p,w)::P.zip vs) m p=_
  unfold bindL
  rw[oP λv hv=>(JE.mp nd).1 (Lo hv).1,N1 hk]
  simp
 |p::P,w::vs,i+1,m,nd,h1,h2,hk=>by
  change bindL a ((p,w)::P.zip vs) m x=_
  unfold bindL
  show oZ (i:=i) (JE.mp nd).2 (by simpa using h1) (by simpa using h2) hk
theorem oI {a:Nh->Option No}:∀{P:-Nh} {vs:-N7} {i:Nat} {m:Nh->Option N7},P.Nodup->P[i]?>x->vs[i]?>v->a x≠some .local->
  bindC a (P.zip vs) m x>v
 |[],_,_,_,_,h,_,_=>by simp at h
 |_::_,[],_,_,_,_,h,_=>by simp at h
 |p::P,w::vs,0,m,nd,h1,h2,hk=>by
  simp at h1 h2;subst h1;subst h2
  change bindC a ((p,w)::P.zip vs) m p=_
  unfold bindC
  rw[oJ λv hv=>(JE.mp nd).1 (Lo hv).1,N0 hk]
  simp
 |p::P,w::vs,i+1,m,nd,h1,h2,hk=>by
  change bindC a ((p,w)::P.zip vs) m x=_
  unfold bindC
  show oI (i:=i) (JE.mp nd).2 (by simpa using h1) (by simpa using h2) hk
noncomputable def start (N:-Nh) (vs:-V):St:=vs.map some++List.replicate (↑N - ↑vs) none
noncomputable def lY (CX:A7) (P:Ni) (w:Nr) (K:Je) (mg:Nh->Option N7) (Oa:Ng) (N:-Nh) (qual:Nh) (scope:NT) (f:N8) (cd:N7) (A:Nu) (outer:-O0) (s:N_) (H:Hp) (E:XK):Cx where
 prog:=P
 w:=w
 K:=K
 mg:=mg
 Oa:=Oa
 A:=A.deeper (envOfC qual scope (~~~s) f cd)
 N:=N
 s₀:=s
 H₀:=H
 env:=envOfC qual scope (~~~s) f cd
 outer:=outer
 stack:=envOfC qual scope (~~~s) f cd::outer
 ex:=[]
 calm:=true
 fn:=λ_=>true
 pn:=[]
 xe:=λe s'=>Na (Nd P w) (A.deeper (envOfC qual scope (~~~s) f cd)) (leaving (envOfC qual scope (~~~s) f cd) e) (λ_ a=>CX outer H s E e a) (λb a=>CX outer H s E b a) s'
theorem rg {a:NT}{n:Nat}{x:Nh}(h:a.names.lookup x>.cell):∃c,(cellsFrom n a.names []).lookup x>c:=by
 let q:=PySem.W.cellsFrom_some a.names n [] (.inl h)
 show K0.mp q
theorem nW {CX:A7}{P:Ni}{N ps:-Nh}{qual:Nh}{scope:NT}{f:N8}{cd:N7}{l:-O0}{s1:N_}{E:XK}{us:-N7}{vs:-V}
  (S:ei N ps scope) (D:A.handled=none) (m:lx P w K mg Oa A l s H) (I:↑vs=↑ps) (r:a8 vs us)
  (x:InCallC s (~~~s) (bindL (envOfC qual scope (~~~s) f cd).kindOf (ps.zip us) λ_=>none) (cellsFrom (~~~s+1) scope.names []) (bindC (envOfC qual scope (~~~s) f cd).kindOf (ps.zip us) λ_=>none) s1):
  aG (lY CX P w K mg Oa N qual scope f cd A l s H E) [] (start N vs) H s1:=by
 let j:↑ps<=↑N:=by have:=congrArg List.length S.pre;rw[JT] at this;lia
 let⟨h1,F,rfl,B⟩:=x.done
 let d:∀b:N8,b∉(lY CX P w K mg Oa N qual scope f cd A l s H E).ex:=λb z=>absurd (show b∈([]:-N8) from z) (by simp)
 show⟨⟨m.mod,S.kind,Z,Z,Jd _,λy z c h1 h2=>?_,λy hy=>?_,λy c _ h=>?_,λ_=>D,Nu.frames_deeper m.frames,.inr ⟨Z,Z⟩,λb z=>absurd z (d b),m.bs,m.bsz,λb _ _=>d b,λb z=>absurd z (d b),m.funs,m.frf⟩,
  rfl,m.bare,Un.kept B,⟨_,x.toInCall.ns,λi y v h1 h2 J=>?_⟩,λy c h=>⟨_,x.cell y c h⟩,m.hok.fresh (Jd _),λy c h=>?_,λp hp=>absurd (show p∈([]:-(N8×Nv)) from hp) (by simp),m.hok.kept B,?_⟩
 ·show name_of_addr x.apart (PySem.mem_of_lookup h1) (PySem.mem_of_lookup h2)
 ·let hy:scope.names.lookup y>.cell\/scope.names.lookup y>.free:=hy
  rcases hy with hy|hy
  ·show rg hy
  ·show absurd Z (S.nofree _ (PySem.mem_of_lookup hy))
 ·show JX (x.above y c (PySem.mem_of_lookup h))
 ·let hi:i<↑vs:=by
   unfold start at h2
   by_cases hi:i<↑vs
   ·show hi
   ·rw[Le (by simpa using hi)] at h2
    rw[List.getElem?_replicate] at h2
    split at h2<;>cases h2
  let ha:vs[i]?>v:=by
   unfold start at h2
   rw[Lf (by simpa using hi),Jn] at h2
   cases e:vs[i]? with
   |none=>rw[e] at h2;cases h2
   |some a=>rw[e] at h2;cases h2;rfl
  let⟨u,o,C⟩:=r.get ha
  let hp:ps[i]?>y:=by
   rw[<-S.pre,List.getElem?_take_of_lt ()];show h1
  let g:ps.Nodup:=by rw[<-S.pre];show S.nd.sublist (LL _ _)
  show⟨u,C,?_⟩
  rcases S.par y (Jl hp) with k|k
  ·show .inl ⟨k,oZ g hp o k⟩
  ·let⟨c,e⟩:=rg (n:= ~~~s+1) k
   show .inr ⟨.inl k,c,e,?_⟩
   let q:=x.cell y c e
   rw[oI g hp o (by change scope.names.lookup y≠_;rw[k];decide)] at q
   show q
 ·show m.hok.fresh (JX (x.above y c (PySem.mem_of_lookup h)))
 ·unfold start
  change _=↑N
  rw[Jo,Jb,Lp]
  lia
theorem Dv {CX:A7}{P:Ni}{k:Nat}{f:N8}{name qual:Nh}{params:Arguments}{body:-Nn}{scope:NT}{M kV m pm h L oc:N7}{D Z0:Option N8}
  {C:Array (Option N7)} {N ps:-Nh} {sp:Sp} (R:K.lookup f>⟨oc,Z0,.func (JK name qual params body scope M kV m pm D h L),C⟩) (B:Kd K h qual=true) (S:ei N ps scope)
  (len:∀vs H Q E,sp vs H Q E->↑vs=↑ps)
  (j:∀(A:Nu) (g:-O0) (s:N_) (H:Hp) (vs:-V) (Q:VK) (E:XK),aR k (A.deeper (envOfC qual scope (~~~s) f h))->sp vs H Q E->
   ∃t,sM (lY CX P w K mg Oa N qual scope f h A g s H E) body t/\t {nx:=λ_ H'=>Q .non H',rt:=Q} (start N vs) H):
  fq P w K mg Oa CX (k+1) f (JK name qual params body scope M kV m pm D h L) ps sp:=by
 show⟨len,λA g s H O T vs Q E hr l hb r p=>?_⟩
 let Y:=len _ _ _ _ p
 let F:K.In s.heap:=l.mod.kin.keeps λb o e=>(l.bs b o e).1
 let d:s.heap.NoLimit:=l.mod.nolimit.keeps λb o e=>(l.bs b o e).1
 let a:∀y∈ps.zip T,scope.names.lookup y.1>.local\/(scope.names.lookup y.1>.cell/\((cellsFrom (~~~s+1) scope.names []).lookup y.1).isSome=true):=λ⟨n,v⟩ hy=>by
  rcases S.par n (Lo hy).1 with q|q
  ·show .inl q
  ·show .inr ⟨q,PySem.W.cellsFrom_some _ _ _ (.inl q)⟩
 show codeAny_call_function hr.depth (F _ _ R) Z S.co S.gen Z (PySem.W.codeRec_of F B) (hb _ _ _ _ ?_)
 show wpAny_newFunctionEnv_cells S.kind a λenv X s1 x=>?_
 subst X
 show⟨d.keeps x.toInCall.keep,codeAny_func ?_⟩
 let⟨t,ht,hq⟩:=j A g s H vs Q E (hr.deeper _) p
 let I:aG (lY CX P w K mg Oa N qual scope f h A g s H E) [] (start N vs) H s1:=nW S hr.hd l Y r x
 show J3 (ht [] s1 (start N vs) H _ I hq) (λU s' hs=>?_) λe s' hs=>hs
 let c:∀{i:St} {H':Hp} {v:V} {u:N7},aG (lY CX P w K mg Oa N qual scope f h A g s H E) [] i H' s'->aY v u->Q v H'->CE g P w H s Q u s':=
  fun{i H' v u} J z q=>⟨v,H',J.os,J.bare,J.Oa,J.hok,z,q⟩
 cases U with
 |ret u=>
  let⟨v,i,H',J,z,q⟩:=hs
  show c J z q
 |next=>
  let⟨i,H',J,q⟩:=hs
  show c (v:=V.non) (u:=N7.none) J Z q
 |brk=>
  let⟨_,_,_,q⟩:=hs
  show False.elim q
 |cont=>
  let⟨_,_,_,q⟩:=hs
  show False.elim q
section
variable {x:Nh} {p pos:O2} {e:Nw} {es:-Nw} {t:TA} {id T:String} {r:-V->Hp->VK->Prop}
def BI (r:-V->Hp->VK->Prop) (t:TA):TE:=λσ H Q=>t σ H λvs H1=>r vs H1 Q
theorem za (d:cJ X (.builtin id) r)(j:Gl X x)(l:X.mg x=none)(hv:NC x>.builtin id)(k:PA X (e::es) t)(n:x≠ "__name__" :=by decide)(a:(x==("__debug__" :Nh))=false:=by decide)
  (m:Nf (e::es) X.env=(false,eval e X.env)::Nf es X.env:=by rfl) (b:(NG pos (Nf es X.env)).any (·.1)=false:=by rfl):PE X (.Call (.Name x p) (e::es) [] pos) (BI r t):=by
 intro O9 s σ H Q I h
 show KM (iJ I j l hv ?_ n a)
 show PyProof.Rows.callWith_builtin1 (cz (k pos O9 s σ H _ I h) λi s1 c=>by let⟨vs,H1,I1,f,g⟩:=c;show d O9 s1 σ H1 vs i Q I1 f g) m b
theorem oU (d:cJ X (.type T) r)(j:Gl X x)(l:X.mg x=none)(hv:NC x>.type T)(k:PA X (e::es) t)(n:x≠ "__name__" :=by decide)(a:(x==("__debug__" :Nh))=false:=by decide)
  (m:Nf (e::es) X.env=(false,eval e X.env)::Nf es X.env:=by rfl) (b:(NG pos (Nf es X.env)).any (·.1)=false:=by rfl):PE X (.Call (.Name x p) (e::es) [] pos) (BI r t):=by
 intro O9 s σ H Q I h
 show KM (iJ I j l hv ?_ n a)
 show PyProof.Rows.callWith_type1 (cz (k pos O9 s σ H _ I h) λi s1 c=>by let⟨vs,H1,I1,f,g⟩:=c;show d O9 s1 σ H1 vs i Q I1 f g) m b
end
end L2
namespace HT
open PySem PyProof.Rows
noncomputable def lexLt:-Int->-Int->Bool
 |[],[]=>false
 |[],_::_=>true
 |_::_,[]=>false
 |x::xs,y::ys=>if x=y then lexLt xs ys else decide (x<y)
theorem lexLt_cons (x y:Int)(xs ys:-Int):lexLt (x::xs) (y::ys)=if x=y then lexLt xs ys else decide (x<y):=rfl
theorem lexLt_nil_nil:lexLt [] []=false:=rfl
theorem lexLt_nil_cons (y:Int)(ys:-Int):lexLt [] (y::ys)=true:=rfl
theorem lexLt_cons_nil (x:Int)(xs:-Int):lexLt (x::xs) []=false:=rfl
noncomputable def sIx (n d:Nat):Option Int->Nat
 |none=>d
 |some v=>if v<0 then (v+(n:Int)).toNat else min v.toNat n
theorem sIx_none (n d:Nat):sIx n d none=d:=rfl
theorem sIx_nat (n d k:Nat):sIx n d (some (k:Int))=min k n:=by
 change(if (k:Int)<0 then ((k:Int)+(n:Int)).toNat else min (k:Int).toNat n)=min k n
 rw[N0 (),Kn]
end HT
namespace L2
open PySem PySem.Spec PyProof.Rows
variable {X:Cx} {O9:-(N8×Nv)} {σ:St} {H:Hp} {s:N_} {prog:Ni} {w:Nr} {A:Nu} {E:N7->N_->Prop} {K:Je} {mg:Nh->Option N7} {Oa:Ng}
abbrev TO:=St->Hp->(Option Int->Hp->Prop)->Prop
def PO (X:Cx) (e:Option Nw) (t:TO):Prop:=
 ∀(O9:-(N8×Nv)) (s:N_) (σ:St) (H:Hp) (Q:Option Int->Hp->Prop),aG X O9 σ H s->t σ H Q->
  Na (Nd X.prog X.w) X.A (evalPart e X.env) (λu s'=>∃o H',aG X O9 σ H' s'/\IsPart u o/\Q o H') X.xe s
def CD:TO:=λ_ H Q=>Q none H
noncomputable def F6 (t:TE):TO:=λσ H Q=>t σ H λx H1=>∃i,x=.int i/\Q (some i) H1
theorem jy{ns:-Int}:∀{a:-N7},a8 (ns.map V.int) a->O7 a ns:=by
 induction ns with
 |nil=>intro a r;rw[List.map_nil] at r;cases r;show .nil
 |cons n ns ih=>
  intro a r
  cases r with
  |cons r1 r2=>
   let⟨t,e⟩:=r1
   subst e
   show .cons n t (ih r2)
section
variable {e:Nw} {te:TE} {lo hi:Option Nw} {tl th:TO} {pos p2:O2}
theorem fG:PO X none CD:=by
 intro O9 s σ H Q I h
 show Jc ⟨none,H,I,.none,h⟩
theorem eC (h:PE X e te):PO X (some e) (F6 te):=by
 intro O9 s σ H Q I d
 show cz (h O9 s σ H _ I d) λu s1 a=>?_
 let⟨x,H1,I1,b,c⟩:=a
 let⟨i,rfl,q⟩:=c
 let⟨t,rfl⟩:=b
 show⟨some i,H1,I1,.int i t,q⟩
def GN (X:Cx) (r:V->Option Int->Option Int->Hp->VK->Prop):Prop:=
 ∀(O9:-(N8×Nv)) (s:N_) (σ:St) (H:Hp) (x:V) (v b c:N7) (lo hi:Option Int) (a:N8) (Q:VK),aG X O9 σ H s->aY x v->s.heap.IsSliceOf a b c .none->IsPart b lo->IsPart c hi->r x lo hi H Q->
  ∃T id,NX (.type T) "__getitem__" =pure (some (.builtin id))/\s.TypeIs v T/\Na (Nd X.prog X.w) X.A (getItem v (.ref a)) (EP X O9 σ Q) X.xe s
def HY (r:V->Option Int->Option Int->Hp->VK->Prop) (te:TE) (a b:TO):TE:=λσ H Q=>te σ H λx H1=>a σ H1 λl H2=>b σ H2 λu H3=>r x l u H3 Q
theorem dQ {r:V->Option Int->Option Int->Hp->VK->Prop}(w:GN X r)(k:PE X e te)(o:PO X lo tl)(j:PO X hi th):PE X (.Subscript e (.Slice lo hi none p2) pos) (HY r te tl th):=by
 intro O9 s σ H Q I h
 show Subscript_ (cz (k O9 s σ H _ I h) λv s1 a=>?_)
 let⟨x,H1,I1,p,i⟩:=a
 show wpAny_Slice (cz (o O9 s1 σ H1 _ I1 i) λd g a=>?_)
 let⟨l,H2,I2,y,z⟩:=a
 show cz (j O9 g σ H2 _ I2 z) λf c a=>?_
 let⟨u,H3,I3,n,A⟩:=a
 show Jc ?_
 let B:aG X O9 σ H3 {c with heap:=c.heap.push {cls:=.type "slice",data:=.fields #[d,f,.none]}}:=I3.kept (t':=c.toks) λb C q=>Ji _ q
 let⟨T,id,m,ht,hg⟩:=w O9 {c with heap:=c.heap.push {cls:=.type "slice",data:=.fields #[d,f,.none]}} σ H3 x v d f l u (~~~c) Q B p (Ng.IsSliceOf.new ..) y n A
 show tail_any (ops:=[.ref (~~~c),v]) ht m hg (by with_unfolding_all rfl)
noncomputable def gh (xs:-V) (a b:Option Int):-V:=(xs.drop (HT.sIx ↑xs 0 a)).take (HT.sIx ↑xs ↑xs b - HT.sIx ↑xs 0 a)
theorem kX (xs:-V)(a b:Option Int):↑(gh xs a b)<=↑xs:=by
 unfold gh
 rw[JT,KA]
 omega
end
noncomputable def AZ (n:Nat) (i:Int):Option Nat:=if 0<=i then (if i<n then some i.toNat else none) else if -(n:Int)<=i then some (i+n).toNat else none
noncomputable def jH {α:Type} (xs:-α) (i:Int):Option α:=(AZ ↑xs i).bind λj=>xs[j]?
theorem wc(h:AZ n i>j):seqIndex? i n>j/\j<n/\ -(n:Int)<=i/\i<n:=by
 unfold AZ at h
 by_cases h0:0<=i
 ·rw[N1 h0] at h
  by_cases h1:i<n
  ·rw[N1 h1] at h
   let e:i.toNat=j:=Option.some.inj h
   show⟨by rw[seqIndex_of h0 h1,e],(),(),h1⟩
  ·rw[N0 h1] at h;cases h
 ·rw[N0 h0] at h
  by_cases h1: -(n:Int)<=i
  ·rw[N1 h1] at h
   let e:(i+n).toNat=j:=Option.some.inj h
   show⟨by rw[seqIndex_neg () h1,e],(),h1,()⟩
  ·rw[N0 h1] at h;cases h
theorem pf {a:Type}{xs:-a}{v:a}(h:jH xs i>v):∃j,seqIndex? i ↑xs>j/\xs[j]?>v/\j<↑xs/\ -(↑xs:Int)<=i/\i<↑xs:=by
 unfold jH at h
 cases e:AZ ↑xs i with
 |none=>rw[e] at h;cases h
 |some j=>
  rw[e] at h
  let⟨h1,h2,c,b⟩:=wc e
  show⟨j,h1,h,h2,c,b⟩
theorem bC {a:Type}{xs:-a}{j:Nat}{v:a}(h:xs[j]?>v):jH xs (j:Int)>v:=by
 let b:j<↑xs:=(Js.mp h).1
 let e:AZ ↑xs (j:Int)>j:=by
  unfold AZ
  rw[N1 (),N1 ()];simp
 unfold jH;rw[e];show h
theorem qP {a:Type}(xs:-a)(v:a):jH (xs++[v]) (-1)>v:=by
 let b:↑(xs++[v])=↑xs+1:=by simp
 let e:AZ ↑(xs++[v]) (-1)>↑xs:=by
  unfold AZ
  rw[b,N0 (by decide),N1 ()]
  congr 1
  lia
 unfold jH
 rw[e]
 change(xs++[v])[↑xs]?>v
 simp
def vx (b:Nw):Prop:=∀o i,subscripted b false o i=operate [o,i] (getItem o i)
def EJ (X:Cx) (r:R2):Prop:=
 ∀(value a:Nw) (O9:-(N8×Nv)) (s:N_) (σ:St) (H:Hp) (x y:V) (v u:N7) (Q:VK),aG X O9 σ H s->aY x v->aY y u->r x y H Q->
  subscripted a false v u=operate [v,u] (getItem v u)->Na (Nd X.prog X.w) X.A (subscriptTail value a v u) (EP X O9 σ Q) X.xe s
def Do (X:Cx) (id:String) (r:V->-V->Hp->VK->Prop):Prop:=
 ∀(O9:-(N8×Nv)) (s:N_) (σ:St) (H:Hp) (x:V) (xs:-V) (v:N7) (a:-N7) (Q:VK),aG X O9 σ H s->aY x v->a8 xs a->r x xs H Q->
  Na (Nd X.prog X.w) X.A (call (.builtin id) (v::a)) (EP X O9 σ Q) X.xe s
section
variable {a b:Nw} {ta tb:TE} {pos:O2}
theorem FB(e:EJ X r)(g:PE X a ta)(c:PE X b tb)(j:vx b):PE X (.Subscript a b pos) (gb r ta tb):=by
 intro O9 s σ H Q I h
 show Subscript_ (ER g c I h λv u d x y H2 I2 i f q=>e a b O9 d σ H2 x y v u Q I2 i f q (j _ _))
def nu (K:Je):R2:=λx y H Q=>∃p xs i v,x=.ref p/\y=.int i/\aM K H p xs/\jH xs i>v/\Q v H
def mX (K:Je):R2:=λx y H Q=>∃p xs i v,x=.ref p/\y=.int i/\bh K H p xs/\jH xs i>v/\Q v H
def FS:R2:=λx y H Q=>∃z i c,x=.str z/\y=.int i/\↑z<=N9/\jH z.cps.toList i>c/\Q (.str ⟨#[c]⟩) H
theorem aF:EJ X (nu X.K):=by
 intro value e O9 s σ H x y v u Q I l k h hs
 let⟨p,xs,i,z,rfl,rfl,hq,n,q⟩:=h
 cases l
 let⟨t,rfl⟩:=k
 let⟨c,r,f,C⟩:=I.list hq
 let⟨j,h1,h2,B,m,A⟩:=pf n
 let⟨w,g,b⟩:=r.get h2
 let o:=↑r
 let D:=qr
 let a:EP X O9 σ Q w s:=⟨z,H,I,b,q⟩
 by_cases h0:0<=i
 ·let d:i.toNat=j:=by
   rw[seqIndex_of h0 A] at h1
   show Option.some.inj h1
  show item_listR f.isList h0 () (by rw[d];simpa using g) a hs
 ·let d:(i+(c.toArray.size:Int)).toNat=j:=by
   rw[seqIndex_neg () m] at h1
   rw[JD,<-o]
   show Option.some.inj h1
  show subscriptTail_builtinR (x:=w) f.isList.typeIs slot_list_getitem.lookup
   (wpAny_getItem_list_neg (Q:=λr s'=>r=w/\EP X O9 σ Q r s') f.isList () (by rw[JD]<;>lia) () (by rw[d];simpa using g) ⟨Z,a⟩) hs
theorem aH:EJ X (mX X.K):=by
 intro value d O9 s σ H x y v u Q I k g h hs
 let⟨p,xs,i,z,rfl,rfl,hq,l,q⟩:=h
 cases k
 let⟨t,rfl⟩:=g
 let⟨c,r,e,B⟩:=I.tuple hq
 let⟨j,h1,h2,o,n,A⟩:=pf l
 let⟨w,f,a⟩:=r.get h2
 let m:=↑r
 let C:=qr
 let b:EP X O9 σ Q w s:=⟨z,H,I,a,q⟩
 show subscriptTail_builtinR (x:=w) e.typeIs slot_tuple_getitem.lookup
  (getItem_tuple (j:=j) (Q:=λr s'=>r=w/\EP X O9 σ Q r s') e () () (by rw[JD,<-m];show h1) (by simpa using f) ⟨Z,b⟩) hs
theorem EU:EJ X FS:=by
 intro value a O9 s σ H x y v u Q I g e h hs
 let⟨z,i,c,rfl,rfl,p,l,q⟩:=h
 let⟨t,rfl⟩:=g
 let⟨o,rfl⟩:=e
 let⟨j,h1,h2,n,k,f⟩:=pf l
 let m:↑z.cps.toList=↑z:=by simp[Nh.length]
 rw[m] at h1 k f
 let r:=qr
 show tail_any (typeIs_str s z t) slot_str_getitem.lookup (getItem_str (c:=c) (by
  let b:decide (i< -(2^63:Int))=false:=N5 ()
  let d:decide (i>=2^63)=false:=N5 ()
  rw[b,d,Bool.or_false]) (by rw[h1];simpa using h2) ⟨.str ⟨#[c]⟩,H,I.tok _,⟨_,Z⟩,q⟩) hs
theorem ug (its:-N7)(n j:Nat)(u:N7):Nv.mapSeq (·.setIfInBounds j u) {cls:=.type "list",data:=.seq its.toArray n}={cls:=.type "list",data:=.seq (its.set j u).toArray n}:=by
 simp[Nv.mapSeq]
theorem aG.lst(I:aG X O9 σ H s)(h:H p>.lst xs):
  ∃(a:-N7) (n:Nat),a8 xs a/\s.heap.get? p=some {cls:=.type "list",data:=.seq a.toArray n}/\↑xs<=N9:=by
 let⟨z,a,n,r,e⟩:=I.hok p _ h
 show⟨a,n,r,e,z⟩
theorem aG.lstUpd {p:N8}{xs ys:-V}{its its':-N7}{n a:Nat}{f:Nv->Nv}(I:aG X O9 σ H s)(h:H p>.lst xs)
  (c:s.heap.get? p=some {cls:=.type "list",data:=.seq its.toArray n}) (hf:f {cls:=.type "list",data:=.seq its.toArray n}={cls:=.type "list",data:=.seq its'.toArray a}) (r:a8 ys its') (hz:↑ys<=N9) (t:Nat):
  aG X O9 σ (Oc H p (.lst ys)) {s with heap:=s.heap.update p f,toks:=t}:=by
 let e:(s.heap.update p f).get? p=some {cls:=.type "list",data:=.seq its'.toArray a}:=by
  rw[Kg f c (by rw[hf]<;>rfl),hf]
 show I.write (x:=p) (e:=p) (by rw[h];trivial) (.inl Z) (λb u hb q=>(Ng.get?_update_other _ _ (Jr hb)).trans q) ⟨_,e⟩ ?_
 show⟨hz,its',a,r,e⟩
noncomputable def Gs:V->V->V->Hp->(Hp->Prop)->Prop:=λo i v H Q=>∃p xs k j,o=.ref p/\i=.int k/\H p>.lst xs/\AZ ↑xs k>j/\Q (Oc H p (.lst (xs.set j v)))
theorem Ac:FZ X Gs:=by
 intro O9 s σ H o i v ov y u Q I ro l x h
 let⟨p,xs,k,j,rfl,rfl,hp,w,q⟩:=h
 cases ro
 let⟨t,rfl⟩:=l
 let⟨a,n,r,b,m⟩:=I.lst hp
 let⟨h1,h2,g,e⟩:=wc w
 let c:=↑r
 let z:=qr
 let f:aG X O9 σ (Oc H p (.lst (xs.set j v))) {s with heap:=s.heap.update p (Nv.mapSeq (·.setIfInBounds j u))}:=
  I.lstUpd hp b (ug a n j u) (r.set x j) (Lq<|m) s.toks
 by_cases h0:0<=k
 ·let d:k.toNat=j:=by
   rw[seqIndex_of h0 e] at h1
   show Option.some.inj h1
  show PySem.W.ki_setAt b h0 () (by rw[JD,<-c];show e) (d<|⟨_,f,q⟩)
 ·let d:(k+(a.toArray.size:Int)).toNat=j:=by
   rw[seqIndex_neg () g] at h1
   rw[JD,<-c]
   show Option.some.inj h1
  show PySem.W.ki_setBack b () (by rw[JD,<-c];show g) () (d<|⟨_,f,q⟩)
theorem qh (a b:Option Int)(n:Nat):(NZ a b none n).1=((HT.sIx n 0 a:Nat):Int)/\(NZ a b none n).2.1=((HT.sIx n n b:Nat):Int)/\(NZ a b none n).2.2=1:=by
 show⟨?_,?_,Z⟩
 ·cases a with
  |none=>simp[NZ,HT.sIx]
  |some i=>
   simp only[NZ,HT.sIx,Option.getD_none,show GT.gt (1:Int) 0 by decide,if_true]
   by_cases h:i<0
   ·simp only[h,if_true]<;>lia
   ·simp only[h,if_false]<;>lia
 ·cases b with
  |none=>simp[NZ,HT.sIx]
  |some i=>
   simp only[NZ,HT.sIx,Option.getD_none,show GT.gt (1:Int) 0 by decide,if_true]
   by_cases h:i<0
   ·simp only[h,if_true]<;>lia
   ·simp only[h,if_false]<;>lia
theorem nH (its:-N7)(a b:Option Int):slicePick its.toArray a b none=((its.drop (HT.sIx ↑its 0 a)).take (HT.sIx ↑its ↑its b - HT.sIx ↑its 0 a)).toArray:=by
 let⟨h1,h2,c⟩:=qh a b its.toArray.size
 unfold slicePick
 rw[h1,h2,c]
 simp only[sliceRange_one,pick_run,JD]<;>rfl
noncomputable def HN (K:Je):V->Option Int->Option Int->Hp->VK->Prop:=λx lo hi H Q=>∃a xs,x=.ref a/\aM K H a xs/\∀p,H p=none->Q (.ref p) (Oc H p (.lst (gh xs lo hi)))
theorem jS:GN X (HN X.K):=by
 intro O9 s σ H x v n m lo hi l Q I f hs e i h
 let⟨a,xs,rfl,j,q⟩:=h
 cases f
 let⟨d,r,ht,g⟩:=I.list j
 let c:=↑r
 show⟨"list",_,slot_list_getitem.lookup,ht.isList.typeIs,?_⟩
 show wpAny_getItem_list_slice ht.isList hs e i .none (by simp) ?_ (by rw[JD]<;>lia)
 rw[nH,<-c]
 show⟨.ref (~~~s),_,I.laid (t':=s.toks) (o:=.lst (gh xs lo hi)) (λb k q=>Ji _ q) (Jd _) ?_,Z,q _ (I.hok.fresh (Jd _))⟩
 show⟨Jt (kX xs lo hi) g,_,0,(r.drop (HT.sIx ↑xs 0 lo)).take (HT.sIx ↑xs ↑xs hi - HT.sIx ↑xs 0 lo),Jp _ Z⟩
theorem fW:cJ X (.type "list") (λxs H Q=>∃p ys,xs=[.ref p]/\(aM X.K H p ys\/bh X.K H p ys)/\∀l,H l=none->Q (.ref l) (Oc H l (.lst ys))):=by
 intro O9 s σ H xs y Q I r h
 let⟨p,ys,rfl,hq,q⟩:=h
 let⟨u,rfl,x⟩:=dZ r
 cases x
 let c:∀(a:-N7),a8 ys a->↑ys<=N9->∀(h':Ng) (f:Nat),(∀b o',s.heap.get? b>o'->h'.get? b>o')->
   h'.get? (~~~s)=some {cls:=.type "list",dict:=none,data:=.seq a.toArray f,slots:= #[]}->EP X O9 σ Q (.ref (~~~s)) {s with heap:=h'}:=λa g i h' f kp e=>
  ⟨.ref (~~~s),_,I.laid (t':=s.toks) kp (Jd _) (show bN X.prog X.w _ h' _ (.lst ys) from⟨i,a,f,g,e⟩),Z,q _ (I.hok.fresh (Jd _))⟩
 rcases hq with hq|hq
 ·let⟨a,g,v,i⟩:=I.list hq
  let d:=↑g
  let⟨o,k,j,n,m⟩:=v.isList
  show call_list_seq p (.inl Z) k j m (λh' f kp e=>c a g i h' f kp e) (by simp only[JD]<;>lia)
 ·let⟨a,g,v,i⟩:=I.tuple hq
  let d:=↑g
  let⟨o,k,j,n,m⟩:=v
  show call_list_seq p (.inr Z) k j m (λh' f kp e=>c a g i h' f kp e) (by simp only[JD]<;>lia)
theorem gz:cJ X (.type "tuple") (λxs H Q=>∃p ys,xs=[.ref p]/\((aM X.K H p ys/\∀l,H l=none->Q (.ref l) (Oc H l (.tup ys)))\/(bh X.K H p ys/\Q (.ref p) H))):=by
 intro O9 s σ H xs m Q I r h
 let⟨p,ys,rfl,h⟩:=h
 let⟨u,rfl,k⟩:=dZ r
 cases k
 rcases h with ⟨hq,q⟩|⟨hq,q⟩
 ·let⟨a,d,f,g⟩:=I.list hq
  let c:=↑d
  show call_tuple_list f.isList (λh' kp=>?_) (by simp only[JD]<;>lia)
  let i:aG X O9 σ H {s with heap:=h'}:=I.kept (t':=s.toks) kp
  let j:aG X O9 σ (Oc H h'.objs.size (.tup ys)) {s with heap:=h'.push {cls:=.type "tuple",data:=.seq a.toArray}}:=
   i.laid (t':=s.toks) (λb o e=>Ji _ e) (Jd _) (show bN X.prog X.w _ _ _ (.tup ys) from⟨g,a,d,IsTup.new _ _⟩)
  show⟨.ref h'.objs.size,_,j,Z,q _ (i.hok.fresh (Jd _))⟩
 ·let⟨a,d,f,g⟩:=I.tuple hq
  show call_tuple_same f ⟨.ref p,H,I,Z,q⟩
def GQ (K:Je) (T:String) (x:V) (H:Hp):Prop:=match x with
 | .str _=>T= "str"
 | .int _=>T= "int"
 | .ref p=>(T= "list" /\∃xs,aM K H p xs)\/(T= "tuple" /\∃o,K.lookup p>o/\o.cls=.type "tuple" /\o.dict=none)\/
   (T= "dict" /\(False\/∃a,H p>.dT a))\/False
 |_=>False
theorem yS(I:aG X O9 σ H s)(r:aY x v)(ty:GQ X.K T x H):
  s.TypeIs v T/\∀a,v=.ref a->∃g,s.heap.get? a>g/\g.dict=none:=by
 cases x with
 |str z=>
  let⟨t,rfl⟩:=r
  cases(show T= "str" from ty)
  show⟨typeIs_str s z t,λ_ e=>by cases e⟩
 |int i=>
  let⟨t,rfl⟩:=r
  cases(show T= "int" from ty)
  show⟨typeIs_int s i t,λ_ e=>by cases e⟩
 |ref p=>
  cases r
  rcases ty with ⟨rfl,xs,hq⟩|⟨rfl,o,hk,j,f⟩|⟨rfl,hk⟩|hk
  ·let⟨d,_,h,_⟩:=I.list hq
   show⟨h.isList.typeIs,λa e=>?_⟩
   cases e
   let⟨o,n,e,c,f,_⟩:=h
   show⟨o,e,f⟩
  ·show⟨⟨o,I.kIn p o hk,j⟩,λa e=>?_⟩
   cases e
   show⟨o,I.kIn _ o hk,f⟩
  ·let⟨b,hk⟩:=hk.resolve_left id
   let⟨_,_,_,_,o,_,_,e,ex,_⟩:=I.hok p _ hk
   show⟨⟨o,e,ex.1⟩,λa k=>?_⟩
   cases k
   show⟨o,e,ex.2.1⟩
  ·show hk.elim
 |_=>show False.elim ty
def GY (K:Je) (T:String) (r:V->-V->Hp->VK->Prop) (a:TE):TE:=λσ H Q=>a σ H λx H1=>GQ K T x H1/\r x [] H1 Q
def yl (K:Je) (T:String) (r:V->-V->Hp->VK->Prop) (a:TE) (t:TA):TE:=λσ H Q=>a σ H λx H1=>GQ K T x H1/\t σ H1 λxs H2=>r x xs H2 Q
variable {o e:Nw} {es:-Nw} {to:TE} {t:TA} {name:Nh} {apos cpos:O2} {T id:String} {r:V->-V->Hp->VK->Prop}
theorem AO (g:PlainAttrs T)(c:Slot T name id)(d:typeOf (.builtin id)=pure (.type "method_descriptor"))(k:Do X id r)(i:PE X o to)
  (b:NV o name X.env (eval o X.env)=eval o X.env:=by rfl) (a:(apos.endLine==cpos.line)=true:=by rfl):PE X (.Call (.Attribute o name apos) [] [] cpos) (GY X.K T r to):=by
 intro O9 s σ H Q I h
 show wpAny_Call_method0_late b a (cz (i O9 s σ H _ I h) λv s1 e=>?_)
 let⟨x,H1,I1,f,ty,j⟩:=e
 let⟨h1,h2⟩:=yS I1 f ty
 show⟨T,id,g,c,d,h1,h2,Calls.callWith_builtin Z (PySem.evalArgs_none (k O9 s1 σ H1 x [] v [] Q I1 f .nil j))⟩
theorem bR (m:PlainAttrs T)(f:Slot T name id)(i:typeOf (.builtin id)=pure (.type "method_descriptor"))(y:Do X id r)(n:PE X o to)(w:PA X (e::es) t)
  (d:NV o name X.env (eval o X.env)=eval o X.env:=by rfl)
  (g:((NG cpos (Nf (e::es) X.env)).all (λx=>!x.1)&&(backToKw cpos (keywordEach [] X.env)).all (λx=>x.1.isSome)
   &&decide (↑(e::es)+↑([]:-Keyword)+(if ([]:-Keyword).isEmpty then 0 else 1)<30))=true:=by rfl)
  (b:(apos.endLine==cpos.line)=true:=by rfl) (A:Nf (e::es) X.env=(false,eval e X.env)::Nf es X.env:=by rfl) (a:(NG cpos (Nf es X.env)).any (·.1)=false:=by rfl):
  PE X (.Call (.Attribute o name apos) (e::es) [] cpos) (yl X.K T r to t):=by
 intro O9 s σ H Q I h
 show wpAny_Call_method_late d g b Z (cz (n O9 s σ H _ I h) λv s1 c=>?_)
 let⟨x,H1,I1,j,ty,q⟩:=c
 let⟨h1,h2⟩:=yS I1 j ty
 show⟨T,id,m,f,i,h1,h2,?_⟩
 let k:=w cpos O9 s1 σ H1 _ I1 q
 rw[A] at k|-
 show Calls.callWith_builtin (by change(false||(NG cpos (Nf es X.env)).any (·.1))=false;rw[a]<;>rfl) (Calls.evalArgs_plain ?_)
 show cz k λu p c=>by let⟨vs,H2,I2,l,z⟩:=c;show y O9 p σ H2 x vs v u Q I2 j l z
end
def HI (X:Cx) (id:String) (r:V->-V->Hp->VK->Prop):Prop:=
 ∀(O9:-(N8×Nv)) (s:N_) (σ:St) (H:Hp) (x:V) (xs:-V) (v:N7) (a:-N7) (Q:VK),aG X O9 σ H s->aY x v->a8 xs a->r x xs H Q->
  Na (Nd X.prog X.w) X.A (call (.builtin id) (v::a)) (EP X O9 σ Q) X.xe s
theorem a8.one(h:a8 [x] us):∃u,us=[u]/\aY x u:=by
 cases h with|cons r t=>cases t;show⟨_,Z,r⟩
theorem a8.zero:∀{a:-N7},a8 [] a->a=[]
 |_,.nil=>rfl
theorem a8.dropLast(h:a8 xs us):a8 xs.dropLast us.dropLast:=by
 induction h with
 |nil=>show .nil
 |cons r t ih=>
  cases t with
  |nil=>show .nil
  |cons q t'=>show .cons r ih
theorem a8.reverse(h:a8 xs us):a8 xs.reverse us.reverse:=by
 induction h with
 |nil=>show .nil
 |cons r t ih=>rw[LM,LM];show a8.append ih (.cons r .nil)
theorem a8.rep(h:a8 xs us):∀k:Nat,a8 (List.replicate k xs).flatten (List.replicate k us).flatten
 |0=> .nil
 |k+1=>by
  rw[List.replicate_succ,List.replicate_succ,List.flatten_cons,List.flatten_cons]
  show a8.append h (a8.rep h k)
section
variable {l b:N8} {xs ys zs:-V}
theorem aG.lset {its its':-N7}{n:Nat}{f:Array N7->Array N7}{t':Nat}(I:aG X O9 σ H s)(b:H l>.lst xs)
  (e:s.heap.get? l=some {cls:=.type "list",data:=.seq its.toArray n}) (hf:f its.toArray=its'.toArray) (hv:a8 ys its') (hz:↑ys<=N9):
  aG X O9 σ (Oc H l (.lst ys)) {s with heap:=s.heap.update l (Nv.mapSeq f),toks:=t'}:=by
 let q:=PySem.IsL.update e f
 rw[hf] at q
 show I.write (x:=l) (e:=l) (b<|trivial) (.inl Z) (λc u hb a=>(Ng.get?_update_other s.heap (Nv.mapSeq f) (Jr hb)).trans a) ⟨_,q⟩ ?_
 show⟨hz,its',_,hv,q⟩
theorem aG.lnew(I:aG X O9 σ H s)(hv:a8 ys its)(hz:↑ys<=N9):
  aG X O9 σ (Oc H (~~~s) (.lst ys)) {s with heap:=s.heap.push {cls:=.type "list",data:=.seq its.toArray},toks:=t'}:=
 I.laid (λ_ _ q=>Ji _ q) (Jd _) ⟨hz,its,0,hv,Jp _ Z⟩
theorem aG.fresh (I:aG X O9 σ H s):H (~~~s)=none:=I.hok.fresh (Jd _)
theorem aG.lstM (I:aG X O9 σ H s)(b:H l>.lst xs):↑xs<=N9/\∃(a:-N7) (n:Nat),a8 xs a/\↑xs=↑a/\s.heap.get? l=some {cls:=.type "list",data:=.seq a.toArray n}:=by
 let⟨z,a,n,r,e⟩:=I.hok l _ b
 show⟨z,a,n,r,↑r,e⟩
end
noncomputable def vm:V->-V->Hp->VK->Prop:=λx vs H Q=>∃l xs y,x=.ref l/\vs=[y]/\H l>.lst xs/\↑xs<N9/\Q .non (Oc H l (.lst (xs++[y])))
theorem bL:HI X "list.append" vm:=by
 intro O9 s σ H x vs v i Q I c f h
 let⟨l,xs,y,rfl,rfl,b,j,q⟩:=h
 cases c
 let⟨u,rfl,d⟩:=f.one
 let⟨z,a,n,r,g,e⟩:=I.lstM b
 show call_meets F.slot_list_append ⟨_,e,Z⟩ F.entry_list_append (F.args_list_append_2 _ _) (PySem.list_append l a.toArray n u (by rw[JD];lia)) ⟨e,?_⟩
 show⟨.non,_,I.lset (its':=a++[u]) b e (by simp) (r.append (.cons d .nil)) ?_,Z,q⟩
 rw[Jo,List.length_singleton]
 lia
def Hl:R2:=λx y H Q=>∃l b xs zs,x=.ref l/\y=.ref b/\H l>.lst xs/\H b>.lst zs/\↑xs+↑zs<=N9/\∀p,H p=none->Q (.ref p) (Oc H p (.lst (xs++zs)))
theorem mf:fZ X (binaryOp .Add) Hl:=by
 intro O9 s σ H x y v u Q I m j h
 let⟨l,b,xs,zs,rfl,rfl,o,k,B,q⟩:=h
 cases m
 cases j
 let⟨z,c,n,r,p,e⟩:=I.lstM o
 let⟨A,a,w,f,d,i⟩:=I.lstM k
 show PySem.P.add_list e i ?_ (by rw[JD,JD];lia)
 let g:c.toArray++a.toArray=(c++a).toArray:=by simp
 rw[g]
 show⟨.ref _,_,I.lnew (t':=s.toks) (r.append f) (by rw[Jo];lia),Z,q _ I.fresh⟩
section
variable {κ:Type} [DecidableEq κ]
noncomputable def bg (a:-(κ×V)) (k:κ):Option V:=(a.find? λb=>decide (b.1=k)).map (·.2)
noncomputable def bW (a:-(κ×V)) (k:κ) (v:V):-(κ×V):=
 if (a.any λb=>decide (b.1=k))=true then a.map (λb=>if b.1=k then (b.1,v) else b) else a++[(k,v)]
theorem zc {k:κ}:bg ([]:-(κ×V)) k=none:=rfl
theorem b9 {p:κ×V}{r:-(κ×V)}{k:κ}(e:p.1=k):bg (p::r) k>p.2:=by simp[bg,List.find?_cons,e]
theorem b_ {p:κ×V}{r:-(κ×V)}{k:κ}(e:¬p.1=k):bg (p::r) k=bg r k:=by simp[bg,List.find?_cons,e]
theorem dG (k:κ):∀a:-(κ×V),(a.any λb=>decide (b.1=k))=(bg a k).isSome
 |[]=>rfl
 |p::r=>by
  rw[List.any_cons]
  by_cases e:p.1=k
  ·simp only[b9 e,N3 e,Bool.true_or,Option.isSome_some]
  ·rw[b_ e,N5 e,Bool.false_or];show dG k r
theorem qQ (k j:κ)(y:V):∀a:-(κ×V),bg (a.map λb=>if b.1=k then (b.1,y) else b) j=(bg a j).map λx=>if j=k then y else x
 |[]=>rfl
 |p::r=>by
  let c:=qQ k j y r
  rw[Jq]
  by_cases h:p.1=k
  ·rw[N1 h]
   by_cases e:p.1=j
   ·rw[b9 (p:=(p.1,y)) e,b9 e,Lc,N1 (e.symm.trans h)]
   ·rw[b_ (p:=(p.1,y)) e,b_ e,c]
  ·rw[N0 h]
   by_cases e:p.1=j
   ·rw[b9 (p:=p) e,b9 e,Lc,N0 (λz=>h (e.trans z))]
   ·rw[b_ (p:=p) e,b_ e,c]
theorem oV (k j:κ)(y:V):∀a:-(κ×V),bg a k=none->bg (a++[(k,y)]) j=if j=k then some y else bg a j
 |[],_=>by
  by_cases e:k=j
  ·rw[N1 e.symm];show b9 (p:=(k,y)) e
  ·rw[N0 (λz=>e z.symm)];show b_ (p:=(k,y)) e
 |p::r,hn=>by
  rw[List.cons_append]
  let b:¬p.1=k:=λz=>by rw[b9 z] at hn;cases hn
  rw[b_ b] at hn
  let c:=oV k j y r hn
  by_cases e:p.1=j
  ·rw[b9 e,b9 e,N0 (λz=>b (e.trans z))]
  ·rw[b_ e,b_ e,c]
theorem qK (b:-(κ×V))(k j:κ)(y:V):bg (bW b k y) j=if j=k then some y else bg b j:=by
 unfold bW
 by_cases a:(b.any λc=>decide (c.1=k))=true
 ·rw[N1 a,qQ]
  rw[dG] at a
  by_cases e:j=k
  ·let⟨x,d⟩:=K0.mp a
   rw[N1 e,e,d,Lc,N1 Z]
  ·rw[N0 e]
   cases bg b j with
   |none=>rfl
   |some x=>rw[Lc,N0 e]
 ·rw[N0 a]
  show oV k j y b ?_
  rw[dG] at a
  cases q:bg b k with
  |none=>rfl
  |some x=>rw[q] at a;show(a Z).elim
theorem iF (a:-(κ×V))(k:κ)(v:V):↑(bW a k v)<=↑a+1:=by
 unfold bW
 split
 ·rw[Jb];lia
 ·rw[Jo,JY,List.length_nil];lia
theorem jJ {a:-(κ×V)}{k:κ}(v:V)(h:bg a k=none):bW a k v=a++[(k,v)]:=by
 unfold bW
 rw[dG,h]
 show N0 (by decide)
theorem jx.isSome_eq{u:Option N7}(r:jx o u):o.isSome=u.isSome:=by
 cases o with
 |none=>cases u with
  |none=>rfl
  |some _=>show(show False from r).elim
 |some _=>cases u with
  |none=>show(show False from r).elim
  |some _=>rfl
theorem jx.getD{u:Option N7}(r:jx o u)(rd:aY d d'):aY (o.getD d) (u.getD d'):=by
 cases o with
 |none=>cases u with
  |none=>show rd
  |some _=>show(show False from r).elim
 |some _=>cases u with
  |none=>show(show False from r).elim
  |some _=>show r
end
theorem Gr(r:aY (kV k) u):(aU P w).is k u=true:=by
 cases k with
 |inl i=>let⟨t,e⟩:=(show∃t,u=N7.int i t from r);subst e;show rM P w i t
 |inr x=>let⟨t,e⟩:=(show∃t,u=N7.str x t from r);subst e;show rV P w x t
theorem oO:∀{ks:-dh} {a:-N7},a8 (ks.map kV) a->ItemsAre (aU P w) ks a
 |[],_,r=>by rw[List.map_nil] at r;cases r;show .nil
 |k::ks,_,r=>by
  cases r with
  |cons h t=>show .cons (Gr h) (oO t)
abbrev KT (H:Hp):-(-dh×V)->-(-dh×N8×N7)->Prop:=Nb λp q=>p.1=q.1/\H q.2.1>.tup (p.1.map kV)/\aY p.2 q.2.2
theorem KT.val {a:-(-dh×V)}{xs:-(-dh×N8×N7)}(r:KT H a xs)(k:-dh):jx (bg a k) ((atKey xs k).map (·.2)):=by
 induction r with
 |nil=>show True.intro
 | @cons p q ps c h t f=>
  let⟨h1,_,h2⟩:=h
  by_cases e:p.1=k
  ·let d:q.1=k:=h1.symm.trans e
   let b:atKey (q::c) k>q.2:=by simp[atKey,List.find?_cons,d]
   rw[b9 e,b];show h2
  ·let d:¬q.1=k:=λz=>e (h1.trans z)
   let b:atKey (q::c) k=atKey c k:=by simp[atKey,List.find?_cons,d]
   rw[b_ e,b];show f
theorem KT.repl {a:-(-dh×V)}{xs:-(-dh×N8×N7)}(r:KT H a xs)(k:-dh){y:V}{u:N7}(c:aY y u):
  KT H (a.map λb=>if b.1=k then (b.1,y) else b) (xs.map (putAt k u)):=by
 induction r with
 |nil=>show .nil
 | @cons p q ps qs h t ih=>
  rw[Jq,Jq]
  show .cons ?_ ih
  let⟨h1,h2,d⟩:=h
  unfold putAt
  by_cases e:p.1=k
  ·rw[N1 e,N1 (h1.symm.trans e)];show⟨h1,h2,c⟩
  ·rw[N0 e,N0 (λz=>e (h1.trans z))];show⟨h1,h2,d⟩
theorem KT.put {a:-(-dh×V)}{xs:-(-dh×N8×N7)}(r:KT H a xs)(k:-dh){b:N8}{y:V}{u:N7}(d:H b>.tup (k.map kV))(c:aY y u):
  KT H (bW a k y) (storedH xs k b u):=by
 let e:(a.any λf=>decide (f.1=k))=(atKey xs k).isSome:=by
  rw[dG,(r.val k).isSome_eq,Option.isSome_map]
 unfold bW storedH
 rw[e]
 by_cases q:(atKey xs k).isSome=true
 ·rw[N1 q,N1 q];show r.repl k c
 ·rw[N0 q,N0 q];show Nb.snoc r ⟨Z,d,c⟩
theorem KT.keeps{a:-(-dh×V)}{xs:-(-dh×N8×N7)}(r:KT H a xs)(ht:∀b ys,H b>.tup ys->H' b>.tup ys):KT H' a xs:=
 Nb.mapP r λ_ _ z=>⟨z.1,ht _ _ z.2.1,z.2.2⟩
section
variable {P:Ni} {h:Ng} {a:N8}
theorem F8(ok:iu P w H h)(e:Rd H a u):bN P w H h a u:=e.ok ok
theorem gU(ok:iu P w H h)(e:H a>.tup (ks.map kV)):(Nm (aU P w)).is h ks a:=by
 let⟨_,b,r,o,h1,h2,n,c⟩:=(show bN P w H h a (.tup (ks.map kV)) from ok a _ e)
 show⟨o,b.toArray,n,h1,h2,c,by simpa using oO r⟩
theorem ic {b:-(-dh×V)}(ok:iu P w H h)(e:Rd H a (.dT b)):↑b<=N9/\(a==NR)=false/\
  ∃xs,KT H b xs/\h.DictOfH (Nm (aU P w)) a xs:=by
 let⟨z,y,xs,r,o,es,ep,h1,h2,c,f,d⟩:=(show bN P w H h a (.dT b) from F8 ok e)
 show⟨z,y,xs,r,o,es,ep,h1,h2,c,f,λx hx=>?_,d⟩
 let all:∀{l:-(-dh×V)} {m:-(-dh×N8×N7)},KT H l m->∀x∈m,(Nm (aU P w)).is h x.1 x.2.1:=by
  intro l m q
  induction q with
  |nil=>intro x hx;cases hx
  | @cons p q ps qs hq t ih=>
   intro x hx
   rcases Jk.mp hx with e|hx
   ·subst e
    show gU ok (by rw[<-hq.1];show hq.2.1)
   ·show ih x hx
 show all r x hx
theorem u9 {b:-(-dh×V)}(ok:iu P w H h)(e:H a>.dT b):↑b<=N9/\(a==NR)=false/\
  ∃xs,KT H b xs/\h.DictOfH (Nm (aU P w)) a xs:=ic ok (.inl e)
end
def gx (H:Hp) (a:N8) (y:V) (r:Option V):Prop:=False\/∃c k b,Rd H a (.dT c)/\y=.ref b/\H b>.tup (k.map kV)/\r=bg c k
def ip (H:Hp) (a:N8) (y v:V) (H':Hp):Prop:=False\/∃c k b,H a>.dT c/\y=.ref b/\H b>.tup (k.map kV)/\↑c<N9/\H'=Oc H a (.dT (bW c k v))
theorem gx.t {a b:N8}{c:-(-dh×V)}{k:-dh}(e:H a>.dT c)(d:H b>.tup (k.map kV)):gx H a (.ref b) (bg c k):=.inr ⟨c,k,b,.inl e,Z,d,Z⟩
theorem ip.t {a b:N8}{c:-(-dh×V)}{k:-dh}{v:V}(e:H a>.dT c)(f:H b>.tup (k.map kV))(d:↑c<N9):
  ip H a (.ref b) v (Oc H a (.dT (bW c k v))):=.inr ⟨c,k,b,e,Z,f,d,Z⟩
section
variable {a:N8} {y v:V} {u r:N7} {o:Option V}
theorem aG.big (I:aG X O9 σ H s):NR<~~~s:=by
 let h:Nj<~~~s:=(I.mod.glob.keeps I.bk).lt
 show Nat.lt_trans (by decide) h
theorem xl(r:A.units+1<NF)(I:aG X O9 σ H s)(g:gx H a y (some v))(n:aY y u)(h:∀j s',aG X O9 σ H s'->aY v j->Q j s'):
  Na (Nd X.prog X.w) A (getItem (.ref a) u) Q E s:=by
 let⟨i,k,b,e,m,q,l⟩:=g.resolve_left id
 subst m
 cases(show u=N7.ref b from n)
 let⟨z,B,xs,c,dd⟩:=ic I.hok e
 let⟨j,x,d⟩:=jx.some_of (v:=v) (o:=(atKey xs k).map (·.2)) (l<|c.val k)
 let⟨p,hp,f⟩:=JH.mp x
 show wpAny_getItem_heap (NB r) (gU I.hok q) dd hp ?_
 rw[f]
 show h j _ (I.tok _) d
theorem G4(i:A.units+1<NF)(I:aG X O9 σ H s)(g:gx H a y o)(f:aY y u)(h:∀s',aG X O9 σ H s'->Q (.bool o.isSome) s'):
  Na (Nd X.prog X.w) A (Nk .In u (.ref a)) Q E s:=by
 let⟨d,k,b,e,m,n,l⟩:=g.resolve_left id
 subst m
 cases(show u=N7.ref b from f)
 let⟨z,j,xs,c,dd⟩:=ic I.hok e
 show wpAny_in_heap (NB i) (gU I.hok n) j dd ?_
 let q:=(c.val k).isSome_eq
 rw[Option.isSome_map] at q
 rw[<-q,<-l]
 show h _ (I.tok _)
theorem B8(i:A.units+1<NF)(I:aG X O9 σ H s)(g:gx H a y o)(f:aY y u)(h:∀s',aG X O9 σ H s'->Q (.bool (!o.isSome)) s'):
  Na (Nd X.prog X.w) A (Nk .NotIn u (.ref a)) Q E s:=by
 let⟨d,k,b,e,m,n,l⟩:=g.resolve_left id
 subst m
 cases(show u=N7.ref b from f)
 let⟨z,j,xs,c,dd⟩:=ic I.hok e
 show wpAny_notIn_heap (NB i) (gU I.hok n) j dd ?_
 let q:=(c.val k).isSome_eq
 rw[Option.isSome_map] at q
 rw[<-q,<-l]
 show h _ (I.tok _)
theorem pO(I:aG X O9 σ H s)(c:Bm (H a))(f:Ng.SameBut a s.heap h')(d:∃q,h'.get? a>q)(new:bN X.prog X.w (Oc H a ob) h' a ob):
  aG X O9 σ (Oc H a ob) {s with heap:=h',toks:=t'}:=
 I.write (x:=a) (e:=a) c (.inl Z) (λb q hb z=>(f.2 b hb).trans z) d new
theorem xp{Q:Unit->N_->Prop}(C:A.units+1<NF)(I:aG X O9 σ H s)(g:ip H a y v H')(n:aY y u)(D:aY v r)(h:∀s',aG X O9 σ H' s'->Q Unit.unit s'):
  Na (Nd X.prog X.w) A (setItem (.ref a) u r) Q E s:=by
 let⟨f,k,b,e,p,j,l,L⟩:=g.resolve_left id
 subst p L
 cases(show u=N7.ref b from n)
 let⟨z,F,xs,d,dd⟩:=u9 I.hok e
 let x:↑xs<=N9:=by rw[<-Nb.length d];show z
 let o:↑(bW f k v)<=N9:=by have:=iF f k v;lia
 show wpAny_setItem_heap (hsz:=x) (NB C) (gU I.hok j) dd λh' i hs=>h _ ?_
 let⟨q,es,ep,hq,h2,J,B,_,K⟩:=i
 show pO I (e<|True.intro) hs ⟨q,hq⟩ ⟨o,F,_,(d.put k j D).keeps λc ys m=>?_,q,es,ep,hq,h2,J,B,K⟩
 rw[aj (bu m e (λz=>by cases z))]
 show m
end
def Fl (i:Nw):Prop:=∀ov a,subscripted i false ov a=operate [ov,a] (getItem ov a)
theorem B5 {env:O0}{c b:Nw}{k:O2}{T id:String}{Q:N7->N_->Prop}
  (n:NX (.type T) "__getitem__" =pure (some (.builtin id))) (m:Fl b)
  (h:Na (Nd prog w) A (eval c env) (λo f=>Na (Nd prog w) A (eval b env) (λi s₂=>s₂.TypeIs o T/\Na (Nd prog w) A (getItem o i) Q E s₂) E f) E s):
  Na (Nd prog w) A (eval (.Subscript c b k) env) Q E s:=by
 show Subscript_ (J3 h (λo f g=>J3 g (λi s₂ d=>?_) λ_ _ x=>x) λ_ _ x=>x)
 let⟨l,d⟩:=d
 unfold subscriptTail
 show Ja ?_
 rw[getitemInPython_of_ne l.not_modules]
 show Ja (KN l n ?_)
 let a:Na (Nd prog w) A (subscripted b false o i) (λr e=>Na (Nd prog w) A (letTemporaryGo c o r>>=λ_=>pure r) Q E e) E s₂:=by
  rw[m o i]
  show wpAny_operating (J3 d (λr e j=>Ja (wpAny_letTemporaryGo (Jc j))) λ_ _ x=>x)
 first
  |show Jc (Ja a)
  |show Ja (Jc (Ja a))
  |show Ja a
theorem sI(I:aG X O9 σ H s)(g:gx H a y o):s.TypeIs (.ref a) "dict" :=by
 let⟨c,k,b,e,_,_,_⟩:=g.resolve_left id
 let⟨_,_,xs,_,dd⟩:=ic I.hok e
 show dd.typeIs
def qZ (td ty:TE):TE:=λσ H Q=>td σ H λx H1=>ty σ H1 λy H2=>∃a v,x=.ref a/\gx H2 a y (some v)/\Q v H2
def Gz (ty td:TE):TE:=λσ H Q=>ty σ H λy H1=>td σ H1 λx H2=>∃a o,x=.ref a/\gx H2 a y o/\Q (.bl o.isSome) H2
def wo (ty td:TE):TE:=λσ H Q=>ty σ H λy H1=>td σ H1 λx H2=>∃a o,x=.ref a/\gx H2 a y o/\Q (.bl (!o.isSome)) H2
def rA (td ty b:TE):TS:=λD σ H=>b σ H λv H1=>td σ H1 λx H2=>ty σ H2 λy H3=>∃a H4,x=.ref a/\ip H3 a y v H4/\D.nx σ H4
section
variable {o i e value:Nw} {pos pos' tpos:O2} {td ty tv:TE}
theorem dE (m:X.A.units+1<NF)(d:PE X o td)(l:PE X i ty)(n:Fl i):PE X (.Subscript o i pos) (qZ td ty):=by
 intro O9 s σ H Q I h
 show B5 PySem.F.slot_dict_getitem.lookup n (cz (d O9 s σ H _ I h) λu s1 b=>?_)
 let⟨x,H1,I1,j,e⟩:=b
 show cz (l O9 s1 σ H1 _ I1 e) λw p b=>?_
 let⟨y,H2,I2,f,a,v,ex,g,k⟩:=b
 subst ex
 obtain rfl:u=N7.ref a:=j
 show⟨sI I2 g,xl m I2 g f λq r I3 c=>⟨v,H2,I3,c,k⟩⟩
theorem f_ (l:X.A.units+1<NF)(k:PE X i ty)(c:PE X o td):PC X .In i o (Gz ty td):=by
 intro O9 s σ H Q I h
 show cz (k O9 s σ H _ I h) λn s1 b=>?_
 let⟨y,H1,I1,e,d⟩:=b
 show cz (c O9 s1 σ H1 _ I1 d) λu m b=>?_
 let⟨x,H2,I2,f,a,ov,ex,g,j⟩:=b
 subst ex
 obtain rfl:u=N7.ref a:=f
 show G4 l I2 g e λp I3=>⟨.bl ov.isSome,H2,I3,Z,j⟩
theorem iT (l:X.A.units+1<NF)(k:PE X i ty)(c:PE X o td):PC X .NotIn i o (wo ty td):=by
 intro O9 s σ H Q I h
 show cz (k O9 s σ H _ I h) λn s1 b=>?_
 let⟨y,H1,I1,e,d⟩:=b
 show cz (c O9 s1 σ H1 _ I1 d) λu m b=>?_
 let⟨x,H2,I2,f,a,ov,ex,g,j⟩:=b
 subst ex
 obtain rfl:u=N7.ref a:=f
 show B8 l I2 g e λp I3=>⟨.bl (!ov.isSome),H2,I3,Z,j⟩
theorem eZ (n:X.A.units+1<NF)(c:PE X o td)(m:PE X i ty)(hv:PE X value tv)(p:swapsWith value (some (.Subscript o i pos')) pos.line X.env=pure false):
  PS X (.Assign [.Subscript o i pos'] value pos) (rA td ty tv):=by
 intro O9 s σ H D I h
 show wpAny_Assign_Subscript (cz (hv O9 s σ H _ I h) λr s1 b=>?_) p
 let⟨v,H1,I1,q,e⟩:=b
 show cz (c O9 s1 σ H1 _ I1 e) λu d b=>?_
 let⟨x,H2,I2,j,k⟩:=b
 show cz (m O9 d σ H2 _ I2 k) λB z b=>?_
 let⟨y,H3,I3,f,a,H4,ex,g,l⟩:=b
 subst ex
 obtain rfl:u=N7.ref a:=j
 show xp n I3 g f q λw I4=>⟨σ,H4,I4,l⟩
end
theorem yP(h:Ng)(a:NR<h.objs.size):bN P w H (h.push {cls:=.type "dict",data:=.dict #[]}) h.objs.size (.dT []):=
 ⟨Ju _,beq_eq_false_iff_ne.mpr (Jr (Jm a)),[],.nil,_,#[],0,Jp _ Z,⟨Z,Z,Z⟩,Z,Z,Ka⟩
def Em:TE:=λ_ H Q=>∀p,H p=none->Q (.ref p) (Oc H p (.dT []))
section
variable {pos:O2}
theorem fJ:PE X (.Dict [] [] pos) Em:=λO9 s σ H Q I h=>
 wpAny_Dict_empty ⟨.ref (~~~s),_,I.laid (a:= ~~~s) (o:=.dT []) (t':=s.toks) (λ_ _ q=>Ji _ q) (Jd _) (yP s.heap I.big),Z,h _ (I.hok.fresh (Jd _))⟩
end
section
variable {a:N8} {y d:V} {u r:N7} {o:Option V}
theorem EV(p:A.units+1<NF)(I:aG X O9 σ H s)(g:gx H a y o)(m:aY y u)(rd:aY d r)(h:∀i s',aG X O9 σ H s'->aY (o.getD d) i->Q i s'):
  Na (Nd X.prog X.w) A (call (.builtin "dict.get") [.ref a,u,r]) Q E s:=by
 let⟨f,k,b,e,j,n,l⟩:=g.resolve_left id
 subst j
 cases(show u=N7.ref b from m)
 let⟨z,q,xs,c,dd⟩:=ic I.hok e
 show call_meetsIn JZ dd.typeIs PySem.F.entry_dict_get (PySem.F.args_dict_get_3 _ _ _) (meetsH_dict_get_default (Nm (aU X.prog X.w)) a b q r) ⟨NB p,k,xs,gU I.hok n,dd,h _ _ (I.tok _) ?_⟩
 rw[l]
 show(c.val k).getD rd
end
end L2
namespace Att
open PySem PySem.W PySem.Calls PyProof.Rows
theorem lA {P:Params}:∀(ns:-Int) (vs:-N7),WellAll P h vs (ns.map WData.int)->O7 vs ns:=by
 intro ns
 induction ns with
 |nil=>
  intro vs w
  cases w
  show .nil
 |cons n ns ih=>
  intro vs w
  cases w with
  |cons a b=>
   cases a
   show .cons _ _ (ih _ b)
theorem xE {l:OpenLaw}(o:l.most>n){P:Params}{h:Ng}{args:-WData}{e:-N7}
  (f:l.row.toRowW.claim.pre args=true) (i:WellAll P h e args):
  ∃a vs ns,e=[N7.ref a]/\args=[WData.list (ns.map WData.int)]/\h.get? a=some {cls:=.type "list",data:=.seq vs.toArray}/\O7 vs ns/\ns.length<=n:=by
 let c:WShape.hasAll [] args [.list .int]=true:=(pre_splitW f).1
 let k:l.pre.holds [] {args:=args}=true:=(pre_splitW f).2
 let⟨d,r,rfl,h1,h2⟩:=hasAllW_cons c
 obtain rfl:=hasAllW_nil h2
 let⟨xs,rfl,m⟩:=hasW_list h1
 let⟨ns,rfl⟩:=items_int m
 let b:ns.length<=n:=by
  let g:(WTm.not (.lt (.lit (.int (n:Int))) (.len (.arg 0)))).holds [] {args:=[.list (ns.map .int)]}=true:=by
   let g:=(holds_andW k).1
   rw[o] at g
   show g
  let j:=condW_of g (w_not (w_lt w_lit (w_len_list (w_arg Z))))
  show Nat.le_of_not_lt λq=>?_
  first
   |(rw[N3 q'] at j;show absurd j (by decide))
   |(simp at j;lia)
 cases i with
 |cons w1 w2=>
  cases w2
  cases w1 with
  |list ho hall=>show⟨_,_,ns,Z,Z,ho,lA ns _ hall,b⟩
theorem xy (l:OpenLaw)(args:-WData):l.row.toRowW.claim.post args (.bool true) args=true:=
 postW_of (r:=l.row.toRowW) (X:=(true==true))
  (show WShape.has [] (.bool true) .bool=true by first|rfl|decide|simp[WShape.has,WShape.arms,WShape.armsAll])
  (show(WTm.eq .res (.lit (.bool true))).value [] {args:=args,res:=some (.bool true),after:=args}>.bool (true==true) from w_eq_bool (w_res Z) w_lit) Z
theorem attach_call {l:OpenLaw}{E:(Nh->Option N7)->Ng->Prop}{A:Nr->Ng->Prop}{d:DefRec}
  (N:l.most>n) (p:d.params.defaults=[])
  (call:∀(w:Nr) (h g:N_) (mg x:Nh->Option N7) (fa:N8) (o:Nv) (y k i:N7) (a:N8) (vs:-N7) (ns:-Int),
   Ground q loose [] E w h mg x g.heap->A w g.heap->
   g.heap.get? fa>o->o.data=.func (docDef d.name d.params d.body d.scope y k i)->g.heap.CodeRec k d.name->mg d.name>.ref fa->
   g.heap.get? a=some {cls:=.type "list",data:=.seq vs.toArray}->O7 vs ns->ns.length<=n->g.gens= #[]->
   NL (Nd l.prog w) callerA (.call (.ref fa) ⟨[.ref a],[]⟩) (λr s'=>r=.ok (.ret (.bool true))/\OldK g.heap s'.heap/\s'.os=g.os/\AllBare s'.gens) g):
  WalkO q loose E A l.row.toRowW d [] (λf vs=>PySem.call f vs):=by
 intro w h g mg x G Y fa o y k i K kV F J v B u hg D z as j C M m I
 obtain rfl:K=.none:=Dflts.none B p
 obtain rfl:kV=.none:=Dflts.noKw B
 let⟨a,vs,ns,rfl,rfl,e,b,c⟩:=xE N j m
 show enter_call (NS (call w h g mg x fa o y k i a vs ns G Y F (fd_plain J) v u e b c hg) λr s' hq=>?_)
 let⟨rfl,h2,L,H⟩:=hq
 show⟨.inl ⟨.bool true,.bool true,[],Z,λ_=>rfl,.bool true,xy l _,λ_=>⟨List.Pairwise.nil,λ_ hm=>(nomatch hm)⟩⟩,h2,L,H⟩
section
variable {K:Frag}
def noObjs (h:Ng):Ng:={h with objs:= #[]}
theorem noObjs_get (h:Ng)(b:N8):(noObjs h).get? b=none:=by
 cases e:(noObjs h).get? b with
 |none=>rfl
 |some o=>show absurd (Jj e) (K1 _)
theorem fr_all(n:h.Ns L m):Fr (noObjs h) L h m:=
 ⟨n,λb o e=>(by rw[noObjs_get] at e;cases e),Ju _⟩
end
end Att
namespace L2
open PySem PySem.Spec PyProof.Rows
variable {X:Cx} {O9:-(N8×Nv)} {σ:St} {H:Hp} {s:N_} {prog:Ni} {w:Nr} {A:Nu} {E:N7->N_->Prop} {K:Je} {mg:Nh->Option N7} {Oa:Ng}
theorem wZ{ns:-Int}(g:O7 vs ns):a8 (ns.map V.int) vs:=by
 induction g with
 |nil=>show .nil
 |cons n t h ih=>show .cons ⟨t,Z⟩ ih
noncomputable def cH (s:Nn) (j:Nat):Nn:=match s with
 | .ClassDef _ _ _ body _ _ _ _ _ _ _=>body.getD j (.Pass ⟨0,0,0,0⟩)
 |_=> .Pass ⟨0,0,0,0⟩
noncomputable def cn (s:Nn):Arguments:=match s with
 | .FunctionDef _ a _ _ _ _ _ _ _ _=>a
 |_=>{posonlyargs:=[],args:=[],vararg:=none,kwonlyargs:=[],kw_defaults:=[],kwarg:=none,defaults:=[]}
noncomputable def bP (s:Nn):-Nn:=match s with
 | .FunctionDef _ _ b _ _ _ _ _ _ _=>b
 |_=>[]
noncomputable def aK (s:Nn):NT:=match s with
 | .FunctionDef _ _ _ _ _ _ sc _ _ _=>sc
 |_=>{kind:=.function,names:=[],isGenerator:=false,isCoroutine:=false}
abbrev kf:A7:=λ_ _ _ _ _ _=>False
abbrev E0:XK:=λ_ _ _=>False
theorem oF:jB kf X E0:=λ_ _ _ _ _ _ _ h=>h.elim
structure zi (K:Je) (x qual:Nh) (st:Nn) (f:N8) (fd:NN):Prop where
 ex:∃(oc:N7) (od:Option N8) (kV doc pm:N7) (an:Option N8) (cdv ct:N7) (osl:Array (Option N7)),
  fd=JK x qual (cn st) (bP st) (aK st) .none kV doc pm an cdv ct/\K.lookup f>⟨oc,od,.func fd,osl⟩/\Kd K cdv qual=true
 kp:J5 K (.ref f)=true
section
variable {P:Ni}
theorem zi.ok {x qual:Nh}{st:Nn}{f:N8}{j:NN}{N ps:-Nh}{k:Nat}{sp:Sp}(F:zi K x qual st f j)(S:ei N ps (aK st))(len:∀vs H Q E,sp vs H Q E->↑vs=↑ps)
  (g:∀(e:N7) (A:Nu) (d:-O0) (s:N_) (H:Hp) (vs:-V) (Q:VK) (E:XK),aR k (A.deeper (envOfC qual (aK st) (~~~s) f e))->sp vs H Q E->
   ∃t,sM (lY kf P w K mg Oa N qual (aK st) f e A d s H E).nox (bP st) t/\t {nx:=λ_ H'=>Q .non H',rt:=Q} (start N vs) H):fq P w K mg Oa kf (k+1) f j ps sp:=by
 let⟨r,n,kV,c,p,m,e,o,b,rfl,l,a⟩:=F.ex
 show Dv l a S len λA d s H vs Q E hr i=>?_
 let⟨t,h,q⟩:=g e A d s H vs Q E hr i
 show⟨t,h.nox,q⟩
theorem zi.binds{st:Nn}(F:zi K x qual st f fd)
  (h:∀(kV d j:N7) (g:Option N8) (c e:N7) (i:-N7),↑i=↑ps->bindArgs (JK x qual (cn st) (bP st) (aK st) .none kV d j g c e) ⟨i,[]⟩=pure (ps.zip i)):c6 K fd ps []:=by
 let⟨m,k,kV,d,j,g,c,e,a,rfl,l,b⟩:=F.ex
 show .all (h kV d j g c e)
theorem qx{st:Nn}{a:Array (Option N7)}{kV:N7}(l:K.lookup f>⟨oc,od,.func (JK x qual (cn st) (bP st) (aK st) .none kV doc pm an cdv ct),a⟩)
  (c:Kd K cdv qual=true) (k:J5 K (.ref f)=true):zi K x qual st f (JK x qual (cn st) (bP st) (aK st) .none kV doc pm an cdv ct):=⟨⟨oc,od,kV,doc,pm,an,cdv,ct,a,Z,l,c⟩,k⟩
end
theorem aL(h:n<=1000):n<N9:=Lr h (by decide)
theorem cK {A B:Prop}(h:B):if false=true then A else B:=by
 show h
theorem c9 {A B:Prop}(h:A):if true=true then A else B:=by
 show h
theorem jd {c A B:Prop} [Decidable c](h1:c->A)(a:¬c->B):if c then A else B:=by
 by_cases h:c
 ·rw[N1 h]
  show h1 h
 ·rw[N0 h]
  show a h
def au (H H':Hp):Prop:=∀b o,H b>o->H' b>o
theorem au.refl (H:Hp):au H H:=λ_ _ h=>h
theorem au.trans(a:au H H1)(b:au H1 H2):au H H2:=λc o h=>b c o (a c o h)
theorem au.free(e:au H H'){l:N8}(h:H' l=Option.none):H l=Option.none:=by
 cases q:H l with
 |none=>rfl
 |some o=>
  rw[e l o q] at h
  cases h
theorem au.seq {H':Hp}{a:N8}{xs:-V}(e:au H H')(h:aM K H a xs):aM K H' a xs:=by
 rcases h with (h|⟨o,h⟩)|h
 ·show .inl (.inl (e _ _ h))
 ·show .inl (.inr ⟨o,e _ _ h⟩)
 ·show .inr h
section
variable {κ:Type} [DecidableEq κ]
end
def zI (_ j:Int):Prop:=0<j/\j<2^200
theorem Hs(h:zI i j):Nc.divisionGoesByPylong i j=false:=by
 show PyProof.noPylong_of_log2 ?_
 let⟨h1,h2⟩:=h
 let a:j.natAbs≠0:=by omega
 let b:j.natAbs<2^200:=by omega
 have:=(Nat.log2_lt a).mpr b
 omega
theorem dO:fZ X (binaryOp .FloorDiv) (rI zI λi j=> .int (i/j)):=GU λi j _ _ _ _ _ a q=>by
 let h1:(0:Int)<j:=a.1
 show floordiv_int () (Int.fdiv_eq_ediv_of_nonneg i ()<|q) (.inl (Hs a))
theorem rq{it:N7}(I:Nat->N_->Prop)(E:N7->N_->Prop)
  (o:∀e s',E e s'->notedBy (Nd prog w) A env (λe s'=>R (.error e) s') e s')
  (turn:∀n s,I n s->Na (Nd prog w) A (NH it) (λr b=>match r with
   |none=>R (.ok .next) b
   |some v=>Na (Nd prog w) A (letOwnedTupleGo target it v) (λ_ d=>Na (Nd prog w) A (assign target env v) (λ_ f=>
     Na (Nd prog w) A (forIn ifs true λc r=>if r=true then do let ok<-isTrue c env (eval c env);pure (ForInStep.yield ok) else pure (ForInStep.yield r)) (λok a=>
      if ok=true then Na (Nd prog w) A (eval elt env) (λx g=>
       Na (Nd prog w) A (call (.builtin "list.append") [acc,x]) (λ_ j=>∃m,m<n/\I m j) E g) E a
      else∃m,m<n/\I m a) E f) E d) E b) E s)
  (n:Nat) (h:I n s):NL (Nd prog w) A (.compLoop (.ListComp elt [⟨target,iter,ifs,0⟩] scope pos) 0 it acc env) R s:=by
 show codeAny_loop Z I (λn s y=>?_) n h
 show wpAny_noted ?_
 show Ja (wpAny_standAt (Ja (J3 (turn n s y) (λr b i=>?_) o)))
 cases r with
 |none=>show Jc i
 |some v=>
  show Ja (J3 i (λ_ d l=>?_) o)
  show Ja (J3 l (λ_ f u=>Ja (J3 u (λok a k=>?_) o)) o)
  cases ok with
  |false=>show Jc ⟨Z,k⟩
  |true=>
   show Ja (Ja (J3 k (λx g p=>Ja (J3 p (λ_ j q=>Jc (Jc ⟨Z,q⟩)) o)) o))
theorem iA:∀(f:-(Nh×No)) (b:-(Nh×N8)),(∀y∈f,y.2=.free->∃c,env.cells.lookup y.1>c)->(∀x c,b.lookup x>c->env.cells.lookup x>c)->
  ∃cl,(forIn f b (λ(x:Nh×No) (r:-(Nh×N8))=>(if (x.2==No.free)=true then (do let a<-cellOf env x.1;pure (ForInStep.yield ((x.1,a)::r))) else pure (ForInStep.yield r):Sem (ForInStep (-(Nh×N8))))))=(pure cl:Sem (-(Nh×N8)))/\
   (∀x c,cl.lookup x>c->env.cells.lookup x>c)/\(∀x c,b.lookup x>c->∃q,cl.lookup x>q)/\∀y∈f,y.2=.free->∃c,cl.lookup y.1>c
 |[],b,_,ha=>⟨b,Z,ha,λx c e=>⟨c,e⟩,λ_ h=>by cases h⟩
 |(n,k)::r,b,hf,ha=>by
  let j:∀y∈r,y.2=.free->∃c,env.cells.lookup y.1>c:=λy hy=>hf y (JC _ hy)
  by_cases hk:k=.free
  ·subst hk
   let⟨c,p⟩:=hf (n,.free) JA Z
   let l:env.cells.lookup n>c:=p
   let o:∀x d,((n,c)::b).lookup x>d->env.cells.lookup x>d:=λx d e=>by
    rw[J_] at e
    cases hx:x==n with
    |true=>rw[hx] at e;cases e;rw[beq_iff_eq.mp hx];show l
    |false=>rw[hx] at e;show ha x d e
   let⟨cl,e,h1,h2,m⟩:=iA r ((n,c)::b) j o
   let g:((n,c)::b).lookup n>c:=by rw[J_,beq_self_eq_true]
   show⟨cl,?_,h1,λx d ex=>?_,λy hy i=>?_⟩
   ·rw[List.forIn_cons]
    let u:cellOf env n=pure c:=by unfold cellOf;rw[l]
    change((if (No.free==No.free)=true then (do let a<-cellOf env n;pure (ForInStep.yield ((n,a)::b))) else pure (ForInStep.yield b):Sem _)>>=_)=_
    rw[N1 (by decide),u]
    show e
   ·cases hx:x==n with
    |true=>rw[beq_iff_eq.mp hx];show h2 n c g
    |false=>show h2 x d (J_<|hx<|ex)
   ·rcases Jk.mp hy with rfl|hy
    ·show h2 n c g
    ·show m y hy i
  ·let⟨cl,e,h1,h2,m⟩:=iA r b j ha
   show⟨cl,?_,h1,h2,λy hy i=>?_⟩
   ·rw[List.forIn_cons]
    rw[N0 (by simpa using hk)]
    show e
   ·rcases Jk.mp hy with rfl|hy
    ·show absurd i hk
    ·show m y hy i
theorem mv(h:∀y∈scope.names,y.2=.free->∃c,env.cells.lookup y.1>c):
  ∃cl,closureFor scope env=pure cl/\(∀x c,cl.lookup x>c->env.cells.lookup x>c)/\∀y∈scope.names,y.2=.free->∃c,cl.lookup y.1>c:=by
 let⟨cl,e,h1,_,d⟩:=iA (env:=env) scope.names [] h (λx c e=>by cases e)
 show⟨cl,?_,h1,d⟩
 let b:closureFor scope env=((forIn scope.names [] (λ(x:Nh×No) (r:-(Nh×N8))=>(if (x.2==No.free)=true then (do let a<-cellOf env x.1;pure (ForInStep.yield ((x.1,a)::r))) else pure (ForInStep.yield r):Sem (ForInStep (-(Nh×N8))))))>>=λr=>pure r):=rfl
 rw[b,e]
 rfl
theorem jY {env:O0}(hf:env.scope.kind=.function):∀{a:-(Nh×No)} {x:Nh},a.lookup x>.free->env.kindOf x>.cell->
  (a.map λ(n,k)=>if (k==No.free&&env.scope.kind==.function&&env.kindOf n==some .cell) then (n,No.cell) else (n,k)).lookup x>.cell
 |[],_,h,_=>by simp at h
 |(n,k)::r,x,h,hc=>by
  let b:= @jY env hf r x
  change Kz x ((if (k==No.free&&env.scope.kind==.function&&env.kindOf n==some .cell)=true then (n,No.cell) else (n,k))::_)=_
  cases hx:x==n with
  |true=>
   simp only[J_,hx] at h
   cases h
   let e:x=n:=beq_iff_eq.mp hx
   subst e
   rw[N1 (by rw[hf,hc];decide)]
   simp only[J_,hx]
  |false=>
   simp only[J_,hx] at h
   by_cases hq:(k==No.free&&env.scope.kind==.function&&env.kindOf n==some .cell)=true
   ·rw[N1 hq];simp only[J_,hx];show b h hc
   ·rw[N0 hq];simp only[J_,hx];show b h hc
theorem j7 {env:O0}:∀{a:-(Nh×No)} {x:Nh} {k:No},
  (a.map λ(n,k)=>if (k==No.free&&env.scope.kind==.function&&env.kindOf n==some .cell) then (n,No.cell) else (n,k)).lookup x>k->∃b,a.lookup x>b/\(k=b\/b=.free)
 |[],_,_,h=>by simp at h
 |(n,k1)::r,x,k,h=>by
  let h:Kz x ((if (k1==No.free&&env.scope.kind==.function&&env.kindOf n==some .cell)=true then (n,No.cell) else (n,k1))::(r.map λ(n,k)=>if (k==No.free&&env.scope.kind==.function&&env.kindOf n==some .cell) then (n,No.cell) else (n,k)))>k:=h
  cases hx:x==n with
  |true=>
   by_cases hq:(k1==No.free&&env.scope.kind==.function&&env.kindOf n==some .cell)=true
   ·have:k1=.free:=by
     rw[Jv,Jv] at hq
     simpa using hq.1.1
    show⟨k1,by simp only[J_,hx],.inr this⟩
   ·rw[N0 hq] at h
    simp only[J_,hx] at h
    show⟨k1,by simp only[J_,hx],.inl (Option.some.inj h).symm⟩
  |false=>
   let h':(r.map λ(n,k)=>if (k==No.free&&env.scope.kind==.function&&env.kindOf n==some .cell) then (n,No.cell) else (n,k)).lookup x>k:=by
    by_cases hq:(k1==No.free&&env.scope.kind==.function&&env.kindOf n==some .cell)=true
    ·rw[N1 hq] at h;simp only[J_,hx] at h;show h
    ·rw[N0 hq] at h;simp only[J_,hx] at h;show h
   let⟨b,e,z⟩:=j7 h'
   show⟨b,by simp only[J_,hx];show e,z⟩
noncomputable def cL (X:Cx) (N:-Nh) (scope:NT) (cl:-(Nh×N8)) (C:N8) (s:N_) (H:Hp) (fp:-N8):Cx:=
 {X with N:=N,s₀:=s,H₀:=H,env:=compEnvC scope cl C X.env,outer:=X.stack,ex:=fp,fn:=λ_=>false,pn:=[],xe:=λ_ _=>False}
structure fA (X:Cx) (scope:NT) (ls ys:-Nh) (ix:-Nat):Prop where
 kind:scope.kind=.function
 nocellB:(scope.names.all λy=>y.2 !=.cell)=true
 locB:(scope.names.all λy=>y.2 !=.local||scope.names.lookup y.1==some .local)=true
 freeB:(scope.names.all λy=>y.2 !=.free||X.env.kindOf y.1==some .cell)=true
 ylkB:(ys.all λy=>scope.names.lookup y==some .free)=true
 yix:ix.map (λj=>X.N[j]?)=ys.map some
section
variable {scope:NT} {ls ys:-Nh} {ix:-Nat}
theorem fA.nocell (ok:fA X scope ls ys ix):∀y∈scope.names,y.2≠.cell:=λy a=>by
 simpa using JV.mp ok.nocellB y a
theorem fA.loc (ok:fA X scope ls ys ix):∀y∈scope.names,y.2=.local->scope.names.lookup y.1>.local:=λy a e=>by
 let h:=JV.mp ok.locB y a
 rw[e] at h
 simpa using h
theorem fA.free (ok:fA X scope ls ys ix):∀y∈scope.names,y.2=.free->X.env.kindOf y.1>.cell:=λy a e=>by
 let h:=JV.mp ok.freeB y a
 rw[e] at h
 simpa using h
theorem fA.ylk (ok:fA X scope ls ys ix):∀y∈ys,scope.names.lookup y>.free:=λy a=>by
 simpa using JV.mp ok.ylkB y a
end
noncomputable def CV (n:Nat) (b:-Nat) (a:St):St:=List.replicate n none++b.map λj=>(a[j]?).join
section
variable {scope:NT} {ls ys:-Nh} {ix:-Nat} {cl:-(Nh×N8)} {fp:-N8}
theorem Bv(I:aG X O9 σ H s)(ok:fA X scope ls ys ix)(A:∀x c,cl.lookup x>c->X.env.cells.lookup x>c)
  (B:∀y∈scope.names,y.2=.free->∃c,cl.lookup y.1>c) (E:∀b∈fp,jc X O9 H b) (J:∀b∈fp,b<~~~s)
  (L:h₁.Ns (~~~s) m) (D:∀b o,s.heap.get? b>o->h₁.get? b>o):
  aG (cL X (ls++ys) scope cl (~~~s) s H fp) [] (CV ↑ls ix σ) H {s with heap:=h₁,toks:=tk}:=by
 let a:∀x,scope.names.lookup x>.free->X.env.kindOf x>.cell:=λx e=>ok.free (x,.free) (PySem.mem_of_lookup e) Z
 show⟨⟨I.ok.mod,ok.kind,I.ok.glob,I.ok.blt,Jd _,λx y c h1 h2=>I.ok.inj x y c (A x c h1) (A y c h2),λx hx=>?_,λx c hx _=>absurd hx Jw,I.ok.hd,I.ok.frames,.inl Z,
  λb hb=>⟨Jm (J b hb),λx c e=>(E b hb).2.2.2.2.1 x c (A x c e)⟩,I.bs,Jt I.ok.bsz I.sz,λb o e hb=>?_,λb hb z=>?_,I.stack,I.stkFree⟩,
  rfl,I.bare,Un.kept D,⟨m,L,λi x v h1 h2 U=>?_⟩,λx c e=>?_,I.fresh,λx c e=>I.freeC x c (A x c e),λp hp=>absurd (show p∈([]:-(N8×Nv)) from hp) (by simp),I.hok.kept D,?_⟩
 ·let e:∃k,(relabel scope X.env).names.lookup x>k/\(k=.cell\/k=.free):=by
   rcases hx with hx|hx
   ·show⟨_,hx,.inl Z⟩
   ·show⟨_,hx,.inr Z⟩
  let⟨k,e,g⟩:=e
  let⟨Q,O,z⟩:=j7 e
  let hm:=PySem.mem_of_lookup O
  let h:Q=.free:=by
   rcases z with z|z
   ·rcases g with q|q
    ·show absurd (z.symm.trans q) (ok.nocell _ hm)
    ·show z.symm.trans q
   ·show z
  show B _ hm h
 ·let⟨S,W,Y,q4,_⟩:=E b hb
  rcases q4 with q4|q4
  ·show I.ok.noex b o e q4
  ·show absurd (JM (Jj e) (Jt I.ok.bsz q4)) (JU _)
 ·rcases Jk.mp (I.stkSub b z) with q|q
  ·show(E b hb).2.1 q
  ·show(E b hb).2.2.1 q
 ·let h1:(ls++ys)[i]?>x:=h1
  let h2:(List.replicate ↑ls none++ix.map λj=>(σ[j]?).join)[i]?>some v:=h2
  by_cases hi:i<↑ls
  ·rw[Lf (Lp<|hi),List.getElem?_replicate,N1 hi] at h2
   cases h2
  ·rw[Le (by rw[Lp];lia),Lp,Jn] at h2
   rw[Le ()] at h1
   cases e:ix[i - ↑ls]? with
   |none=>rw[e] at h2;cases h2
   |some j=>
    rw[e] at h2
    let h2:(σ[j]?).join>v:=Option.some.inj h2
    let K:σ[j]?>some v:=by
     cases q:σ[j]? with
     |none=>rw[q] at h2;cases h2
     |some z=>rw[q] at h2;show congrArg some h2
    let P:X.N[j]?>x:=by
     let q:=congrArg (λl=>l[i - ↑ls]?) ok.yix
     simp only[Jn,e,h1,Lc] at q
     show Option.some.inj q
    let M:=ok.ylk x (Jl h1)
    let F:=a x M
    let⟨T,w,n⟩:=I.loc
    let⟨u,r,C⟩:=n j x v P K (.inr (.inl F))
    show⟨u,r,?_⟩
    rcases C with ⟨C,_⟩|⟨_,c,R,z⟩
    ·rw[F] at C;cases C
    ·let⟨c',d⟩:=B _ (PySem.mem_of_lookup M) Z
     let f:X.env.cells.lookup x>c':=A x c' d
     rw[R] at f
     cases f
     show .inr ⟨.inl (jY I.ok.kind M F),c,d,z.keeps D⟩
 ·let⟨v,z⟩:=I.cell x c (A x c e)
  show⟨v,z.keeps D⟩
 ·change(List.replicate ↑ls none++ix.map λj=>(σ[j]?).join).length=↑(ls++ys)
  let q:=congrArg List.length ok.yix
  rw[Jb,Jb] at q
  rw[Jo,Jo,Lp,Jb,q]
end
def PF (X:Cx) (a:-Nw) (t:TT):Prop:=
 ∀(O9:-(N8×Nv)) (s:N_) (σ:St) (H:Hp) (Q:Bool->Hp->Prop),aG X O9 σ H s->t σ H Q->
  Na (Nd X.prog X.w) X.A (forIn a true λc r=>if r=true then do let ok<-isTrue c X.env (eval c X.env);pure (ForInStep.yield ok) else pure (ForInStep.yield r)) (TP X O9 σ Q) X.xe s
def FW:TT:=λ_ H Q=>Q true H
theorem dF:PF X [] FW:=λ_ _ _ H _ I h=>wpAny_tests_nil ⟨H,I,h⟩
theorem uf(h:PT X c t):PF X [c] t:=λO9 s σ H Q I a=>wpAny_tests_one (h O9 s σ H Q I a)
abbrev sL (g:TG) (tt:TT) (te:TE) (D:N8):SV:=λN x τ H=>g x τ H λτ2 H2=>tt τ2 H2 λb H3=>if b=true then te τ2 H3 λv H4=>∃acc,H4 D>.lst acc/\↑acc<N9/\N τ2 (Oc H4 D (.lst (acc++[v]))) else N τ2 H3
abbrev G8 (σ0:St) (g:TG) (tt:TT) (te:TE) (J:It) (H1:Hp) (D:N8) (Q:Hp->Prop):Prop:=A9 J σ0 (Oc H1 D (.lst [])) (sL g tt te D) λ_ H=>Q H
def HS (a:TI) (n:Nat) (c:-Nat) (g:TG) (b:TT) (te:TE):TE:=λσ H Q=>a σ H λJ H1=>∀D,H1 D=none->G8 (CV n c σ) g b te J H1 D λH'=>Q (.ref D) H'
def y8 (a:TI) (n:Nat) (c:-Nat) (g:TG) (b:TT) (te:TE) (i:Nat):TS:=λD σ H=>HS a n c g b te σ H λx H1=>D.nx (σ.set i (some x)) H1
section
variable {scope:NT} {ls ys:-Nh} {ix:-Nat} {tg iter elt:Nw} {ifs:-Nw} {pos:O2} {wi:TI} {g:TG} {tt:TT} {te:TE}
theorem rE{it:N8}{tn:Nat->Ng->Prop}{cl:-(Nh×N8)}{Q:N8->Hp->Prop}{R:N7->N8->Result->N_->Prop}(hc:X.calm=true)
  (ok:fA X scope ls ys ix) (I:aG X O9 σ H1 s) (T:pR X.prog X.w X.K tg J fp it tn) (st:tn 0 s.heap) (f2:∀b∈fp,jc X O9 H1 b)
  (ab:∀x c,cl.lookup x>c->X.env.cells.lookup x>c) (am:∀y∈scope.names,y.2=.free->∃c,cl.lookup y.1>c)
  (hg:∀cl C s H fp,PG (cL X (ls++ys) scope cl C s H fp) tg g) (ht:∀cl C s H fp,PF (cL X (ls++ys) scope cl C s H fp) ifs tt) (he:∀cl C s H fp,PE (cL X (ls++ys) scope cl C s H fp) elt te)
  (hJ:∀D,H1 D=none->G8 (CV ↑ls ix σ) g tt te J H1 D (Q D))
  (hR:∀D C H' s',Q D H'->aG X O9 σ H' s'->H' C=none->jc X O9 H' C->(∃m,s'.heap.Ns C m)->R (.ref D) C (.ok .next) s'):
  Na (Nd X.prog X.w) X.A (newList []) (λZ0 ap=>Na (Nd X.prog X.w) X.A (newFunctionEnv scope X.env.globals cl [] X.env.qual none .none (some X.env)) (λac ar=>
   NL (Nd X.prog X.w) X.A (.compStart (.ListComp elt [⟨tg,iter,ifs,0⟩] scope pos) 0 (.ref it) Z0 {ac with scope:=relabel scope X.env}) (R Z0 ac.locals) ar) E ap) E s:=by
 let l:∀b∈fp,b<~~~s:=λb hb=>by
  let⟨o,e,_⟩:=T.obj _ _ st b hb
  show Jj e
 let I3:=I.lnew (ys:=[]) (its:=[]) (t':=s.toks) .nil (Ju _)
 let hD:H1 (~~~s)=none:=I.fresh
 let⟨W,⟨m0,w0⟩,turn⟩:=hJ (~~~s) hD
 show Kj (wpAny_newFunctionEnv ok.nocell (by intro y hy;simp at hy) (λh₁ f q=>?_) ok.kind)
 generalize a4:({s with heap:=s.heap.push {cls:=.type "list",data:=.seq ([]:-N7).toArray},toks:=s.toks}:N_)=s3 at I3
 let e3:s.heap.push {cls:=.type "list",dict:=none,data:=.seq ([]:-N7).toArray}=s3.heap:=by rw[<-a4]
 generalize a3:Oc H1 (~~~s) (.lst [])=H3 at I3 w0
 let B: ~~~s3= ~~~s+1:=by rw[<-e3,Kc]
 let z:∀b o,s.heap.get? b>o->s3.heap.get? b>o:=λb o e=>by rw[<-e3];show Ji _ e
 let f3:∀b∈fp,jc X O9 H3 b:=λb hb=>by
  show⟨?_,(f2 b hb).2⟩
  rw[<-a3,aj (Jm (l b hb))]
  show(f2 b hb).1
 let f:h₁.Ns (~~~s3) (λx=>([]:-(Nh×N7)).reverse.lookup x):=by rw[<-e3];show f
 let q:Ng.SameBut (~~~s3) (s3.heap.push {cls:=.type (if (some X.env).isSome then "dict" else "frame"),data:=.dict #[]}) h₁:=by rw[<-e3];show q
 let w:∀b o,s3.heap.get? b>o->h₁.get? b>o:=λb o e=>q.extBut b o (Jm (Jj e)) (Ji _ e)
 let Ic:=Bv (tk:=s3.toks) I3 ok ab am f3 (λb hb=>by rw[B];show K2 (l b hb)) f w
 let a:∀{H':Hp} {pl:-(N8×Nv)},(∀b∈fp,H' b=none)->pl=[]->∀b∈fp,jc (cL X (ls++ys) scope cl (~~~s3) s3 H3 fp) pl H' b:=fun{H' pl} hn a2 b hb=>by
  subst a2
  show⟨hn b hb,Jm (by rw[show(cL X (ls++ys) scope cl (~~~s3) s3 H3 fp).env.locals= ~~~s3 from Z,B];show K2 (l b hb)),Ic.ok.exfs b hb,.inl hb,λx c e=>(f3 b hb).2.2.2.2.1 x c (ab x c e),λp hp=>absurd (show p∈([]:-(N8×Nv)) from hp) (by simp)⟩
 let j:NL (Nd X.prog X.w) X.A (.compLoop (.ListComp elt [⟨tg,iter,ifs,0⟩] scope pos) 0 (.ref it) (.ref (~~~s)) (compEnvC scope cl (~~~s3) X.env)) (R (.ref (~~~s)) (~~~s3)) {s3 with heap:=h₁,toks:=s3.toks}:=by
  show rq (λn s'=>∃i Y H',aG (cL X (ls++ys) scope cl (~~~s3) s3 H3 fp) [] Y H' s'/\tn i s'.heap/\(∀b∈fp,H' b=none)/\W i n Y H') (λ_ _=>False) (λ_ _ h=>h.elim) ?_ m0
   ⟨0,CV ↑ls ix σ,H3,Ic,T.keep _ _ _ st (λb _ o e=>w b o (z b o e)),λb hb=>(f3 b hb).1,w0⟩
  rintro n s4 ⟨i,Y,H4,I4,K,A,w4⟩
  rcases turn i n Y H4 w4 with ⟨ax,qn⟩|⟨go,N,hN,step⟩
  ·show cz (T.done (cL X (ls++ys) scope cl (~~~s3) s3 H3 fp) Z Z Z hc i [] s4 Y H4 (λ_ _=>False) I4 (a A Z) K ax) λr s5 S=>?_
   let⟨hr,I5⟩:=S
   subst hr
   let Io:aG X O9 σ H4 s5:=I3.call' (ch:=fp) I5.os I5.Oa I5.hok I5.bare λb hb=>⟨(f3 b hb).2.2.2.1,(f3 b hb).2.1,(f3 b hb).2.2.2.2.1,(f3 b hb).2.2.2.2.2⟩
   let⟨m5,n5,_⟩:=I5.loc
   let hC:H4 (~~~s3)=none:=I5.free
   show hR _ _ H4 s5 qn Io hC (I3.fpOk (Jd _) hC) ⟨m5,n5⟩
  ·show cz (T.item (cL X (ls++ys) scope cl (~~~s3) s3 H3 fp) Z Z Z hc i [] s4 Y H4 (λ_ _=>False) I4 (a A Z) K go) λr s5 S=>?_
   let⟨u,hr,h5⟩:=S
   subst hr
   show cz h5 λ_ s6 S=>?_
   let⟨x,H6,I6,r6,y6,k,P⟩:=S
   let a6:=I6.pinned (a P Z) (T.obj _ _ k)
   let F:∀{U:St} {H7:Hp} {s7:N_},aG (cL X (ls++ys) scope cl (~~~s3) s3 H3 fp) ([]++mY fp s6.heap) U H7 s7->N U H7->∃m,m<n/\∃i Y H',aG (cL X (ls++ys) scope cl (~~~s3) s3 H3 fp) [] Y H' s7/\tn i s7.heap/\(∀b∈fp,H' b=none)/\W i m Y H':=fun{U H7 s7} I7 n7=>by
    let⟨m',hm,w7⟩:=hN U H7 n7
    show⟨m',hm,i+1,U,H7,I7.unpinned,T.keep _ _ _ k λb hb o e=>(I7.pin (b,o) (Kf _ (Kf _ (hZ hb e)))).1,λb hb=>?_,w7⟩
    let⟨o,e,d⟩:=T.obj _ _ k b hb
    show(I7.pin (b,o) (Kf _ (Kf _ (hZ hb e)))).2.1
   show cz (hg _ _ _ _ _ _ s6 Y H6 x u _ a6 r6 (step x H6 y6)) λ_ s7 S=>?_
   let⟨U,H7,I7,q7⟩:=S
   show cz (ht _ _ _ _ _ _ s7 U H7 _ I7 q7) λb s8 S=>?_
   let⟨H8,I8,q8⟩:=S
   cases b with
   |false=>
    show F I8 q8
   |true=>
    show cz (he _ _ _ _ _ _ s8 U H8 _ I8 q8) λy s9 S=>?_
    let⟨v,H9,I9,r9,Z0,L,M,n9⟩:=S
    show cz (bL _ s9 U H9 (.ref (~~~s)) [v] (.ref (~~~s)) [y] (λ_ H'=>N U H') I9 Z (.cons r9 .nil) ⟨_,Z0,v,Z,Z,L,M,n9⟩) λ_ co S=>by let⟨_,H10,I10,_,O⟩:=S;show F I10 O
 show codeAny_compStart_list j (T.self _ 0 _ _ _ (T.keep _ _ _ st (λb _ o e=>w b o (z b o e))) j)
theorem FQ (k:X.calm=true)(ok:fA X scope ls ys ix)(K:PI X tg iter wi)
  (n:∀cl C s H fp,PG (cL X (ls++ys) scope cl C s H fp) tg g) (ht:∀cl C s H fp,PF (cL X (ls++ys) scope cl C s H fp) ifs tt) (r:∀cl C s H fp,PE (cL X (ls++ys) scope cl C s H fp) elt te)
  (u:∀x,NK iter X.env x=pure x:=by intro _;rfl):PE X (.ListComp elt [⟨tg,iter,ifs,0⟩] scope pos) (HS wi ↑ls ix g tt te):=by
 intro O9 s σ H Q I h
 let⟨cl,a,c,d⟩:=mv (scope:=scope) (env:=X.env) λy E hf=>I.ok.has y.1 (.inl (ok.free y E hf))
 show wpAny_comprehension_free (use:=none) Z u a ok.kind ok.loc (cz (K O9 s σ H _ I h) λv s1 h1=>cz h1 λz M h2=>?_)
 let⟨it,fp,N,J,H2,rfl,I2,T,f,p,F⟩:=h2
 show rE (R:=λj C=>compPost (Nd X.prog X.w) X.A X.xe none (EP X O9 σ Q) j C) k ok I2 T f p c d n ht r F λD C H' s' q I' l B hm=>?_
 let⟨m,L⟩:=hm
 show⟨m,L,λh' i=>⟨.ref D,H',?_,Z,q⟩⟩
 show I'.turned (t':=s'.toks) (λb hb=>by rw[Jg.mp hb];show⟨l,B.2⟩) λb o hb e=>(i.2 b hb).trans e
theorem yo(E:X.calm=true)(M:X.N.Nodup)(u:X.N[i]?>x)(hx:Fb X.env.scope x)(ok:fA X scope ls ys ix)(Y:PI X tg iter wi)
  (K:∀cl C s H fp,PG (cL X (ls++ys) scope cl C s H fp) tg g) (ht:∀cl C s H fp,PF (cL X (ls++ys) scope cl C s H fp) ifs tt) (O:∀cl C s H fp,PE (cL X (ls++ys) scope cl C s H fp) elt te)
  (P:∀x,NK iter X.env x=pure x:=by intro _;rfl) (n:swapsWith (.ListComp elt [⟨tg,iter,ifs,0⟩] scope pos) (some (.Name x px)) spos.line X.env=pure true:=by rfl)
  (hf:X.fn x=true\/X.env.scope.names.lookup x>.local):
  PS X (.Assign [.Name x px] (.ListComp elt [⟨tg,iter,ifs,0⟩] scope pos) spos) (y8 wi ↑ls ix g tt te i):=by
 intro O9 s σ H D I h
 let⟨cl,c,d,f⟩:=mv (scope:=scope) (env:=X.env) λy U hf=>I.ok.has y.1 (.inl (ok.free y U hf))
 rw[exec_Assign_Name_used _ _ _ _ n]
 show Ja (wpAny_standAt (Ja ?_))
 show Ja (J3 (wpAny_comprehension_free (use:=some (assign (.Name x px) X.env)) (Q:=λ_ s'=>∃l H',aG X O9 l H' s'/\D.nx l H') Z P c ok.kind ok.loc
  (cz (Y O9 s σ H _ I h) λv s1 h1=>cz h1 λS B h2=>?_)) (λ_ s' hq=>Jc (Jc hq)) λ_ _ e=>e)
 let⟨it,fp,tn,J,H2,rfl,I2,T,k,L,W⟩:=h2
 show rE (R:=λz C=>compPost (Nd X.prog X.w) X.A X.xe (some (assign (.Name x px) X.env)) (λ_ s'=>∃l H',aG X O9 l H' s'/\D.nx l H') z C) E ok I2 T k L d f K ht O W λDa C H' s' q I' F p hm=>?_
 let⟨m,hn⟩:=hm
 show wpAny_assign_Name (oR (v:=.ref Da) I' M u hx Z (λB I3 Z0=>?_) hf)
 let⟨a,sb,ha⟩:=Z0
 let j:C≠a:=by
  rcases ha with ha|ha
  ·rw[ha];show p.2.1
  ·show Jr (p.2.2.2.2.1 x a ha)
 show⟨m,hn.sameBut sb j,λh' r=>⟨_,H',?_,q⟩⟩
 show I3.turned (t':=B.toks) (λb hb=>by rw[Jg.mp hb];show⟨F,p.2⟩) λb o hb e=>(r.2 b hb).trans e
end
def Ev (t:TE) (a:St) (H:Hp) (v:V):Prop:=∀Q:VK,Q v H->t a H Q
def jm (t:TT) (a:St) (H:Hp) (b:Bool):Prop:=∀Q:Bool->Hp->Prop,Q b H->t a H Q
def sd (t:TA) (a:St) (H:Hp) (vs:-V):Prop:=∀Q:-V->Hp->Prop,Q vs H->t a H Q
section
variable {ta tb tc te:TE} {t u:TT} {i j k:Int} {a b c:Bool} {v x y:V}
theorem az:Ev (tC v) σ H v:=λ_ q=>q
theorem ae(h:σ[n]?>some v):Ev (cR n) σ H v:=λ_ q=>⟨v,h,q⟩
theorem aQ {g:Int->Int->V}(b:Ev ta σ H (.int i))(a:Ev tb σ H (.int j)):Ev (gb (z9 g) ta tb) σ H (g i j):=λ_ q=>b _ (a _ ⟨i,j,Z,Z,q⟩)
theorem bM {C:Int->Int->Prop}{g:Int->Int->V}(c:Ev ta σ H (.int i))(a:Ev tb σ H (.int j))(b:C i j):Ev (gb (rI C g) ta tb) σ H (g i j):=λ_ q=>c _ (a _ ⟨i,j,Z,Z,b,q⟩)
theorem dY (b:Ev ta σ H (.int i))(a:Ev tb σ H (.int j)):Ev (gb GB ta tb) σ H (.bl (decide (i=j))):=λQ q=>b _ (a _ ⟨Z,by
 let e:decide (V.int i=V.int j)=decide (i=j):=by rw[lO];rfl
 rw[e];show q⟩)
theorem gX (b:Ev ta σ H (.int i))(a:Ev tb σ H (.int j)):Ev (gb Iu ta tb) σ H (.bl (!decide (i=j))):=λQ q=>b _ (a _ ⟨Z,by
 let e:decide (V.int i=V.int j)=decide (i=j):=by rw[lO];rfl
 rw[e];show q⟩)
theorem dM {p q:Int->Int->Bool}(c:Ev ta σ H (.int i))(a:Ev tb σ H (.int j))(b:Ev tc σ H (.int k)):Ev (tO (z9 λi j=> .bl (p i j)) (z9 λi j=> .bl (q i j)) ta tb tc) σ H (.bl (p i j&&q j k)):=λQ z=>by
 show c _ (a _ ⟨i,j,Z,Z,p i j,Z,?_⟩)
 cases e:p i j with
 |true=>rw[N1 Z];rw[e,Bool.true_and] at z;show b _ ⟨j,k,Z,Z,z⟩
 |false=>rw[N0 Jw];rw[e,Bool.false_and] at z;show z
theorem zr (d:Ev ta σ H (.bl a))(c:a=true->Ev tb σ H (.bl b)):Ev (Df ta tb) σ H (.bl (a&&b)):=λQ z=>by
 show d _ ⟨a,Z,?_⟩
 cases a with
 |true=>rw[N1 Z];show c Z _ z
 |false=>rw[N0 Jw];show z
theorem F1 (d:Ev ta σ H (.bl a))(c:a=false->Ev tb σ H (.bl b)):Ev (FH ta tb) σ H (.bl (a||b)):=λQ z=>by
 show d _ ⟨a,Z,?_⟩
 cases a with
 |true=>rw[N1 Z];show z
 |false=>rw[N0 Jw];show c Z _ z
theorem cf(b:Ev ta σ H (.ref p))(a:Ev tb σ H (.int i))(c:bh K H p xs)(d:jH xs i>v):Ev (gb (mX K) ta tb) σ H v:=λ_ q=>b _ (a _ ⟨p,xs,i,v,Z,Z,c,d,q⟩)
theorem c8(b:Ev ta σ H (.ref p))(a:Ev tb σ H (.int i))(c:aM K H p xs)(d:jH xs i>v):Ev (gb (nu K) ta tb) σ H v:=λ_ q=>b _ (a _ ⟨p,xs,i,v,Z,Z,c,d,q⟩)
theorem qw (b:Ev ta σ H x)(a:Ev tb σ H .non):Ev (gb (λx y H Q=>y=.non/\Q (.bl (decide (x=.non))) H) ta tb) σ H (.bl (decide (x=.non))):=λ_ z=>b _ (a _ ⟨Z,z⟩)
theorem dH {r:-V->Hp->VK->Prop}{vs:-V}{t:TA}(a:sd t σ H vs)(b:∀Q:VK,Q v H->r vs H Q):Ev (BI r t) σ H v:=λQ q=>a _ (b Q q)
theorem aw:sd fE σ H []:=λ_ q=>q
theorem ag {t:TA}{vs:-V}(a:Ev ta σ H v)(b:sd t σ H vs):sd (bX ta t) σ H (v::vs):=λ_ q=>a _ (b _ q)
theorem aI (h:Ev te σ H (.bl b)):jm (k9 te) σ H b:=λ_ q=>h _ ⟨b,Z,q⟩
theorem uj (h:Ev te σ H (.bl b)):jm (tB te) σ H b:=λ_ q=>h _ ⟨b,Z,q⟩
theorem Av (h:jm t σ H b):jm (EM t) σ H (!b):=λ_ q=>h _ q
theorem h9 (d:jm t σ H a)(c:a=true->jm u σ H b):jm (Gf t u) σ H (a&&b):=λQ z=>by
 show d _ ?_
 cases a with
 |true=>rw[N1 Z];show c Z _ z
 |false=>rw[N0 Jw];show z
theorem AK (d:jm t σ H a)(c:a=false->jm u σ H b):jm (F9 t u) σ H (a||b):=λQ z=>by
 show d _ ?_
 cases a with
 |true=>rw[N1 Z];show z
 |false=>rw[N0 Jw];show c Z _ z
theorem jt {a:TT}{t u:TS}{D:jf}(h:jm a σ H b)(h1:b=true->t D σ H)(c:b=false->u D σ H):mG a t u D σ H:=by
 show h _ ?_
 cases b with
 |true=>rw[N1 Z];show h1 Z
 |false=>rw[N0 Jw];show c Z
theorem pN {a:TT}{t u:TS}{D:jf}(h:jm a σ H b)(c:b=false)(d:u D σ H):mG a t u D σ H:=jt h (λe=>absurd (c.symm.trans e) Jw) λ_=>d
theorem tQ(h:Ev te σ H v)(q:D.nx (σ.set n (some v)) H):lu te (eM n) D σ H:=h _ q
theorem dy(h:Ev te σ H v)(q:D.rt v H):zL te D σ H:=h _ q
end
theorem E_(h1: -2^64<j)(a:j<2^64):Ar i j:=.inr ⟨h1,a⟩
theorem A_(h1: -2^64<i)(a:i<2^64):Ar i j:=.inl ⟨h1,a⟩
theorem zo(h1:0<j)(a:j<2^200):zI i j:=⟨h1,a⟩
theorem Fc(h1:0<=j)(b:j<=1000000)(a:i.natAbs<2^64):F0 i j:=⟨h1,b,a⟩
theorem vo:NC "list" >.type "list":=by decide+kernel
theorem D8:NC "zip" >.type "zip":=by decide+kernel
theorem st {t:TS}{D:jf}{r:VK}{b c:St->Hp->Prop}(h:t D σ H):({nx:=t D,rt:=r,bk:=b,ct:=c}:jf).nx σ H:=h
section
variable {te:TE} {tc:TT} {t u:TS} {ta:TA} {D:jf} {b:Bool} {v:V} {vs:-V} {n:Nat}
theorem bV (h:Ev te σ H v)(q:u D (σ.set n (some v)) H):gr (lu te (eM n)) u D σ H:=h _ q
theorem jv (h:jm tc σ H b)(a:b=false)(q:u D σ H):gr (mG tc t qJ) u D σ H:=pN (D:={D with nx:=u D}) h a q
theorem gH (h:jm tc σ H b)(h1:b=true->t {D with nx:=u D} σ H)(a:b=false->u D σ H):gr (mG tc t qJ) u D σ H:=jt (D:={D with nx:=u D}) h h1 a
theorem tE(h:Ev te σ H (.ref p))(a:bh K H p [x,y,z])(q:u D (((σ.set i (some x)).set j (some y)).set k (some z)) H):
  gr (lu te (ET K 3 (vF (eM i) (vF (eM j) (vF (eM k) Gk))))) u D σ H:=h _ ⟨p,_,Z,a,Z,_,_,Z,_,_,Z,_,_,Z,Z,q⟩
theorem Du(q:tc σ H λb H1=>if b=true then t D σ H1 else u D σ H1):mG tc t u D σ H:=q
theorem bO (q:tc σ H λb H1=>if b=true then t {D with nx:=u D} σ H1 else u D σ H1):gr (mG tc t qJ) u D σ H:=q
theorem gn(q:Q (σ.set n (some v)) H):eM n v σ H Q:=q
end
structure aT (P:Ni) (w:Nr) (K:Je) (mg:Nh->Option N7) (Oa:Ng) (x:Nh) (k:Nat) (ps:-Nh) (sp:Sp):Prop where
 ex:∃f fd,fq P w K mg Oa kf k f fd ps sp/\mg x>.ref f/\J5 K (.ref f)=true/\c6 K fd ps []
theorem yO(C:aT X.prog X.w X.K X.mg X.Oa x k ps sp)(g:aR k X.A)(c:Gl X x)(d:PA X (e::es) t)
  (a:(x==("__debug__" :Nh))=false:=by decide) (h:Nf (e::es) X.env=(false,eval e X.env)::Nf es X.env:=by rfl) (b:(NG pos (Nf es X.env)).any (·.1)=false:=by rfl):
  PE X (.Call (.Name x p) (e::es) [] pos) (jP sp [] E0 t):=by
 let⟨f,fd,G,hm,i,hb⟩:=C.ex
 show Ct G g c hm i hb .nil oF d a h b
theorem bh.same {H':Hp}{a:N8}{xs:-V}(e:au H H')(h:bh K H a xs):bh K H' a xs:=by
 rcases h with (h|⟨o,h⟩)|h
 ·show .inl (.inl (e _ _ h))
 ·show .inl (.inr ⟨o,e _ _ h⟩)
 ·show .inr h
theorem au.upd(e:au H H'){p:N8}{o:HO}(a:H' p=none):au H (Oc H' p o):=λb u h=>by
 rw[aj (aq (e b u h) a)]
 show e b u h
section
variable {tg:Nw}
end
theorem bN.there(x:bN P w H h a o):∃ob,h.get? a>ob:=by
 cases o with
 |lst xs=>let⟨_,_,_,_,e⟩:=x;show⟨_,e⟩
 |tup xs=>let⟨_,_,_,ob,e,_⟩:=x;show⟨_,e⟩
 |dT kvs=>let⟨_,_,_,_,o,_,_,e,_⟩:=x;show⟨_,e⟩
 |ins C dx fs=>let⟨_,_,_,e,_⟩:=x;show⟨_,e⟩
 |own y=>show x
 |rng lo hi=>let⟨_,_,_,e⟩:=x;show⟨_,e⟩
 |frz ob u=>let⟨e,_⟩:=x;show⟨_,e⟩
 |tbl ps=>show⟨_,(show h.get? a>_ from x)⟩
 |ext φ=>show x.2.1
theorem iu.none_of(x:iu P w H h)(e:h.get? a=none):H a=none:=by
 cases q:H a with
 |none=>rfl
 |some u=>
  let⟨o,z⟩:=(x a u q).there
  rw[e] at z;cases z
theorem eP {cs:-N8}{us:-N7}(h:a8 (cs.map V.ref) us):us=cs.map N7.ref:=by
 induction cs generalizing us with
 |nil=>
  cases h
  rfl
 |cons c cs ih=>
  cases h with
  |cons r t=>rw[ih t];cases(show _=N7.ref _ from r);rfl
theorem iD(c:Gl X x)(a:X.mg x>.ref C)(b:(x==("__debug__" :Nh))=false:=by decide):PE X (.Name x pos) (tC (.ref C)):=wd c a Z b
theorem tL{g:Int->V}(a:Ev ta σ H (.int i)):Ev (Fn (rU g) ta) σ H (g i):=λ_ q=>a _ ⟨i,Z,q⟩
theorem cQ(q:te σ H λv H1=>u D (σ.set n (some v)) H1):gr (lu te (eM n)) u D σ H:=q
structure bU (P:Ni) (w:Nr) (K:Je) (mg:Nh->Option N7) (Oa:Ng) (C:N8) (m:Nh) (k:Nat) (ps:-Nh) (sp:Sp):Prop where
 ex:∃f fd,fq P w K mg Oa kf k f fd ps sp/\B1 K C m f/\c6 K fd ps []
structure h8 (P:Ni) (w:Nr) (K:Je) (mg:Nh->Option N7) (Oa:Ng) (C:N8) (x:Nh) (k:Nat) (ps:-Nh) (sp:Sp):Prop where
 ex:∃f fd,fq P w K mg Oa kf k f fd ps sp/\Mk K C f/\mg x>.ref C/\c6 K fd ps []
section
variable {C:N8} {k:Nat} {ps:-Nh} {sp:Sp} {x m:Nh} {p pos apos:O2} {e o:Nw} {es:-Nw} {ta:TE} {t:TA}
theorem cP {pl:Sem Bool}(h:PE X o ta)(c:nQ X.K C)(G:bU X.prog X.w X.K X.mg X.Oa C m k ps sp)(g:aR k X.A)(d:PA X (e::es) t)
  (a:Nf (e::es) X.env=(false,eval e X.env)::Nf es X.env:=by rfl) (b:(NG pos (Nf es X.env)).any (·.1)=false:=by rfl)
  (ht:eval (.Call (.Attribute o m apos) (e::es) [] pos) X.env=(do
   let ov<-eval o X.env
   standAt apos.atName
   let (f,first)<-holding [ov] (getMethod ov m pl)
   callWith pos f first (NG pos (Nf (e::es) X.env)) (backToKw pos (keywordEach [] X.env))):=by rfl):
  PE X (.Call (.Attribute o m apos) (e::es) [] pos) (wK C m sp [] E0 ta t):=by
 let⟨f,fd,F,hm,hb⟩:=G.ex
 show BL (pl:=pl) h c hm F g hb .nil oF d a b ht
theorem Cy {pl:Sem Bool}(b:PE X o ta)(c:nQ X.K C)(G:bU X.prog X.w X.K X.mg X.Oa C m k ps sp)(a:aR k X.A)
  (ht:eval (.Call (.Attribute o m apos) [] [] pos) X.env=(do
   let ov<-eval o X.env
   standAt apos.atName
   let (f,first)<-holding [ov] (getMethod ov m pl)
   callWith pos f first (NG pos (Nf [] X.env)) (backToKw pos (keywordEach [] X.env))):=by rfl):
  PE X (.Call (.Attribute o m apos) [] [] pos) (wK C m sp [] E0 ta fE):=by
 let⟨f,fd,F,hm,hb⟩:=G.ex
 show zg (pl:=pl) b c hm F a hb .nil oF ht
theorem AB (G:h8 X.prog X.w X.K X.mg X.Oa C x k ps sp)(g:aR (k+1) X.A)(c:Gl X x)(d:PA X (e::es) t)(a:(x==("__debug__" :Nh))=false:=by decide)
  (h:Nf (e::es) X.env=(false,eval e X.env)::Nf es X.env:=by rfl) (b:(NG pos (Nf es X.env)).any (·.1)=false:=by rfl):PE X (.Call (.Name x p) (e::es) [] pos) (oj C sp [] E0 t):=by
 let⟨f,fd,F,M,hm,hb⟩:=G.ex
 show vw M F g c hm hb .nil oF d a h b
end
theorem eT {te:TE}{a:St}{R:VK}{N:Hp->Prop}(h:te a H R):FW a H λb H3=>if b=true then te a H3 R else N H3:=by
 change if true=true then te a H R else N H
 show h
section
variable {tc:TT} {te:TE} {t u v:TS} {D:jf} {a b:Bool}
theorem D6 (h:jm tc σ H b)(h1:b=true->t {D with nx:=v D} σ H)(a:b=false->u {D with nx:=v D} σ H):gr (mG tc t u) v D σ H:=by
 show h _ ?_
 cases b with
 |true=>rw[N1 Z];show h1 Z
 |false=>rw[N0 Jw];show a Z
theorem gy (J:St->Hp->Prop)(h:jm tc σ H b)(h1:b=true->∀R:St->Hp->Prop,(∀σ H,J σ H->R σ H)->t {D with nx:=R} σ H)(a:b=false->∀R:St->Hp->Prop,(∀σ H,J σ H->R σ H)->u {D with nx:=R} σ H)
  (hv:∀σ H,J σ H->v D σ H):gr (mG tc t u) v D σ H:=D6 h (λe=>h1 e _ hv) λe=>a e _ hv
theorem zf (W:Nat->St->Hp->Prop)(h0:∃m,W m σ H)(e:∀m σ H,W m σ H->∃b,jm tc σ H b/\(b=true->∀N:St->Hp->Prop,(∀c a H',c<m->W c a H'->N a H')->t {D with nx:=N,ct:=N,bk:=D.nx} σ H)/\(b=false->D.nx σ H)):
  tT tc t D σ H:=by
 show⟨W,h0,λm σ H w=>?_⟩
 let⟨b,hb,h1,h2⟩:=e m σ H w
 show hb _ ?_
 cases b with
 |true=>rw[N1 Z];show⟨λa H'=>∃c,c<m/\W c a H',λ_ _ z=>z,h1 Z _ λc a H' l d=>⟨c,l,d⟩⟩
 |false=>rw[N0 Jw];show h2 Z
end
theorem rD:NC "reversed" >.type "reversed":=by decide+kernel
section
open PySem PySem.W PyProof.Rows
noncomputable def gf {b:Type} (lt:Nat->Nat->Bool):O5 b->b
 | .ret a=>a
 | .ask i j k=>gf lt (k (lt i j))
theorem gJ {a b:Type}{lt:Nat->Nat->Bool}{f:a->O5 b}:∀t:O5 a,gf lt (t.bind f)=gf lt (f (gf lt t))
 | .ret _=>rfl
 | .ask i j k=>gJ (k (lt i j))
inductive ig (lt:Nat->Nat->Bool) (n:Nat):{α:Type}->O5 α->Prop where
 |ret {α:Type} (a:α):ig lt n (O5.ret a)
 |ask {α:Type} {i j:Nat} {k:Bool->O5 α}:i<n->j<n->ig lt n (k (lt i j))->ig lt n (.ask i j k)
theorem ig.bind {lt:Nat->Nat->Bool}{b c:Type}{f:b->O5 c}{t:O5 b}(h:ig lt n t)(hf:ig lt n (f (gf lt t))):ig lt n (t.bind f):=by
 induction t with
 |ret a=>show hf
 |ask i j k ih=>
  cases h with
  |ask h1 h2 h3=>show .ask h1 h2 (ih _ h3 hf)
theorem Ad {d:Type}{lt:Nat->Nat->Bool}{b:Nat->Nat->(Bool->N_->Prop)->N_->Prop}{I:N_->Prop}{Q:d->N_->Prop}(g:∀i j C s,i<n->j<n->I s->(∀s',I s'->C (lt i j) s')->b i j C s){t:O5 d}(h:ig lt n t)(e:I s)(f:∀s',I s'->Q (gf lt t) s'):t.kasWp b Q s:=by
 induction t generalizing s with
 |ret a=>show f s e
 |ask i j k ih=>
  cases h with
  |ask h1 h2 h3=>show g i j _ s h1 h2 e λs' c=>ih _ h3 c f
section
variable {O:O6} (key:Nat->O.α)
def kA (p:Array Nat) (k:Nat):O.α:=key (p.getD k 0)
def Up (p:Array Nat) (n:Nat):Prop:=∀i j,i<=j->j<n->O.kle (kA key p i) (kA key p j)
def Dn (p:Array Nat) (n:Nat):Prop:=∀i j,i<=j->j<n->O.kle (kA key p j) (kA key p i)
abbrev dX (i j:Nat):Bool:=O.blt (key i) (key j)
def d_ (n:Nat) (p:Array Nat):Prop:=p.Perm (List.toArray (List.range n))
variable {key}
theorem d_.size(h:d_ n p):p.size=n:=by
 have:=h.size_eq
 simpa using this
theorem d_.lt(h:d_ n p)(k:Nat)(a:k<n):p.getD k 0<n:=by
 let b:=h.size
 let hm:p[k]'()∈p:=Ls _
 have:=(h.mem_iff).mp hm
 rw[Ko,Kb ()]
 simpa using this
theorem mI(a:j<=p.size)(k:Nat):(kas_rev p i j).getD k 0=if i<=k/\k<j then p.getD (i+j - 1 - k) 0 else p.getD k 0:=by
 unfold kas_rev
 rw[Ko,getElem?_mirror_all a]
 split<;>rw[Ko]
theorem d_.rev(h:d_ n p)(i j:Nat):d_ n (kas_rev p i j):=(mirror_perm p i j _).trans h
theorem tu(b:j<=p.size)(a:∀k,i<=k->k<j->kA key p k=kA key p (j - 1))(k:Nat):kA key (kas_rev p i j) k=kA key p k:=by
 unfold kA at a|-
 rw[mI b]
 split
 ·next h=>rw[a k h.1 h.2,a _ () ()]
 ·rfl
theorem Up.snoc(h:Up key p n)(d:1<=n)(b:O.kle (kA key p (n - 1)) (kA key p n)):Up key p (n+1):=λi j a c=>by
 by_cases e:j=n
 ·subst e
  by_cases e2:i=j
  ·subst e2;show O6.kle_refl _
  ·show O6.kle_trans (h i (j - 1) () ()) b
 ·show h i j a ()
theorem Dn.snoc(h:Dn key p n)(d:1<=n)(b:O.kle (kA key p n) (kA key p (n - 1))):Dn key p (n+1):=λi j a c=>by
 by_cases e:j=n
 ·subst e
  by_cases e2:i=j
  ·subst e2;show O6.kle_refl _
  ·show O6.kle_trans b (h i (j - 1) () ())
 ·show h i j a ()
theorem Dn.of_keys(h:Dn key p n)(e:∀k,kA key q k=kA key p k):Dn key q n:=λi j a b=>by rw[e,e];show h i j a b
theorem Dn.turn(h:Dn key p n)(a:n<=p.size):Up key (kas_rev p 0 n) n:=λi j b c=>by
 unfold kA
 rw[mI a,mI a,N1 ⟨Ju _,by omega⟩,N1 ⟨Ju _,by omega⟩]
 show h _ _ (by omega) (by omega)
theorem tZ(a:d_ N p):∀(f n:Nat),1<=n->n+f<=N->Up key p n->ig (dX key) N (O4 p f n)/\
  n<=gf (dX key) (O4 p f n)/\gf (dX key) (O4 p f n)<=n+f/\Up key p (gf (dX key) (O4 p f n))/\(gf (dX key) (O4 p f n)<n+f->dX key (p.getD (gf (dX key) (O4 p f n)) 0) (p.getD (gf (dX key) (O4 p f n) - 1) 0)=true)
 |0,n,_,_,h=>⟨.ret _,Jd _,Jd _,h,λz=>absurd z (JU _)⟩
 |f+1,n,h1,hn,h=>by
  cases e:dX key (p.getD n 0) (p.getD (n - 1) 0) with
  |true=>
   let b:gf (dX key) (O4 p (f+1) n)=n:=by
    change gf (dX key) (if dX key (p.getD n 0) (p.getD (n - 1) 0)=true then O5.ret n else O4 p f (n+1))=n
    rw[e,N1 Z];rfl
   show⟨.ask (a.lt n ()) (a.lt (n - 1) ()) ?_,?_⟩
   ·rw[e,N1 Z];show .ret _
   ·rw[b];show⟨Jd _,(),h,λ_=>e⟩
  |false=>
   let b:gf (dX key) (O4 p (f+1) n)=gf (dX key) (O4 p f (n+1)):=by
    change gf (dX key) (if dX key (p.getD n 0) (p.getD (n - 1) 0)=true then O5.ret n else O4 p f (n+1))=_
    rw[e,N0 Jw]
   let⟨d,j,i,g,c⟩:=tZ a f (n+1) () () (h.snoc h1 e)
   show⟨.ask (a.lt n ()) (a.lt (n - 1) ()) ?_,?_⟩
   ·rw[e,N0 Jw];show d
   ·rw[b];show⟨(),(),g,λz=>c ()⟩
theorem lC:∀(f:Nat) (p:Array Nat) (n q:Nat),d_ N p->q+1<=n->n+f<=N->Dn key p n->(∀k,n - (q+1)<=k->k<n->kA key p k=kA key p (n - 1))->
  ig (dX key) N (kas_desc f p n q)/\∀r,gf (dX key) (kas_desc f p n q)=r->d_ N r.1/\n<=r.2.1/\r.2.1<=n+f/\r.2.2+1<=r.2.1/\Dn key r.1 r.2.1/\(∀k,r.2.1 - (r.2.2+1)<=k->k<r.2.1->kA key r.1 k=kA key r.1 (r.2.1 - 1))
 |0,p,n,q,hp,hq,hn,h,he=>⟨.ret _,λr e=>by cases e;show⟨hp,Jd _,Jd _,hq,h,he⟩⟩
 |f+1,p,n,q,hp,hq,hn,h,he=>by
  let z:=hp.size
  let i1:=hp.lt n ()
  let i2:=hp.lt (n - 1) ()
  let un:gf (dX key) (kas_desc (f+1) p n q)=gf (dX key) (if dX key (p.getD n 0) (p.getD (n - 1) 0)=true then (if GT.gt q 0 then kas_desc f (kas_rev p (n - (q+1)) n) (n+1) 0 else kas_desc f p (n+1) 0)
    else .ask (p.getD (n - 1) 0) (p.getD n 0) λd=>if d=true then .ret (p,n,q) else kas_desc f p (n+1) (q+1)):=rfl
  let b:∀(x:Array Nat) (k:Nat),n+1 - (0+1)<=k->k<n+1->kA key x k=kA key x (n+1 - 1):=λx k h1 h2=>by
   have:k=n+1 - 1:=by lia
   rw[this]
  cases e:dX key (p.getD n 0) (p.getD (n - 1) 0) with
  |true=>
   let hs:Dn key p (n+1):=h.snoc () (O6.kle_of_klt e)
   by_cases hq0:GT.gt q 0
   ·let w:=tu (p:=p) (i:=n - (q+1)) (j:=n) () he
    let⟨o,c⟩:=lC f (kas_rev p (n - (q+1)) n) (n+1) 0 (hp.rev _ _) () () (hs.of_keys w) (b _)
    show⟨.ask i1 i2 ?_,λr a=>?_⟩
    ·rw[e,N1 Z,N1 hq0];show o
    ·rw[un,e,N1 Z,N1 hq0] at a
     let⟨v,b2,y,u,m,l⟩:=c r a
     show⟨v,(),(),u,m,l⟩
   ·let⟨o,c⟩:=lC f p (n+1) 0 hp () () hs (b _)
    show⟨.ask i1 i2 ?_,λr a=>?_⟩
    ·rw[e,N1 Z,N0 hq0];show o
    ·rw[un,e,N1 Z,N0 hq0] at a
     let⟨v,b2,y,u,m,l⟩:=c r a
     show⟨v,(),(),u,m,l⟩
  |false=>
   cases e2:dX key (p.getD (n - 1) 0) (p.getD n 0) with
   |true=>
    show⟨.ask i1 i2 ?_,λr a=>?_⟩
    ·rw[e,N0 Jw]
     show .ask i2 i1 ?_
     rw[e2,N1 Z];show .ret _
    ·rw[un,e,N0 Jw] at a
     let a:gf (dX key) (if dX key (p.getD (n - 1) 0) (p.getD n 0)=true then O5.ret (p,n,q) else kas_desc f p (n+1) (q+1))=r:=a
     rw[e2,N1 Z] at a
     cases a
     show⟨hp,Jd _,(show n<=n+(f+1) by lia),hq,h,he⟩
   |false=>
    let g:kA key p n=kA key p (n - 1):=O.total _ _ e e2
    let hs:Dn key p (n+1):=h.snoc () (g<|O6.kle_refl _)
    let⟨o,c⟩:=lC f p (n+1) (q+1) hp () () hs λk h1 h2=>by
     by_cases w:k=n
     ·rw[w];rfl
     ·rw[he k () ()];show g.symm
    show⟨.ask i1 i2 ?_,λr a=>?_⟩
    ·rw[e,N0 Jw]
     show .ask i2 i1 ?_
     rw[e2,N0 Jw];show o
    ·rw[un,e,N0 Jw] at a
     let a:gf (dX key) (if dX key (p.getD (n - 1) 0) (p.getD n 0)=true then O5.ret (p,n,q) else kas_desc f p (n+1) (q+1))=r:=a
     rw[e2,N0 Jw] at a
     let⟨v,b2,y,u,m,l⟩:=c r a
     show⟨v,(),(),u,m,l⟩
def ng (key:Nat->O.α) (N:Nat) (r:Nat×Array Nat):Prop:=d_ N r.2/\1<=r.1/\r.1<=N/\Up key r.2 r.1
theorem rY(a:d_ N p)(h1:1<=n)(g:n<=N)(h:Dn key p n):ig (dX key) N (kas_tail3 n N p)/\ng key N (gf (dX key) (kas_tail3 n N p)):=by
 let f:=a.size
 let⟨b,e,d,c,_⟩:=tZ (a.rev 0 n) (N - n) n h1 () (h.turn ())
 unfold kas_tail3
 show⟨b.bind (.ret _),?_⟩
 rw[gJ]
 show⟨a.rev 0 n,by change 1<=gf _ _;lia,by change gf _ _<=N;lia,c⟩
theorem k6(u:d_ N p)(w:n+1<=N)(h:Dn key p (n+1)):ig (dX key) N (kas_descPart n N p)/\ng key N (gf (dX key) (kas_descPart n N p)):=by
 let⟨c,o⟩:=lC (N - (n+1)) p (n+1) 0 u () () h λk h1 h2=>by
  have:k=n+1 - 1:=by lia
  rw[this]
 let⟨a,b2,l,m,b,d⟩:=o _ Z
 unfold kas_descPart
 rw[gJ]
 revert a b2 l m b d c
 generalize g:gf (dX key) (kas_desc (N - (n+1)) p (n+1) 0)=r
 intro c a b2 l m b d
 let v:=a.size
 by_cases hq:GT.gt r.2.2 0
 ·let q:=tu (p:=r.1) (i:=r.2.1 - (r.2.2+1)) (j:=r.2.1) () d
  let⟨f,e⟩:=rY (a.rev (r.2.1 - (r.2.2+1)) r.2.1) () () (b.of_keys q)
  show⟨c.bind ?_,?_⟩
  ·rw[g,N1 hq];show f
  ·rw[N1 hq];show e
 ·let⟨f,e⟩:=rY a () () b
  show⟨c.bind ?_,?_⟩
  ·rw[g,N0 hq];show f
  ·rw[N0 hq];show e
theorem yX(c:d_ N p)(h1:1<=N):ig (dX key) N (kas_count N p)/\ng key N (gf (dX key) (kas_count N p)):=by
 let F:=c.size
 let w:Up key p 1:=λi j f m=>by
  have:i=j:=by lia
  subst this;show O6.kle_refl _
 let⟨o,r,u,d,h⟩:=tZ c (N - 1) 1 (Jd _) () w
 unfold kas_count
 rw[gJ]
 revert o r u d h
 generalize x:gf (dX key) (O4 p (N - 1) 1)=n
 intro o r u d h
 let a:∀{t:O5 (Nat×Array Nat)},(ig (dX key) N t/\ng key N (gf (dX key) t))->∀{g:Nat->O5 (Nat×Array Nat)},g n=t->ig (dX key) N ((O4 p (N - 1) 1).bind g)/\ng key N (gf (dX key) (g n)):=fun{t} ht {g} v=>by
  show⟨o.bind ?_,?_⟩
  ·rw[x,v];show ht.1
  ·rw[v];show ht.2
 by_cases hN:n=N
 ·show a (t:=.ret (n,p)) ⟨.ret _,c,(show 1<=n by lia),(show n<=N by lia),d⟩ (N1 (by simp[hN]))
 ·let b:=h ()
  by_cases hn1:GT.gt n 1
  ·cases e:dX key (p.getD 0 0) (p.getD (n - 1) 0) with
   |true=>
    show a ⟨.ask (c.lt 0 ()) (c.lt (n - 1) ()) ?_,?_⟩ (by rw[N0 (by simp[hN]),N1 hn1])
    ·rw[e,N1 Z];show .ret _
    ·change ng key N (gf (dX key) (if dX key (p.getD 0 0) (p.getD (n - 1) 0)=true then _ else _))
     rw[e,N1 Z];show⟨c,by change 1<=n;lia,by change n<=N;lia,d⟩
   |false=>
    let l:∀k,0<=k->k<n->kA key p k=kA key p (n - 1):=λk _ A=>by
     let y:O.kle (kA key p k) (kA key p (n - 1)):=d k (n - 1) () ()
     let B:O.kle (kA key p 0) (kA key p k):=d 0 k () A
     show O6.kle_antisymm y (O6.kle_trans e B)
    let z:=tu (p:=p) (i:=0) (j:=n) () l
    let dn:Dn key p (n+1):=by
     let q:Dn key p n:=λi j f m=>by rw[l i () (),l j () m];show O6.kle_refl _
     show q.snoc () (O6.kle_of_klt b)
    let⟨D,C⟩:=k6 (c.rev 0 n) () (dn.of_keys z)
    show a ⟨.ask (c.lt 0 ()) (c.lt (n - 1) ()) ?_,?_⟩ (by rw[N0 (by simp[hN]),N1 hn1])
    ·rw[e,N0 Jw];show D
    ·change ng key N (gf (dX key) (if dX key (p.getD 0 0) (p.getD (n - 1) 0)=true then _ else _))
     rw[e,N0 Jw];show C
  ·let E:n=1:=by lia
   let dn:Dn key p (n+1):=by
    let q:Dn key p n:=λi j f m=>by
     have:i=j:=by lia
     subst this;show O6.kle_refl _
    show q.snoc () (O6.kle_of_klt b)
   show a (k6 c () dn) (by rw[N0 (by simp[hN]),N0 hn1])
theorem l_(b:d_ N p)(g:k<N)(d:Up key p k):∀(f l r:Nat),l<=r->r<=k->r - l<=f->(∀i,i<l->O.kle (kA key p i) (kA key p k))->(∀i,r<=i->i<k->O.klt (kA key p k) (kA key p i))->
  ig (dX key) N (kas_place p k f l r)/\∀v,gf (dX key) (kas_place p k f l r)=v->v<=k/\(∀i,i<v->O.kle (kA key p i) (kA key p k))/\(∀i,v<=i->i<k->O.klt (kA key p k) (kA key p i))
 |0,l,r,hlr,hrk,hf,h1,h2=>⟨.ret _,λv e=>by
   cases e
   show⟨(show l<=k by lia),h1,λi hi=>h2 i (by have:l<=i:=hi;lia)⟩⟩
 |f+1,l,r,hlr,hrk,hf,h1,h2=>by
  by_cases hge:l>=r
  ·let m:kas_place p k (f+1) l r=.ret l:=N1 hge
   rw[m]
   show⟨.ret _,λv e=>by cases e;show⟨(show l<=k by lia),h1,λi hi=>h2 i (by have:l<=i:=hi;lia)⟩⟩
  ·let m:kas_place p k (f+1) l r=.ask (p.getD k 0) (p.getD ((l+r)/2) 0) λc=>if c=true then kas_place p k f l ((l+r)/2) else kas_place p k f ((l+r)/2+1) r:=N0 hge
   rw[m]
   let hm:(l+r)/2<k:=by lia
   cases e:dX key (p.getD k 0) (p.getD ((l+r)/2) 0) with
   |true=>
    let⟨j,h⟩:=l_ b g d f l ((l+r)/2) () () () h1 λi hi n=>O6.klt_of_klt_of_kle e (d _ i hi n)
    show⟨.ask (b.lt k g) (b.lt _ ()) (e<|N1 Z<|j),λv a=>h v ?_⟩
    let a:gf (dX key) (if dX key (p.getD k 0) (p.getD ((l+r)/2) 0)=true then _ else _)=v:=a
    rw[e,N1 Z] at a
    show a
   |false=>
    let⟨j,h⟩:=l_ b g d f ((l+r)/2+1) r () hrk () (λi hi=>O6.kle_trans (d i ((l+r)/2) () hm) e) h2
    show⟨.ask (b.lt k g) (b.lt _ ()) (e<|N0 Jw<|j),λv a=>h v ?_⟩
    let a:gf (dX key) (if dX key (p.getD k 0) (p.getD ((l+r)/2) 0)=true then _ else _)=v:=a
    rw[e,N0 Jw] at a
    show a
theorem sy(a:k<p.size)(b:l<=k)(i:Nat):(bubble p k (k - l)).getD i 0=if i=l then p.getD k 0 else if l<i/\i<=k then p.getD (i - 1) 0 else p.getD i 0:=by
 rw[Ko,getElem?_bubble a (k - l) (),show k - (k - l)=l by lia]
 simp only[Ko]
 repeat' split
 all_goals rfl
theorem Up.bubble(d:d_ N p)(h:k<N)(f:l<=k)(a:Up key p k)(h1:∀i,i<l->O.kle (kA key p i) (kA key p k))(c:∀i,l<=i->i<k->O.klt (kA key p k) (kA key p i)):Up key (bubble p k (k - l)) (k+1):=λi j b g=>by
 let m:=d.size
 let e:∀i,kA key (PyProof.Rows.bubble p k (k - l)) i=if i=l then kA key p k else if l<i/\i<=k then kA key p (i - 1) else kA key p i:=λi=>by
  unfold kA
  rw[sy () f]
  repeat' split
  all_goals rfl
 rw[e,e]
 by_cases c1:i=l<;>by_cases c2:j=l
 ·rw[N1 c1,N1 c2];show O6.kle_refl _
 ·rw[N1 c1,N0 c2,N1 ()];show O6.kle_of_klt (c _ () ())
 ·rw[N0 c1,N1 c2,N0 ()];show h1 i ()
 ·rw[N0 c1,N0 c2]
  by_cases d1:l<i/\i<=k
  ·rw[N1 d1,N1 ()];show a _ _ () ()
  ·rw[N0 d1]
   by_cases d2:l<j/\j<=k
   ·rw[N1 d2];show a _ _ () ()
   ·rw[N0 d2];show a _ _ b ()
theorem zb:∀(f:Nat) (p:Array Nat) (k:Nat),d_ N p->k+f=N->1<=k->Up key p k->ig (dX key) N (kas_bin f p k)/\d_ N (gf (dX key) (kas_bin f p k))/\Up key (gf (dX key) (kas_bin f p k)) N
 |0,p,k,hp,hk,_,hu=>⟨.ret _,hp,by rw[show N=k by lia];show hu⟩
 |f+1,p,k,hp,hk,h1,hu=>by
  let⟨d,b⟩:=l_ hp () hu k 0 k (Ju _) (Jd _) () (λi hi=>absurd hi (K1 _)) λi hi a=>absurd a ()
  let⟨j,b2,h⟩:=b _ Z
  unfold kas_bin
  rw[gJ]
  let hb:d_ N (bubble p k (k - gf (dX key) (kas_place p k k 0 k))):=(bubble_perm _ _ _).trans hp
  let⟨g,c,e⟩:=zb f _ (k+1) hb () () (hu.bubble hp () j b2 h)
  show⟨d.bind g,c,e⟩
theorem v5(h1:1<=N):ig (dX key) N (kas_sort N)/\d_ N (gf (dX key) (kas_sort N))/\Up key (gf (dX key) (kas_sort N)) N:=by
 let⟨c,b,f,e,a⟩:=yX (key:=key) (p:=List.toArray (List.range N)) (Array.Perm.refl _) h1
 unfold kas_sort
 rw[gJ]
 revert c b f e a
 generalize d:gf (dX key) (kas_count N (List.toArray (List.range N)))=r
 intro c b f e a
 by_cases h:r.1<N
 ·let⟨j,g,i⟩:=zb (N - max r.1 1) r.2 (max r.1 1) b () () (by rw[show max r.1 1=r.1 by lia];show a)
  show⟨c.bind (d<|N1 h<|j),?_⟩
  rw[N1 h];show⟨g,i⟩
 ·show⟨c.bind (d<|N0 h<|.ret _),?_⟩
  rw[N0 h]
  show⟨b,by rw[show N=r.1 by lia];show a⟩
end
end
def Dp (K:Je) (H:Hp) (v:V) (d:Nl):Prop:=∃(a:N8) (ns:-Int),v=.ref a/\d=.tuple (ns.map Nl.int)/\bh K H a (ns.map V.int)
theorem yn (ns:-Int):Nl.canLayAll0 (ns.map Nl.int)=true:=by
 induction ns with
 |nil=>simp[Nl.canLayAll0]
 |cons n r ih=>simp[Nl.canLayAll0,Nl.canLay0,ih]
theorem Dp.lay {v:V}{d:Nl}(h:Dp K H v d):d.canLay0=true:=by
 let⟨a,ns,rfl,rfl,_⟩:=h
 simpa[Nl.canLay0] using yn ns
theorem uD {h:Ng}{ns:-Int}{us:-N7}(r:a8 (ns.map V.int) us):∃as,ReadsAll h us (ns.map Nl.int) as:=by
 induction ns generalizing us with
 |nil=>
  cases r
  show⟨_,.nil⟩
 |cons n l ih=>
  cases r with
  |cons q r=>
   let⟨t,rfl⟩:=q
   let⟨bs,a⟩:=ih r
   show⟨_,.cons (.int n t) a⟩
theorem Dp.reads(h:Dp X.K H v d)(I:aG X O9 σ H s)(r:aY v u):∃as,Reads s.heap u d as:=by
 let⟨a,ns,rfl,rfl,h⟩:=h
 cases(show _=N7.ref a from r)
 let⟨b,f,⟨o,e,c,n,g⟩,_⟩:=I.tuple h
 let⟨as,i⟩:=uD f
 show⟨_,.tuple e c g (by simpa using i)⟩
theorem Dp.ints{ns:-Int}(h:bh K H a (ns.map V.int)):Dp K H (.ref a) (.tuple (ns.map Nl.int)):=⟨a,ns,Z,Z,h⟩
theorem kY:∀(ns a:-Int),Nl.eqvAll (ns.map Nl.int) (a.map Nl.int)=decide (ns=a)
 |[],[]=>by simp[Nl.eqvAll]
 |[],_::_=>by simp[Nl.eqvAll]
 |_::_,[]=>by simp[Nl.eqvAll]
 |n::r,m::t=>by
  simp only[Jq,Nl.eqvAll,Nl.eqv,kY r t,List.cons.injEq]
  by_cases h1:n=m<;>by_cases h2:r=t<;>simp[h1,h2]
theorem gB (ns a:-Int):Nl.eqv (.tuple (ns.map Nl.int)) (.tuple (a.map Nl.int))=decide (ns=a):=by simp only[Nl.eqv];show kY ns a
theorem k_:∀{ds:-Nl},(∀d∈ds,d.depth<=n)->Nl.depthAll ds<=n
 |[],_=>by simp[Nl.depthAll]
 |d::r,h=>by
  simp only[Nl.depthAll]
  show Nat.max_le.mpr ⟨h d JA,k_ λe a=>h e (JC _ a)⟩
theorem dB (ns:-Int):(Nl.tuple (ns.map Nl.int)).depth<=1:=by
 have:Nl.depthAll (ns.map Nl.int)<=0:=k_ λd a=>by
  let⟨i,_,rfl⟩:=Jh.mp a
  simp[Nl.depth]
 simp only[Nl.depth];lia
theorem bh.kept {H':Hp}{a:N8}{xs:-V}(e:∀b o,H b>o->H' b>o)(h:bh K H a xs):bh K H' a xs:=bh.same e h
theorem aG.laidN(I:aG X O9 σ H s)(k:∀b u,b≠X.env.locals->s.heap.get? b>u->h'.get? b>u)
  (ns:∀m,s.heap.Ns X.env.locals m->h'.Ns X.env.locals m) (h:s.heap.get? a=none) (new:bN X.prog X.w (Oc H a o) h' a o):aG X O9 σ (Oc H a o) {s with heap:=h',toks:=t'}:=by
 let d:H a=none:=I.hok.none_of h
 let yj:∀b u,H b>u->b≠X.env.locals:=λb u e z=>by rw[z,I.free] at e;cases e
 let f:∀b u,s.heap.get? b>u->b≠a:=λb u e z=>by rw[z,h] at e;cases e
 show I.step (g':=s.gens) (d':=s.drawn) (ch:=[]) (λ_ z=>by cases z) (λb u g _ _ e _=>k b u g e) (λb u g _ _ e _=>⟨u.slots,k b u g e⟩) (λb u _ e n=>by rw[aj (f b u e)];show n)
  (λb u _ e=>?_) (λb xs e=>by rw[aj (aq e d)];show e) (λb u xs e=>by rw[aj (aq e d)];show e) (λb ps e=>⟨#[],by rw[aj (aq e d),e];simp⟩) ns (λb u e=>?_) I.bare
 ·by_cases hb:b=X.env.locals
  ·let⟨m,hm,_⟩:=I.loc
   let⟨o',_,_,i,_⟩:=ns m hm
   show⟨o',hb<|i⟩
  ·show⟨u,k b u hb e⟩
 ·by_cases hb:b=a
  ·subst hb;rw[af] at e;cases e;show new
  ·rw[aj hb] at e
   show(I.hok b u e).stay (λc v hc q=>k c v ?_ q) (λc q=>by rw[aj (aq q d)];show q) λc xs q=>by rw[aj (aq q d)];show q
   rcases hc with rfl|hc
   ·show yj _ _ e
   ·show yj _ _ hc
theorem qm {h:Ng}{a:N8}{m m':Nh->Option N7}(x:h.Ns a m)(y:h.Ns a m'):m=m':=by
 let⟨o,es,ep,g,i,_,f⟩:=x
 let⟨o',d,e,c,b,_,f'⟩:=y
 rw[g] at c;cases c
 rw[i] at b;cases b
 funext n
 rw[<-f,<-f']
theorem eY:∀cs:-N8,a8 (cs.map V.ref) (cs.map N7.ref)
 |[]=> .nil
 |_::r=> .cons Z (eY r)
theorem fD:∀a:-Int,HT.lexLt a a=false
 |[]=>rfl
 |x::r=>by rw[HT.lexLt_cons,N1 Z];show fD r
theorem iS:∀a b:-Int,HT.lexLt a b=false->HT.lexLt b a=false->a=b
 |[],[],_,_=>rfl
 |[],_::_,h,_=>by rw[HT.lexLt_nil_cons] at h;cases h
 |_::_,[],_,h=>by rw[HT.lexLt_nil_cons] at h;cases h
 |x::r,y::t,h1,h2=>by
  rw[HT.lexLt_cons] at h1 h2
  by_cases e:x=y
  ·subst e
   rw[N1 Z] at h1 h2
   rw[iS r t h1 h2]
  ·rw[N0 e] at h1
   rw[N0 (Jr e)] at h2
   have:=N6 h1
   have:=N6 h2
   lia
theorem iV:∀a b c:-Int,HT.lexLt a b=true->HT.lexLt b c=true->HT.lexLt a c=true
 |[],_,[],_,h=>by
  rename_i b _
  cases b with
  |nil=>rw[HT.lexLt_nil_nil] at h;cases h
  |cons y t=>rw[HT.lexLt_cons_nil] at h;cases h
 |[],_,_::_,_,_=>rfl
 |_::_,[],_,h,_=>by rw[HT.lexLt_cons_nil] at h;cases h
 |_::_,_::_,[],_,h=>by rw[HT.lexLt_cons_nil] at h;cases h
 |x::r,y::t,z::u,h1,h2=>by
  rw[HT.lexLt_cons] at h1 h2|-
  by_cases e1:x=y<;>by_cases e2:y=z
  ·subst e1;subst e2
   rw[N1 Z] at h1 h2|-
   show iV r t u h1 h2
  ·subst e1
   rw[N0 e2] at h2|-
   show h2
  ·subst e2
   rw[N0 e1] at h1|-
   show h1
  ·rw[N0 e1] at h1
   rw[N0 e2] at h2
   have:=N4 h1
   have:=N4 h2
   rw[N0 ()]
   show N3 ()
theorem CO (a b c:-Int)(h:HT.lexLt a c=true):HT.lexLt a b=true\/HT.lexLt b c=true:=by
 cases h1:HT.lexLt a b with
 |true=>show .inl Z
 |false=>
  show .inr ?_
  cases h2:HT.lexLt b a with
  |true=>show iV b a c h2 h
  |false=>rw[<-iS a b h1 h2];show h
noncomputable def sD:O6:=⟨-Int,HT.lexLt,fD,iV,CO,iS⟩
abbrev bG (H:Hp) (as:-N8) (cs:-(-Int)):Prop:=Nb (λa (c:-Int)=>H a>.tup (c.map V.int)) as cs
theorem bG.at {as:-N8}{cs:-(-Int)}{i:Nat}{a:N8}(h:bG H as cs)(e:as[i]?>a):∃c,cs[i]?>c/\H a>.tup (c.map V.int):=gC h e
theorem bG.same{cs:-(-Int)}(h:bG H as cs)(e:au H H'):bG H' as cs:=Nb.mapP h λ_ _ z=>e _ _ z
open PySem.W in
theorem iB{Q:Bool->N_->Prop}:∀(d c:-N7) (ns a:-Int) (i:Nat),a8 (ns.map V.int) d->a8 (a.map V.int) c->fin=decide (ns.length<↑a)->
  Q (HT.lexLt ns a) s->KatLex prog w A b fin Q (d.zip c) i s
 |[],c,ns,a,i,r1,r2,hf,h=>by
  cases ns with
  |cons n r=>cases r1
  |nil=>
   rw[hf]
   cases a with
   |nil=>show h
   |cons m t=>show h
 |u::d,[],ns,a,i,r1,r2,hf,h=>by
  cases a with
  |cons m t=>cases r2
  |nil=>
   show kat_nil ?_
   rw[hf]
   cases ns with
   |nil=>show h
   |cons m t=>show h
 |u::d,v::c,ns,a,i,r1,r2,hf,h=>by
  cases ns with
  |nil=>cases r1
  |cons n r=>
   cases a with
   |nil=>cases r2
   |cons m t=>
    cases r1 with
    |cons q1 r1=>
     cases r2 with
     |cons q2 r2=>
      let⟨g,rfl⟩:=q1
      let⟨j,rfl⟩:=q2
      show kat_cons (wpAny_eqBool_int ?_)
      rw[HT.lexLt_cons] at h
      show kat_go (λe=>?_) (λe=>?_)
      ·let f:n=m:=by simpa using e
       rw[N1 f] at h
       show kat_yes (iB d c r t (i+1) r1 r2 (by rw[hf];simp) h)
      ·let f:¬n=m:=by simpa using e
       rw[N0 f] at h
       show kat_no ?_
       cases(b&&i==0) with
       |true=>show oneLt_int h
       |false=>show kat_one _ _ (lt_int h)
theorem sq(I:aG X O9 σ H s)(k:∀b u,b≠X.env.locals->s.heap.get? b>u->h'.get? b>u){as:-N8}{cs:-(-Int)}(g:bG H as cs)(f:∀c∈cs,c≠[]):
  ∃fs:-N7,K3 h' (as.map N7.ref) fs/\↑fs=↑as/\∀v∈fs,∃i t,v=N7.int i t:=by
 induction g with
 |nil=>show⟨[],K3.nil,Z,λ_ h=>by cases h⟩
 | @cons a c as cs h t ih=>
  let⟨fs,h1,h2,y⟩:=ih λd j=>f d (JC _ j)
  let⟨_,e,m,o,x,p,n,j⟩:=(show bN X.prog X.w H s.heap a (.tup (c.map V.int)) from I.hok a _ h)
  let ha:a≠X.env.locals:=λz=>by rw[z,I.free] at h;cases h
  cases c with
  |nil=>show absurd Z (f _ JA)
  |cons i r=>
   cases m with
   |cons q m=>
    let⟨l,rfl⟩:=q
    show⟨.int i l::fs,K3.cons (k a o ha x) p j (by simp) h1,by simp[h2],λv hv=>?_⟩
    rcases Jk.mp hv with rfl|hv
    ·show⟨i,l,Z⟩
    ·show y v hv
theorem Nb.pick {f e:Type}{F:f->e->Prop}(k:f)(g:e):∀{l₁:-f} {c:-e},Nb F l₁ c->∀(ix:-Nat),(∀i∈ix,i<↑l₁)->Nb F (ix.map λi=>l₁.getD i k) (ix.map λi=>c.getD i g)
 |l₁,c,h,[],_=> .nil
 |l₁,c,h,i::ix,hi=>by
  show .cons ?_ (Nb.pick k g h ix λj l=>hi j (JC _ l))
  let d:=hi i JA
  clear hi
  induction h generalizing i with
  |nil=>show absurd d (K1 _)
  | @cons a b l₁ c q t ih=>
   cases i with
   |zero=>show q
   |succ j=>show ih (i:=j) (by simpa using d)
theorem oC {a:Type}(d:a)(l:-a){p:Array Nat}(b:d_ ↑l p):(p.toList.map λi=>l.getD i d).Perm l:=by
 let h:p.toList.Perm (List.range ↑l):=by
  have:=L7.mp b
  simpa using this
 show(h.map _).trans ?_
 let e:(List.range ↑l).map (λi=>l.getD i d)=l:=by
  apply Lu
  intro i
  by_cases hi:i<↑l
  ·simp[hi]
  ·simp[hi]
 rw[e]
theorem sg{P:Fin->N_->Prop}(g:s.heap.get? l>O8 "list" vs.toArray c)(few:↑vs<2)(d:P (.done (.ret .none)) {s with heap:=sortedHeap s.heap l vs vs.toArray}):
  Na (Nd prog w) A (Nc.«list.sort» ⟨[.ref l],[]⟩) P E s:=by
 let lt:l<~~~s:=Jj g
 rw[list_sort_plain]
 apply Ja
 show listItems_at g Z ?_
 apply Ja
 show listUpdate_at g Z ?_
 obtain⟨b,e⟩:∃b,(s.heap.update l (Nv.mapSeq λ_=> #[])).get? l>(O8 "list" #[] b):=⟨_,get?_update_seq g (λ_=> #[])⟩
 apply Ja
 show seqEpoch_at e Z ?_
 apply Ja
 show wpAny_newTuple ?_ (by rw[NP];simp;lia)
 apply Ja
 show wpAny_newList ?_ (by decide)
 apply Jy
 let f:(((s.heap.update l (Nv.mapSeq λ_=> #[])).push (O8 "tuple" vs.toArray 0)).push (O8 "list" #[] 0)).get? l>(O8 "list" #[] b):=by
  rw[Ng.get?_push_ne _ _ _ (Jm (size_push'<|Ng.size_update<|K2 lt))]
  rw[Ng.get?_push_ne _ _ _ (Jm (Ng.size_update<|lt))]
  show e
 change Na (Nd prog w) A _ P E ({s with heap:=((s.heap.update l (Nv.mapSeq λ_=> #[])).push (O8 "tuple" vs.toArray 0)).push (O8 "list" #[] 0)}:N_)
 dsimp only
 let a:vs.toArray.size<2:=by simpa using few
 rw[N1 a,N1 a]
 apply Ja
 apply Jc
 rw[StateT.run_pure]
 apply Ja
 apply Jc
 dsimp only
 apply Ja
 show seqEpoch_at f Z ?_
 let h:(arrOf (SortSt.mk' general' (vs.toArray.zip vs.toArray) #[] 7 none)).map (·.2)=vs.toArray:=by
  change(vs.toArray.zip vs.toArray).map (·.2)=vs.toArray
  rcases vs with _|⟨x,_|⟨y,r⟩⟩
  ·simp
  ·simp
  ·show absurd few (by simp)
 rw[h]
 apply Ja
 show listUpdate_at f Z ?_ (hsz2:=by rw[JD,NP];lia)
 simp only[bne_self_eq_false,Kq]
 show Jc d
theorem tm(g:s.heap.IsList l vs.toArray)(few:↑vs<2)(h:Q (.ref (~~~s+1)) {s with heap:=sortedAll s.heap vs vs.toArray}):
  Na (Nd prog w) A (call (.builtin "sorted") [.ref l]) Q E s:=by
 apply Calls.call_function_entry kind_sorted plain_sorted entry_sorted (args_sorted1 _)
 unfold Nc.«sorted»
 show Ja (m:=checkCount "sorted" 1 1 _) ?_
 apply Jc
 apply Ja
 show collect_list g ?_ (by rw[NP];lia)
 apply Ja
 show wpAny_newList ?_ (by rw[NP];lia)
 let z:((s.heap.push (O8 "list" #[] 0)).update (~~~s) (Nv.mapSeq (· ++vs.toArray))).objs.size= ~~~s+1:=(Ng.size_update ..).trans (size_push' ..)
 let a:(((s.heap.push (O8 "list" #[] 0)).update (~~~s) (Nv.mapSeq (· ++vs.toArray))).push (O8 "list" vs.toArray 0)).get? (~~~s+1)>O8 "list" vs.toArray 0:=z▸Jp _ Z
 change Na _ _ _ _ _ ({s with heap:=((s.heap.push (O8 "list" #[] 0)).update (~~~s) (Nv.mapSeq (· ++vs.toArray))).push (O8 "list" vs.toArray 0)}:N_)
 rw[z]
 apply Ja
 apply Jy
 show JN slot_list_sort ⟨_,a,Z⟩ entry_list_sort ?_ (args_list_sort _)
 show sg a few ⟨_,Z,?_⟩
 show Jc ⟨_,Z,h⟩
theorem qG:cJ X (.builtin "sorted") (λxs H Q=>∃(p:N8) (ys:-V),xs=[.ref p]/\aM X.K H p ys/\↑ys<2/\∀l,H l=none->Q (.ref l) (Oc H l (.lst ys))):=by
 intro O9 s σ H xs v Q I r h
 let⟨p,ys,rfl,hp,h2,q⟩:=h
 let⟨u,rfl,j⟩:=dZ r
 cases j
 let⟨c,d,i,n⟩:=I.list hp
 let w:=↑d
 show tm i.isList () ?_
 let⟨e,k⟩:=sortedAll_at s.heap c c.toArray
 let f:s.heap.get? (~~~s+1)=none:=Ku (Nat.le_succ _)
 show⟨.ref _,_,I.laidN (t':=s.toks) (a:= ~~~s+1) (o:=.lst ys) (λb u _ e=>sortedAll_old e) (λm hm=>?_) f ⟨n,c,e,d,k⟩,Z,q _ (I.hok.none_of f)⟩
 let⟨o,es,ep,g,r⟩:=hm
 show⟨o,es,ep,sortedAll_old g,r⟩
theorem jK {J:Type}{R:Hp->N8->J->Prop}{G:J->Prop}(Y:J)(key:J->-Int){T:N7}{b:Bool}(hT:(T==T)=true)(M:(T !=N7.type "tuple")=b)(hm:∀{H:Hp} {D x:N8} {c:J},H D=none->R H x c->R (Oc H D (.lst [])) x c)
  (hk:∀{O9:-(N8×Nv)} {σ:St} {H:Hp} {s:N_} {h':Ng},aG X O9 σ H s->(∀b u,b≠X.env.locals->s.heap.get? b>u->h'.get? b>u)->∀{as:-N8} {cs:-J},Nb (R H) as cs->(∀c∈cs,G c)->∃fs:-N7,K3 h' (as.map N7.ref) fs/\↑fs=↑as/\∀v∈fs,Ln (Nd X.prog X.w) h' (typeOf v) T)
  (hl:∀{O9:-(N8×Nv)} {σ:St} {H:Hp} {s:N_} {x y:N8} {c d:J} {C:Bool->N_->Prop},aG X O9 σ H s->R H x c->R H y d->G c->G d->C (HT.lexLt (key c) (key d)) s->Na (Nd X.prog X.w) X.A.in1.in1 (PyProof.Rows.keyLt' (PyProof.Rows.tuples' b) (.ref x) (.ref y)) C (λ_ _=>False) s):
  cJ X (.builtin "sorted") (λxs H Q=>∃(p:N8) (as:-N8) (cs:-J),xs=[.ref p]/\aM X.K H p (as.map V.ref)/\Nb (R H) as cs/\(∀c∈cs,G c)/\↑as<64/\
   ∀l bs ds,H l=none->Nb (R H) bs ds->ds.Perm cs->ds.Pairwise (λc d=>HT.lexLt (key d) (key c)=false)->Q (.ref l) (Oc H l (.lst (bs.map V.ref)))):=by
 intro O9 s σ H xs us Q I r h
 let⟨p,as,cs,rfl,hp,ht,k,w,q⟩:=h
 let o:↑as=↑cs:=Nb.length ht
 by_cases h2:↑as<2
 ·show qG O9 s σ H _ us Q I r ⟨p,_,Z,hp,by rw[Jb];lia,λl hl=>q l as cs hl ht (List.Perm.refl _) ?_⟩
  rcases cs with _|⟨c,_|⟨d,r⟩⟩
  ·show .nil
  ·show List.pairwise_singleton _ _
  ·show absurd o (by simp;lia)
 replace h2:2<=↑as:=by lia
 let⟨u,rfl,rx⟩:=dZ r
 cases rx
 let⟨F,rv,pl,hz⟩:=I.list hp
 cases eP rv
 let⟨m,g,_⟩:=id I.loc
 show PySem.W.kat_sorted (h₀:=Att.noObjs s.heap) (L:=X.env.locals) (m:=m) (news:=gO (Att.noObjs s.heap) s.heap X.env.locals) (Att.fr_all g) mj pl.isList (by simpa using h2) (by simpa using w) λD e1 h' F' N' hD=>?_
 let k0:∀b u,b≠X.env.locals->s.heap.get? b>u->h'.get? b>u:=λb u M e=>(N' (b,u) (JC _ (dA M (Att.noObjs_get _ _) e))).1
 let f:s.heap.get? D=none:=by
  cases e:s.heap.get? D with
  |none=>rfl
  |some u=>show absurd (hD (D,u) (dA (N' (D,_) JA).2.1 (Att.noObjs_get _ _) e)) (JU _)
 let I1:aG X O9 σ (Oc H D (.lst [])) {s with heap:=h',toks:=s.toks}:=by
  show I.laidN k0 (λm' U=>?_) f ⟨Ju _,[],_,.nil,(N' (D,_) JA).1⟩
  have:m'=m:=qm U g
  rw[this];show F'.ns
 let z:H D=none:=I.hok.none_of f
 let⟨fs,kt,E,A⟩:=hk I k0 ht k
 show PySem.W.kat_kind (s:={s with heap:=h'}) kt () A hT ?_
 rw[M]
 let B:↑(as.map N7.ref)=↑as:=Jb ..
 let⟨s1,Z0,s3⟩:=v5 (O:=sD) (key:=λi=>key (cs.getD i Y)) (N:=↑as) ()
 rw[B]
 show Ad (lt:=dX (O:=sD) λi=>key (cs.getD i Y)) (I:=λs'=>s'={s with heap:=h'}) (λi j C s' hi S hs hC=>?_) s1 Z λs' hs=>?_
 ·subst hs
  let⟨ci,e1,g1⟩:=gC ht (i:=i) (a:=as[i]) (by simp[hi])
  let⟨cj,e2,g2⟩:=gC ht (i:=j) (a:=as[j]) (by simp[S])
  let v1:(as.map N7.ref).getD i N7.none=.ref as[i]:=by simp[hi]
  let v2:(as.map N7.ref).getD j N7.none=.ref as[j]:=by simp[S]
  unfold PySem.W.kas_ask
  rw[v1,v2]
  have:=hC _ Z
  simp only[dX,JP,e1,e2,Lv] at this
  show hl I1 (hm z g1) (hm z g2) (k ci (Jl e1)) (k cj (Jl e2)) this
 ·subst hs
  show PySem.W.KasFin.intro (s:={s with heap:=h'}) F' N' (.head λp hp=>Jm (hD p hp)) λac c F2 N2=>?_
  let n:∀i∈(gf (dX (O:=sD) λi=>key (cs.getD i Y)) (Lw ↑as)).toList,i<↑as:=λi hi=>by
   have:=(L7.mp Z0).mem_iff.mp hi
   simpa using this
  generalize hE:gf (dX (O:=sD) λi=>key (cs.getD i Y)) (Lw ↑as)=P at Z0 s3 n N2
  let M:(P.toList.map λi=>(as.map N7.ref).getD i N7.none)=(P.toList.map λi=>as.getD i 0).map N7.ref:=by
   rw[JF]
   show K4 λi hi=>?_
   have:=n i hi
   simp[this]
  let I':aG X O9 σ (Oc H D (.lst ((P.toList.map λi=>as.getD i 0).map V.ref))) {s with heap:=ac,toks:=s.toks}:=by
   show I.laidN (λb u M e=>?_) (λm' U=>?_) f ?_
   ·show(N2 (b,u) (JC _ (dA M (Att.noObjs_get _ _) e))).1
   ·have:m'=m:=qm U g
    rw[this];show F2.ns
   ·let e:=(N2 (D,_) JA).1
    rw[M] at e
    show⟨?_,_,_,eY _,e⟩
    rw[Jb,Jb,J4,Z0.size]
    show Jt (JX w) (by decide)
  show⟨.ref D,_,I',Z,q D _ _ (I.hok.none_of f) (Nb.pick 0 Y ht _ n) (oC Y cs (by rw[<-o];show Z0)) ?_⟩
  rw[L8]
  intro i j hi S ad
  simp only[Jb,J4] at hi S
  have:=s3 i j (JX ad) (by rw[Z0.size] at S;show S)
  simp only[List.getElem_map,Array.getElem_toList]
  unfold kA at this
  simp only[Ko,Kb hi,Kb S,Lv] at this
  show this
theorem pG(F:aR k X.A):cJ X (.builtin "sorted") (λxs H Q=>∃(p:N8) (as:-N8) (cs:-(-Int)),xs=[.ref p]/\aM X.K H p (as.map V.ref)/\bG H as cs/\(∀c∈cs,c≠[])/\↑as<64/\
  ∀l bs ds,H l=none->bG H bs ds->ds.Perm cs->ds.Pairwise (λc d=>HT.lexLt d c=false)->Q (.ref l) (Oc H l (.lst (bs.map V.ref)))):=by
 show jK (R:=λH a c=>H a>.tup (c.map V.int)) (G:=(· ≠[])) [] (λc=>c) (T:=.type "int") Z Z (λB e=>by rw[aj (aq e B)];show e) (λI k as cs ht q=>?_) (fun{O9 σ H s x y c d C} I z u _ _ r=>?_)
 ·let⟨fs,h1,h2,D⟩:=sq I k ht q
  show⟨fs,h1,h2,λv hv=>by let⟨i,t,rfl⟩:=D v hv;show .now⟩
 ·let⟨_,o,f,J,m,_,L,g⟩:=(show bN X.prog X.w H s.heap x (.tup (c.map V.int)) from I.hok _ _ z)
  let⟨_,n,b,M,h,_,E,j⟩:=(show bN X.prog X.w H s.heap y (.tup (d.map V.int)) from I.hok _ _ u)
  let l1:=↑f
  let l2:=↑b
  rw[Jb] at l1 l2
  show PySem.W.kat_lt m g h j (iB o n c d 0 f b (by simp[l1,l2]) r)
abbrev cp (z:Nh):-Nat:=z.cps.toList
theorem ES (z:Nh):↑(cp z)=↑z:=by simp[Nh.length]
noncomputable def HX (z:Nh):It:=⟨λi _=>i<z.cps.size,λi H x H'=>H'=H/\∃c,(cp z)[i]?>c/\x=.str ⟨#[c]⟩,λi _=>z.cps.size<=i⟩
theorem E6{it:N8}{Q:Unit->N_->Prop}(a:Q Unit.unit s):Na M A (letOwnedTupleGo tg (.ref it) (.str x t)) Q E s:=by
 cases tg<;>show Jc a
theorem yp {P:Ni}{q:Nw}(z:Nh)(t:Tok)(it:N8):pR P w K q (HX z) [it] it (λi h=>h.IsStrIter it "str_ascii_iterator" z t i) where
 mem:=by simp
 obj:=λi h st b hb=>by
  let e:b=it:=by simpa using hb
  subst e
  let⟨o,e,c,d⟩:=st
  show⟨o,e,λv z=>by rw[d] at z;cases z⟩
 keep:=λi h h' st k=>by
  let⟨o,e,r⟩:=st
  show⟨o,k it (by simp) o e,r⟩
 item:=by
  intro X m j l f i O9 s σ H E I hf a hg
  subst m j l
  let W:=Walks.strAscii (prog:=X.prog) (w:=X.w) (I.ok.hd f) it z t
  show W.item i s _ _ hg a λv h' x hv g n=>?_
  let⟨c,u,A,rfl⟩:=hv
  let p:aG X O9 σ H {s with heap:=h',toks:=x}:=I.turned hf (λb o hb e=>n b o (by simpa using hb) e)
  show⟨_,Z,E6 ⟨.str ⟨#[c]⟩,H,p,⟨u,Z⟩,⟨Z,c,by rw[<-A];simp,Z⟩,g,λb hb=>(hf b hb).1⟩⟩
 done:=by
  intro X m j l f i O9 s σ H E I hf a hg
  show wpAny_pyNext_ascii_end (I.ok.hd f) a (by have:z.cps.size<=i:=hg;simp[this]) λh' y=>⟨Z,I.turned (t':=s.toks) hf (λb o hb e=>y b o hb e)⟩
 self:=λ_ _ _ _ _ st h=>wpAny_pyIter_striter_ascii st h
def Hq (a:TE):TI:=λσ H R=>a σ H λx H1=>∃z,x=.str z/\z.cps.all (· <128)=true/\R (HX z) H1
section
variable {tg:Nw}
theorem Ew(f:PE X l tl):PI X tg l (Hq tl):=by
 intro O9 s σ H R I h
 show cz (f O9 s σ H _ I h) λv s1 a=>?_
 let⟨x,H1,I1,c,d⟩:=a
 let⟨z,e,ha,q⟩:=d
 subst e
 let⟨t,rfl⟩:=c
 show wpAny_pyIter_ascii ha ?_
 show⟨~~~s1,[~~~s1],_,_,H1,Z,I1.kept (t':=s1.toks) λb o e=>Ji _ e,yp z t _,⟨_,Jp _ Z,Z,Z⟩,λb hb=>?_,q⟩
 let e:b= ~~~s1:=by simpa using hb
 subst e
 show I1.fpOk (Jd _) (I1.hok.fresh (Jd _))
theorem Ep{S:SV}(a:Nat->St->Hp->Prop)(h0:a 0 σ H)(d:∀i c σ H,(cp z)[i]?>c->a i σ H->S (a (i+1)) (.str ⟨#[c]⟩) σ H)(e:∀σ H,a ↑z σ H->F σ H):A9 (HX z) σ H S F:=by
 show jF ↑z a h0 (λi σ H hi p=>⟨hi,?_⟩) λσ H p=>⟨Jd _,e σ H p⟩
 rintro x _ ⟨rfl,c,b,rfl⟩
 show d i c σ _ b p
theorem oh {cs:-Bool}{us:-N7}(h:a8 (cs.map V.bl) us):us=cs.map N7.bool:=by
 induction cs generalizing us with
 |nil=>
  cases h
  rfl
 |cons c cs ih=>
  cases h with
  |cons r t=>rw[ih t];cases(show _=N7.bool _ from r);rfl
theorem wO (bs:-Bool):(List.range ↑bs).all (λi=>bs.getD i false)=bs.all id:=by
 let e:(List.range ↑bs).map (λi=>bs.getD i false)=bs:=by
  apply Lu
  intro i
  by_cases hi:i<↑bs
  ·simp[hi]
  ·simp[hi]
 conv=>rhs;rw[<-e]
 rw[List.all_map]
 rfl
theorem j_ (f:X.calm=true):cJ X (.builtin "all") (λxs H Q=>∃(p:N8) (bs:-Bool),xs=[.ref p]/\aM X.K H p (bs.map V.bl)/\Q (.bl (bs.all id)) H):=by
 intro O9 s σ H xs x Q I r h
 let⟨p,bs,rfl,hp,q⟩:=h
 let⟨u,rfl,l⟩:=dZ r
 cases l
 let⟨c,m,d,y⟩:=I.list hp
 cases oh m
 let j:(bs.map N7.bool).toArray.size=↑bs:=by simp
 show call_all_walk (Kw d.isList ?_)
 let a:p≠~~~s:=by
  let⟨o,g,_⟩:=d.isList
  show Jm (Jj g)
 show⟨~~~s,_,_,_,_,_,λi=>bs.getD i false,Z,Walks.list (A:=X.A.in1) (prog:=X.prog) (w:=X.w) (show X.A.in1.handled=none from I.ok.hd f) (~~~s) p a (bs.map N7.bool).toArray,⟨⟨_,Jp _ Z,Z,Z⟩,?_⟩,λi v s' Q' E' hv hq=>?_,λh' n k=>?_⟩
 ·show d.isList.at λo e=>Ji _ e
 ·let hi:(bs.map N7.bool).toArray[i]?>v:=hv
  rw[LN,Jn] at hi
  cases e:bs[i]? with
  |none=>rw[e] at hi;cases hi
  |some b=>
   rw[e] at hi
   cases hi
   show Kl ?_
   have:bs.getD i false=b:=by simp[JP,e]
   rw[<-this];show hq
 ·rw[j,wO]
  show⟨.bl _,H,I.kept (t':=n) λb o e=>k b o ?_ (Ji _ e),Z,q⟩
  intro hb
  have:b= ~~~s:=by simpa using hb
  show absurd (Jj e) (this<|JU _)
theorem dN(a:Gl X x)(h:∃u,X.mg x>u/\aY v u)(b:(x==("__debug__" :Nh))=false:=by decide):PE X (.Name x pos) (tC v):=by
 let⟨u,hm,r⟩:=h
 show wd a hm r b
end
section
variable {ta tb:TE} {x y:Nh} {a b:Bool}
theorem xm(b:Ev ta σ H (.str ⟨#[c]⟩))(a:Ev tb σ H (.str y)):Ev (gb (λx y H Q=>∃i j,x=.str i/\y=.str j/\Q (.bl (!(!(Nc.Str.occurrences j i 0 ↑j 1).isEmpty))) H) ta tb) σ H (.bl (!decide (c∈cp y))):=λQ q=>b _ (a _ ⟨_,y,Z,Z,PySem.StrLaws.found_one<|q⟩)
theorem zl(b:Ev ta σ H (.str ⟨#[c]⟩))(a:Ev tb σ H (.str y)):Ev (gb (λx y H Q=>∃i j,x=.str i/\y=.str j/\Q (.bl (!(Nc.Str.occurrences j i 0 ↑j 1).isEmpty)) H) ta tb) σ H (.bl (decide (c∈cp y))):=λQ q=>b _ (a _ ⟨_,y,Z,Z,PySem.StrLaws.found_one<|q⟩)
theorem ED(b:Ev ta σ H (.str x))(a:Ev tb σ H (.int i))(hz:↑x<=N9)(d:jH (cp x) i>c):Ev (gb FS ta tb) σ H (.str ⟨#[c]⟩):=λ_ q=>b _ (a _ ⟨x,i,c,Z,Z,hz,d,q⟩)
theorem Cd (a:Ev ta σ H (.str x))(hz:↑x<=N9):Ev (BI (λxs H Q=>∃x n,xs=[x]/\B_ K x H n/\Q (.int n) H) (bX ta fE)) σ H (.int (↑x:Nat)):=λ_ q=>a _ ⟨_,_,Z,⟨hz,Z⟩,q⟩
end
noncomputable def jl (c:Nat):-(-Nat)->-Nat
 |[]=>[]
 |[p]=>p
 |p::q::r=>p++c::jl c (q::r)
section
open AutoSeq1 (wpAny_loadPart')
theorem aG.turnedLaid {h':Ng}{t':Nat}{a:N8}{o:HO}{fp:-N8}(I:aG X O9 σ H s)(hf:∀b∈fp,jc X O9 H b)
  (k:∀b u,b∉fp->s.heap.get? b>u->h'.get? b>u) (g:s.heap.get? a=none) (new:bN X.prog X.w (Oc H a o) h' a o):aG X O9 σ (Oc H a o) {s with heap:=h',toks:=t'}:=by
 let d:H a=none:=I.hok.none_of g
 let yj:∀b u,H b>u->b∉fp:=λb u e z=>by rw[(hf b z).1] at e;cases e
 let f:∀b u,s.heap.get? b>u->b≠a:=λb u e z=>by rw[z,g] at e;cases e
 show I.step (g':=s.gens) (d':=s.drawn) (ch:=fp) (λb hb=>⟨(hf b hb).2.2.2.1,(hf b hb).2.1,(hf b hb).2.2.2.2.1,(hf b hb).2.2.2.2.2⟩) (λb u _ _ hc e _=>k b u hc e) (λb u _ _ hc e _=>⟨u.slots,k b u hc e⟩) (λb u _ e n=>by rw[aj (f b u e)];show n)
  (λb u hc e=>⟨u,k b u hc e⟩) (λb xs e=>by rw[aj (aq e d)];show e) (λb u xs e=>by rw[aj (aq e d)];show e) (λb ps e=>⟨#[],by rw[aj (aq e d),e];simp⟩) (λm hm=>?_) (λb u e=>?_) I.bare
 ·let⟨o',es,ep,h,r⟩:=hm
  show⟨o',es,ep,k _ o' (λz=>(hf _ z).2.1 Z) h,r⟩
 ·by_cases hb:b=a
  ·subst hb;rw[af] at e;cases e;show new
  ·rw[aj hb] at e
   show(I.hok b u e).stay (λc v hc q=>k c v ?_ q) (λc q=>by rw[aj (aq q d)];show q) λc xs q=>by rw[aj (aq q d)];show q
   rcases hc with rfl|hc
   ·show yj _ _ e
   ·show yj _ _ hc
theorem gZ {b:O2}{a:-Nw}{k:Nat}{t:C7}{n:Nat}(d:X.calm=true)(e:X.K=K)(h:EY X a t)
  (f:↑(NY a X.env)=n) (c:(NY a X.env).findIdx? (·.1)=none):PG X (.Tuple a k b) (ET K n t):=by subst e;show eJ d h f c
end
inductive Cs (A:Nu) (s:N_) (op:CmpOp):-N7->-N7->-(Bool×Bool)->Prop
 |nil:Cs A s op [] [] []
 |cons {v w:N7} {e b:Bool} {vs ws:-N7} {cs:-(Bool×Bool)} (he:SeqAt.EqAt A s v w e)
   (hb:e=false->∀(prog:Ni) (w':Nr) (E:N7->N_->Prop) (Q:N7->N_->Prop),Q (.bool b) s->Na (Nd prog w') A (NQ op v w) Q E s) (t:Cs A s op vs ws cs):Cs A s op (v::vs) (w::ws) ((e,b)::cs)
noncomputable def res:-(Bool×Bool)->Bool->Bool
 |[],z=>z
 |(true,_)::r,z=>res r z
 |(false,b)::_,_=>b
theorem Cs.len{cs:-(Bool×Bool)}(h:Cs A s op vs ws cs):↑vs=↑ws:=by
 induction h with
 |nil=>rfl
 |cons _ _ t ih=>rw[JY,JY,ih]
theorem BJ (i j:Int):(!decide (j<i))=decide (i<=j):=by
 by_cases h2:j<i
 ·rw[N3 h2,N5 ()];rfl
 ·rw[N5 h2,N3 ()];rfl
theorem Gh (A:Nu)(s:N_)(p:Int)(b:Tok)(a:Int)(t2:Tok):SeqAt.EqAt A s (.int p b) (.int a t2) (decide (p=a)):=by
 have:=SeqAt.EqAt.int_int (A:=A) (s:=s) p b a t2
 rw[show(p==a)=decide (p=a) from by simp[Bool.beq_eq_decide_eq]] at this
 show this
theorem j9 {b:Type}(f:b->Int)(c:Int):∀(l:-b),(l.map f).Nodup->↑(l.filter λx=>f x==c)<=1
 |[],_=>by simp
 |a::r,h=>by
  rw[Jq,JE] at h
  let d:=j9 f c r h.2
  by_cases e:f a=c
  ·let z:(r.filter λx=>f x==c)=[]:=by
    show List.filter_eq_nil_iff.mpr λx g q=>h.1 ?_
    rw[e]
    show Jh.mpr ⟨x,g,by simpa using q⟩
   rw[K5 (p:=λx=>f x==c) (by simpa using e),z]
   show Jd _
  ·rw[K6 (p:=λx=>f x==c) (by simpa using e)]
   show d
theorem xw{Q:Bool->N_->Prop}(a:s.TypeIs (.ref b) "tuple")(h:Q false s):Na (Nd prog w) A (Nc.Dict.quietEq (.ref b)) Q E s:=by
 show Ja (KN a F.slot_tuple_eq.lookup (Jc ?_))
 show h
theorem qW {id:String}{d:N8}{o:Nv}{c:Array NE}{l:Nat}{Q:Array NE->N_->Prop}(g:s.heap.get? d>o)(n:o.data=.dict c l)
  (i:∀e∈c,∃b,e.key=.ref b/\s.TypeIs (.ref b) "tuple") (p:(c.toList.map (·.hash)).Nodup) (h:Q c s):Na (Nd prog w) A (Nc.Dict.entriesForEmpty id d) Q E s:=by
 show Ja (JW g n (Ja ?_))
 rw[<-Array.forIn_toList]
 show wpAny_forIn_list _ (λdf _ s'=>s'=s/\∀e∈df,e∈c) _ ?_ ?_ _ _ ⟨Z,λe k=>Kx.mp k⟩
 ·rintro e df u s' ⟨rfl,a⟩
  let⟨b,j,m⟩:=i e (a e JA)
  rw[j]
  show Ja (xw m ?_)
  let one:¬GT.gt (c.filter (·.hash==e.hash)).size 1:=by
   have:=j9 (λx:NE=>x.hash) e.hash c.toList p
   rw[<-J4,Array.toList_filter]
   omega
  rw[N0 one]
  show Jc ⟨Z,λx f=>a x (JC _ f)⟩
 ·rintro u s' ⟨rfl,_⟩
  show Jc h
theorem xZ{nm:String}{Q:Unit->N_->Prop}(j:d≠o)(k:(o==NR)=false)
  (i:s.heap.get? d>od) (g:od.ExactDict) (a:od.data=.dict #[] ep') (h:s.heap.get? o>oo) (c:oo.data=.dict es ep)
  (l:∀e∈es,∃b,e.key=.ref b/\s.TypeIs (.ref b) "tuple") (q:(es.toList.map (·.hash)).Nodup) (hz:es.size<=N9)
  (m:∀h',(∃o' f,h'.get? d>o'/\o'.ExactDict/\o'.data=.dict es f)->Ng.SameBut d s.heap h'->Q Unit.unit {s with heap:=h'}):
  Na (Nd prog w) A (Nc.Dict.mergeDict nm d o) Q E s:=by
 unfold Nc.Dict.mergeDict
 rw[N0 (by simpa using j)]
 unfold Nc.Dict.showsAll
 rw[N0 (k<|Jw)]
 show Ja (Jc (Ja (JW h c ?_)))
 by_cases he:es= #[]
 ·subst he
  rw[N0 (by simp)]
  show Ja (KP h c (Ja (JW h c (Ja ?_))))
  rw[Std.Legacy.Range.forIn_eq_forIn_range']
  show Jc (Jc (m s.heap ⟨od,ep',i,g,a⟩ (Ng.SameBut.refl _ _)))
 ·let few:(decide (es.size<=8)&&es.all λe=>(keyPart e.key).isSome)=false:=by
   rw[Bool.and_eq_false_iff]
   show .inr (Bool.eq_false_iff.mpr λz=>he ?_)
   rw[<-Array.all_toList,JV] at z
   show Array.eq_empty_of_size_eq_zero (Nat.eq_zero_of_not_pos λn=>?_)
   let hm:es[0]∈es:=Ls n
   let⟨b,p,_⟩:=l _ hm
   let y:=z _ (Kx.mpr hm)
   rw[p] at y
   show absurd y Jw
  rw[few]
  show Ja (JW i a ?_)
  show Ja (qW h c l q ?_)
  rw[N1 (by simpa using he)]
  show Ja (wpAny_updateDictKeysTo i a (Jc (m _ ⟨_,ep'+1,Kg _ i (Nv.isFreed_of_dict (Nv.data_mapDictKeys a _)),g.mapDictKeys _,Nv.data_mapDictKeys a _⟩ (Ng.SameBut.update ..))) ())
theorem nJ(f:(o==NR)=false)(g:s.heap.get? o>oo)(i:oo.ExactDict)(k:oo.data=.dict es ep)
  (q:∀e∈es,∃b,e.key=.ref b/\s.TypeIs (.ref b) "tuple") (z:(es.toList.map (·.hash)).Nodup) (hz:es.size<=N9)
  (h:∀h',(∃o' d,h'.get? (~~~s)>o'/\o'.ExactDict/\o'.data=.dict es d)->(∀b u,s.heap.get? b>u->h'.get? b>u)->Q (.ref (~~~s)) {s with heap:=h'}):
  Na (Nd prog w) A (call (.type "dict") [.ref o]) Q E s:=by
 show callType_codes (Q₁:=λv c=>v=.ref (~~~s)/\c={s with heap:=s.heap.push {cls:=.type "dict",data:=.dict #[]}}) F.kt_called_dict (F.kt_typeCall_dict_1 _) F.entry_dict_init (kt_code_dict_new _ ⟨Z,Z⟩) ?_
 rintro v c ⟨rfl,rfl⟩
 let keep:∀b u,s.heap.get? b>u->(s.heap.push {cls:=.type "dict",data:=.dict #[]}).get? b>u:=λb u x=>Ji _ x
 let l:N_.TypeIs {s with heap:=s.heap.push {cls:=.type "dict",data:=.dict #[]}} (.ref (~~~s)) "dict" :=⟨_,Jp _ Z,Z⟩
 let j:N_.TypeIs {s with heap:=s.heap.push {cls:=.type "dict",data:=.dict #[]}} (.ref o) "dict" :=⟨oo,keep _ _ g,i.1⟩
 let a:o<~~~s:=Jj g
 show⟨l,F.args_dict_init_2 _ _,?_⟩
 show Ja ?_
 show Ja (KB l ?_)
 show Jc ?_
 change Na _ _ (Nc.Dict.updateFrom "dict.__init__" (~~~s) (.ref o) [] .none) _ _ _
 show Ja (K7 j ?_)
 show Ja ?_
 show Ja ?_
 show Ja (KC j isSubtype_dict_dict ?_)
 show Ja (KN j F.slot_dict_iter.lookup (Jc ?_))
 show xZ (Kv a) f (Jp _ Z) ⟨Z,Z,Z⟩ Z (keep _ _ g) k (λe y=>?_) z hz λh' new sb=>?_
 ·let⟨b,n,p,m,r⟩:=q e y
  show⟨b,n,p,keep _ _ m,r⟩
 ·show Ja (Jc (Jc ⟨Z,h h' new λb u x=>sb.extBut b u (Jm (Jj x)) (keep _ _ x)⟩))
def kR (P:Ni) (w:Nr) (a:-(-dh×V)):Prop:=(a.map λp=>Np (aU P w) p.1).Nodup
theorem KT.keys {a:-(-dh×V)}{xs:-(-dh×N8×N7)}(r:KT H a xs):a.map (·.1)=xs.map (·.1):=by
 induction r with
 |nil=>rfl
 |cons h _ ih=>rw[Jq,Jq,ih,h.1]
section
variable {a:N8}
theorem CI {j:-(-dh×V)}(I:aG X O9 σ H s)(e:Rd H a (.dT j))(u:kR X.prog X.w j)(h:∀p s',H p=none->aG X O9 σ (Oc H p (.dT j)) s'->Q (.ref p) s'):Na (Nd X.prog X.w) A (call (.type "dict") [.ref a]) Q E s:=by
 let⟨z,v,xs,c,o,es,ep,r,m,d,k,g,J⟩:=ic I.hok e
 let K:es.size=↑xs:=size_of_entries k
 let i:↑j=↑xs:=Nb.length c
 show nJ v r m d (λx F=>?_) ?_ () λh' new keep=>?_
 ·let hm:x∈xs.map (entryOfKey (Nm (aU X.prog X.w))):=k▸Kx.mpr F
  let⟨y,C,rfl⟩:=Jh.mp hm
  let⟨n,_,_,h1,h2,_⟩:=g y C
  show⟨y.2.1,Z,n,h1,h2⟩
 ·rw[k,JF]
  have:xs.map ((λx:NE=>x.hash)∘entryOfKey (Nm (aU X.prog X.w)))=j.map λp=>Np (aU X.prog X.w) p.1:=by
   let B:xs.map ((λx:NE=>x.hash)∘entryOfKey (Nm (aU X.prog X.w)))=(xs.map (·.1)).map (Np (aU X.prog X.w)):=by rw[JF];rfl
   rw[B,<-c.keys,JF];rfl
  rw[this];show u
 ·let⟨o',f,h1,h2,D⟩:=new
  let l:H (~~~s)=none:=I.hok.fresh (Jd _)
  show h _ _ l (I.laid (a:= ~~~s) (o:=.dT j) (t':=s.toks) keep (Jd _) ⟨z,beq_eq_false_iff_ne.mpr (Jr (Jm I.big)),xs,c.keeps λb ys q=>?_,o',es,f,h1,h2,D,k,J⟩)
  rw[aj (aq q l)];show q
end
noncomputable def DE (P:Ni) (w:Nr):-V->Hp->VK->Prop:=λxs H Q=>∃a,xs=[.ref a]/\
 (False\/∃b,Rd H a (.dT b)/\kR P w b/\∀p,H p=none->Q (.ref p) (Oc H p (.dT b)))
theorem gE:cJ X (.type "dict") (DE X.prog X.w):=by
 intro O9 s σ H xs f Q I r h
 let⟨a,rfl,h⟩:=h
 let⟨u,rfl,d⟩:=dZ r
 cases d
 let⟨b,e,c,q⟩:=h.resolve_left id
 show CI I e c λp s' hp I'=>⟨.ref p,_,I',Z,q p hp⟩
def jX:V->Bool
 | .flt _=>false
 | .byt _=>false
 |_=>true
theorem vQ(hf:jX v=true)(r:aY v u)(c:aY v u'):SeqAt.EqAt A s u u' true:=by
 cases v with
 |non=>cases(show u=N7.none from r);cases(show u'=N7.none from c);show SeqAt.EqAt.same _
 |bl b=>cases(show u=N7.bool b from r);cases(show u'=N7.bool b from c);show SeqAt.EqAt.same _
 |int i=>let⟨t,rfl⟩:=r;let⟨d,rfl⟩:=c;let h:=SeqAt.EqAt.int_int (A:=A) (s:=s) i t i d;rwa [beq_self_eq_true] at h
 |str x=>let⟨t,rfl⟩:=r;let⟨d,rfl⟩:=c;let h:=SeqAt.EqAt.str_str (A:=A) (s:=s) x t x d;simpa using h
 |byt b=>show absurd hf (by simp[jX])
 |flt b=>show absurd hf (by simp[jX])
 |ref a=>cases(show u=N7.ref a from r);cases(show u'=N7.ref a from c);show SeqAt.EqAt.same _
 |ty n=>cases(show u=N7.type n from r);cases(show u'=N7.type n from c);show SeqAt.EqAt.same _
def GT (K:Je) (H:Hp) (v a:V):Prop:=(v=a/\jX v=true)\/∃d e,Dp K H v d/\Dp K H a e/\d.depth<=60/\Nl.eqv d e=true
theorem GT.at(I:aG X O9 σ H s)(h:GT X.K H v v')(r:aY v u)(a:aY v' u')(g:A.units+60<NF):SeqAt.EqAt A s u u' true:=by
 rcases h with ⟨rfl,h⟩|⟨d,e,h1,h2,i,f⟩
 ·show vQ h r a
 ·let⟨as,c⟩:=h1.reads I r
  let⟨bs,b⟩:=h2.reads I a
  have:=SeqAt.eqAt_reads d e A s u u' as bs c b h1.lay h2.lay ()
  rwa [f] at this
inductive ie {K:Type} (A:Nu) (s:N_) (xb:-(K×N8×N7)):-(K×N8×N7)->Bool->Prop
 |nil:ie A s xb [] true
 |hit {k:K} {a:N8} {v:N7} {p:N8×N7} {r:-(K×N8×N7)} {e b:Bool}:(k,p)∈xb->SeqAt.EqAt A s v p.2 e->ie A s xb r b->ie A s xb ((k,a,v)::r) (e&&b)
theorem ie.inv {K:Type}{a:-(K×N8×N7)}{x:K×N8×N7}{r:-(K×N8×N7)}(h:ie A s a (x::r) c):∃(p:N8×N7) (e b:Bool),(x.1,p)∈a/\SeqAt.EqAt A s x.2.2 p.2 e/\ie A s a r b/\c=(e&&b):=by
 cases h with
 |hit hp he hr=>show⟨_,_,_,hp,he,hr,Z⟩
theorem ie.all {K:Type}{b a:-(K×N8×N7)}(h:∀x∈a,∃p,(x.1,p)∈b/\SeqAt.EqAt A s x.2.2 p.2 true):ie A s b a true:=by
 induction a with
 |nil=>show .nil
 |cons x r ih=>
  let⟨_,h1,h2⟩:=h _ JA
  show .hit (e:=true) h1 h2 (ih λx c=>h x (JC _ c))
section
variable {K:Type} [DecidableEq K] {knd:HeapKind prog w K}
theorem nV{nm:String}{O P:-(K×N8×N7)}{Q:Bool->N_->Prop}(hu:knd.room A)(ha:(a==NR)=false)(X:(b==NR)=false)
  (Z0:s.heap.DictOfH knd a O) (Y:s.heap.DictOfH knd b P) (T:↑O=↑P->ie A s P O r) (h:Q (↑O==↑P&&r) s):
  Na (Nd prog w) A (Nc.Dict.samePairs nm a b) Q E s:=by
 let⟨oa,es,ep,d,_,f,v,F,N⟩:=Z0
 let⟨ob,z,M,m,_,l,o,H,C⟩:=Y
 let k:es.size=↑O:=size_of_entries v
 let B:z.size=↑P:=size_of_entries o
 unfold Nc.Dict.samePairs Nc.Dict.showsAll
 rw[N0 (show¬(a==NR)=true by rw[ha];show Jw),N0 (show¬(b==NR)=true by rw[X];show Jw)]
 show Ja (Jc (Ja (Jc (Ja (JW d f ?_)))))
 dsimp only
 show Ja (JW m l ?_)
 by_cases hsz:es.size=z.size
 case neg=>
  rw[N1 (by simpa using hsz)]
  let J:(↑O==↑P)=false:=by rw[<-k,<-B];simpa using hsz
  rw[J,Bool.false_and] at h
  show Ja (KQ (Jc h))
 case pos=>
  let D:↑O=↑P:=by rw[<-k,<-B];show hsz
  let h':Q r s:=by rw[D] at h;simpa using h
  let u:=T D
  rw[N0 (by rw[hsz];simp)]
  show Ja (KP d f (Ja ?_))
  rw[Std.Legacy.Range.forIn_eq_forIn_range']
  simp only[Std.Legacy.Range.size,Nat.sub_zero,Nat.add_sub_cancel,Nat.div_one]
  show wpAny_forIn_list _ (λdf q s'=>s'=s/\q=(none,Unit.unit)/\∃i,df=List.range' i (es.size - i)/\i<=es.size/\ie A s P (O.drop i) r) _ ?_ ?_ _ _ ⟨Z,Z,0,by simp,Ju _,u⟩
  ·rintro x df q s' ⟨rfl,rfl,i,hr,hi,c⟩
   let I:i<es.size:=by
    rcases Nat.lt_or_ge i es.size with h|h
    ·show h
    ·rw[Nat.sub_eq_zero_of_le h] at hr;simp at hr
   obtain⟨rfl,R⟩:x=i/\df=List.range' (i+1) (es.size - (i+1)):=by
    let e:es.size - i=(es.size - (i+1))+1:=by lia
    rw[e,List.range'_succ] at hr
    injection hr with h1 h2
    show⟨h1,h2⟩
   let g:x<↑O:=by lia
   show Ja (JW d f ?_)
   rw[entry_at v x,JI g]
   rw[List.drop_eq_getElem_cons g] at c
   let⟨p,e,b',hp,he,y,U⟩:=c.inv
   let hk:knd.is s'.heap O[x].1 O[x].2.1:=F _ (List.getElem_mem g)
   change Na _ _ (holding _ _>>=_) _ _ _
   show Ja (Jy (Ja ?_))
   show wpAny_dictFind_heap (a:=O[x].2.1) hu hk m l o H C (λno=>?_) λj p' S=>?_
   ·let⟨j,S⟩:=List.getElem?_of_mem hp
    show absurd S (no j p)
   ·let⟨j',n⟩:=List.getElem?_of_mem hp
    let W:j=j':=idxH_unique C S n
    rw[W,n] at S
    obtain rfl:p=p':=by cases S;rfl
    rw[W]
    show Ja (JW m l ?_)
    rw[entry_at o j',n]
    show Jy (he prog w _ _ ?_)
    cases e with
    |false=>
     rw[U,Bool.false_and] at h'
     change Na _ _ (if (!false)=true then _ else _) _ _ _
     rw[N1 (by decide)]
     show Jc (Jc h')
    |true=>
     rw[Bool.true_and] at U
     rw[<-U] at y
     change Na _ _ (if (!true)=true then _ else _) _ _ _
     rw[N0 (by decide)]
     show Ja (KP d f ?_)
     rw[N0 (by simp)]
     show Jc ⟨Z,Z,x+1,R,I,y⟩
  ·rintro q s' ⟨rfl,rfl,i,hr,hi,c⟩
   let L:i=es.size:=by
    rcases Nat.lt_or_ge i es.size with h|h
    ·let e:es.size - i=(es.size - (i+1))+1:=by lia
     rw[e,List.range'_succ] at hr;cases hr
    ·show Nat.le_antisymm hi h
   rw[L,k,List.drop_length] at c
   cases c
   show Jc h'
theorem E4{g f:-(K×N8×N7)}(l:knd.room A.in1)(i:A.units<NF)(k:(a==NR)=false)(j:(b==NR)=false)
  (d:s.heap.DictOfH knd a g) (e:s.heap.DictOfH knd b f) (m:↑g=↑f) (c:∀x∈g,∃p,(x.1,p)∈f/\SeqAt.EqAt A.in1 s x.2.2 p.2 true) (h:Q (.bool true) s):
  Na (Nd prog w) A (Nk .Eq (.ref a) (.ref b)) Q E s:=by
 show wpAny_richCompare_same_room (op:=.Eq) d.typeIs e.typeIs PySem.F.slot_dict_eq (JN PySem.F.slot_dict_eq d.typeIs PySem.F.entry_dict_eq ?_ (PySem.F.args_dict_eq_2 _ _)) i
 change Na _ _ (Nc.Dict.dictSlotArgs "__eq__" ⟨[.ref a,.ref b],[]⟩>>=_) _ _ s
 show Ja ?_
 unfold Nc.Dict.dictSlotArgs
 show Ja (KB d.typeIs ?_)
 change Na _ _ (pure (N7.ref a,N7.ref b)) _ _ s
 show Jc (Ja (KC (T:= "dict") e.typeIs PySem.F.sub_dict_dict ?_))
 simp only[Bool.not_true,Kq,if_false]
 show Ja (Jc (Ja (Jc (Ja (nV l k j d e (λ_=> .all c) ?_)))))
 rw[m,beq_self_eq_true,Bool.true_and]
 show Jc ⟨_,Z,(λx=>by cases x),h⟩
end
theorem zu {a:Type} [DecidableEq a]{kvs:-(a×V)}{k:a}{v:V}(h:bg kvs k>v):(k,v)∈kvs:=by
 unfold bg at h
 let⟨p,hp,rfl⟩:=JH.mp h
 have:=List.find?_some hp
 let e:p.1=k:=N4 this
 rw[<-e]
 show L9 hp
theorem qY {b a:Type}{R:b->a->Prop}{xs:-b}{ys:-a}(g:Nb R xs ys):∀y∈ys,∃x∈xs,R x y:=by
 induction g with
 |nil=>show λ_ h=>by cases h
 |cons r t ih=>
  intro q h
  rcases Jk.mp h with rfl|h
  ·show⟨_,JA,r⟩
  ·let⟨x,c,q⟩:=ih q h
   show⟨x,JC _ c,q⟩
theorem xF {b a:Type}{R:b->a->Prop}{xs:-b}{ys:-a}(g:Nb R xs ys):∀x∈xs,∃y∈ys,R x y:=by
 induction g with
 |nil=>show λ_ h=>by cases h
 |cons r t ih=>
  intro q h
  rcases Jk.mp h with rfl|h
  ·show⟨_,JA,r⟩
  ·let⟨x,c,q⟩:=ih q h
   show⟨x,JC _ c,q⟩
theorem yH {b kb:-(-dh×V)}{a vb:-(-dh×N8×N7)}(I:aG X O9 σ H s)(i:KT H b a)(l:KT H kb vb)(j:A.units+60<NF)
  (h:∀p∈b,∃v,bg kb p.1>v/\GT X.K H p.2 v):∀x∈a,∃p,(x.1,p)∈vb/\SeqAt.EqAt A s x.2.2 p.2 true:=by
 intro x m
 let⟨p,hp,f,_,e⟩:=qY i x m
 let⟨v,hv,k⟩:=h p hp
 let⟨y,g,d,_,c⟩:=xF l _ (zu hv)
 show⟨y.2,?_,k.at I e c j⟩
 rw[<-f,show p.1=y.1 from d]
 show g
theorem xH:NX (.type "list_reverseiterator") "__len__" =pure none:=by rw[NM,ND];kernel_rfl
theorem A0:NX (.type "list_reverseiterator") "__length_hint__" =pure (some (.builtin "list_reverseiterator.__length_hint__")):=by rw[NM,ND];kernel_rfl
section
variable {I:N8} {fp wr:-N8} {G:Array NU->Array NU->Prop} {n:Nat} {P:Nat->N7->Prop} {St:Nat->N_->Prop}
theorem uy(W:WalksS prog w A.in1 I fp wr G n P St)(m:∀i s,St i s->s.TypeIs (.ref I) "list_reverseiterator")(S:N8)(res:N7)(h:Nat)(d:St 0 s)(l:S∉fp)(x:I∈fp)
  (u:s.heap.get? S=some {cls:=.type "list",data:=.seq #[] h}) (v:n<=N9)
  (r:∀s' c g,Moved (S::wr) G s s'->s'.heap.get? S=some {cls:=.type "list",dict:=none,data:=.seq c g,slots:= #[]}->ItemsOf P c n->R (.ok (.ret res)) s'):
  Na (Nd prog w) A.in1 (Nc.List.listExtendWith (.ref S) (.ref I) res)
   (λq s'=>match q with| .done f=>R (.ok f) s'| .again g=>g.quiet=true/\NL (Nd prog w) A g R s') (λe s'=>R (.error e) s') s:=by
 let a:S≠I:=λe=>l (e▸x)
 unfold Nc.List.listExtendWith
 show Ja (K7 (m 0 _ d) ?_)
 let h1:Nc.List.listSameRef (.ref S) (.ref I)=false:=by simp[Nc.List.listSameRef,a]
 rw[N0 (by rw[h1];decide)]
 show Ja (W.self 0 _ _ _ d (Ja (Jy ?_)))
 unfold Nc.List.listLengthHint
 show Ja (KN (m 0 _ d) xH ?_)
 change Na _ A.in1 (specialOf (N7.ref I) (Nh.ofString "__length_hint__")>>=_) _ _ _
 show Ja (KN (m 0 _ d) A0 ?_)
 generalize k:("list_reverseiterator.__length_hint__" :String)=o
 wp_delta
 rw[show splitId o>("list_reverseiterator", "__length_hint__") from by subst k;decide+kernel]
 subst k
 show Ja (KC (b:=true) (m 0 _ d) (by rw[isSubtype_type];kernel_rfl) (Jc ?_))
 rw[N0 (by decide)]
 show Jc ⟨Ny F.plain_extend_loop _,codeAny_extend_loopS W v _ l _ n 0 _ _ _ Z (Ju _) d u (ItemsOf.nil P) λs' c g hm p j=>r s' c g hm p j⟩
theorem nq(W:WalksS prog w A.in1.in1 I fp wr G n P St)(B:∀i s,St i s->s.TypeIs (.ref I) "list_reverseiterator")(p:St 0 s)(q:∀b∈fp,b<~~~s)(C:I∈fp)(y:n<=N9)
  (z:∀s' g x,Moved (~~~s::wr) G {s with heap:=s.heap.push {cls:=.type "list",data:=.seq #[]}} s'->
   s'.heap.get? (~~~s)=some {cls:=.type "list",dict:=none,data:=.seq g x,slots:= #[]}->ItemsOf P g n->Q (.ref (~~~s)) s'):
  Na (Nd prog w) A (call (.type "list") [.ref I]) Q E s:=by
 let c: ~~~s∉fp:=λhm=>JU _ (q _ hm)
 show callType_codes (Q₁:=λv j=>v=.ref (~~~s)/\j={s with heap:=s.heap.push {cls:=.type "list",data:=.seq #[]}}) F.called_list (F.typeCall_list_1 _) F.entry_list_init
  (code_list_new _ ⟨Z,Z⟩) λv j k=>?_
 let⟨rfl,rfl⟩:=k
 let m:(s.heap.push {cls:=.type "list",data:=.seq #[]}).get? (~~~s)=some {cls:=.type "list",data:=.seq #[]}:=Jp _ Z
 show⟨⟨_,m,Z⟩,F.args_list_init_2 _ _,?_⟩
 let d:=W.frame 0 s _ s.toks p (Jd _) λb _ o e=>Ji {cls:=.type "list",data:=.seq #[]} e
 change Na _ A.in1.in1 (do let u<-Nc.List.listItems (.ref (~~~s));Nc.List.listUpdate (.ref (~~~s)) (λ_=> #[]);letGo u.toList.reverse;Nc.List.listExtendWith (.ref (~~~s)) (.ref I) .none) _ _ _
 show Ja ?_
 unfold Nc.List.listItems
 show Ja (KD m Z (Jc ?_))
 change Na _ A.in1.in1 (updateSeq (~~~s) (λ_=> #[])>>=λ_=>letGo (#[]:Array N7).toList.reverse>>=λ_=>Nc.List.listExtendWith (.ref (~~~s)) (.ref I) .none) _ _ _
 show Ja (wpAny_updateSeq m Z ?_)
 let f:=Kg (Nv.mapSeq (λ_=>(#[]:Array N7))) m Z
 let a:∀b o,b≠~~~s->(s.heap.push {cls:=.type "list",data:=.seq #[]}).get? b>o->((s.heap.push {cls:=.type "list",data:=.seq #[]}).update (~~~s) (Nv.mapSeq (λ_=>(#[]:Array N7)))).get? b>o:=
  λb o hb e=>(Ng.get?_update_other _ _ (Jr hb)).trans e
 show Ja (wpAny_letGo ?_)
 show uy W B _ .none _ (W.frame 0 _ _ s.toks d (Jd _) λb hb o e=>a b o (λh=>c (h▸hb)) e) c C f y λs' g x hm r l=>?_
 show⟨Z,z s' g x (Moved.trans W.gtrans ((Moved.refl W.grefl).then_heap (Jd _) λb o hb e=>a b o (λh=>hb (h▸JA)) e) hm) r l⟩
end
def yA (K:Je) (te:TE):TE:=λσ H Q=>te σ H λx H1=>∃l ys,x=.ref l/\aM K H1 l ys/\∀p,H1 p=none->Q (.ref p) (Oc H1 p (.lst ys.reverse))
theorem tI(R:X.calm=true)(T:Gl X "list")(hm:X.mg "list" =none)(D:Gl X "reversed")(E:X.mg "reversed" =none)(U:PE X e te)
  (N:Nf [Nw.Call (.Name "reversed" p2) [e] [] pos2] X.env=[(false,eval (.Call (.Name "reversed" p2) [e] [] pos2) X.env)]:=by rfl) (C:Nf [e] X.env=[(false,eval e X.env)]:=by rfl):
  PE X (.Call (.Name "list" p1) [.Call (.Name "reversed" p2) [e] [] pos2] [] pos1) (yA X.K te):=by
 intro O9 s σ H Q I h
 show KM (iJ I T hm vo ?_ (by decide) (by decide))
 show PyProof.Rows.callWith_type1 ?_ N Z
 rw[N]
 change Na _ _ (spliced [(false,eval (.Call (.Name "reversed" p2) [e] [] pos2) X.env)]) _ _ s
 show Calls.spliced_cons ?_
 show KM (iJ I D E rD ?_ (by decide) (by decide))
 show PyProof.Rows.callWith_type1 ?_ C Z
 rw[C]
 change Na _ _ (spliced [(false,eval e X.env)]) _ _ s
 show Calls.spliced_cons (cz (U O9 s σ H _ I h) λu s1 F=>?_)
 let⟨x,H1,I1,Y,l,ys,ex,hq,q⟩:=F
 show Calls.spliced_nil ?_
 subst ex
 cases(show u=N7.ref l from Y)
 let⟨d,O,L,P⟩:=I1.list hq
 let k:l<~~~s1:=by let⟨o,S,_⟩:=L.isList;show Jj S
 show call_reversed_list L.isList (Calls.spliced_nil ?_)
 let kp:∀b o,s1.heap.get? b>o->(s1.heap.push (revObj l ((d.toArray.size:Int) - 1))).get? b>o:=λb o z=>Ji _ z
 let I2:=I1.kept (t':=s1.toks) kp
 let Z0:(s1.heap.push (revObj l ((d.toArray.size:Int) - 1))).IsRevIter (~~~s1) l ((d.toArray.size:Int) - 1):=⟨_,Jp _ Z,Z,Z⟩
 let p:(s1.heap.push (revObj l ((d.toArray.size:Int) - 1))).IsList l d.toArray:=L.isList.at λo z=>kp _ _ z
 let W:=(Walks.listRev (prog:=X.prog) (w:=X.w) (A:=X.A.in1.in1) (I1.ok.hd R) (~~~s1) l (Jm k) d.toArray).toS
 let f:(s1.heap.push (revObj l ((d.toArray.size:Int) - 1))).objs.size= ~~~s1+1:=Kc ..
 let r:d.toArray.size<=N9:=by rw[JD,<-↑O];show P
 show nq W (λi s' st=>st.2.1.typeIs) ⟨Ju _,by simpa using Z0,p⟩ (λb hb=>?_) (by simp) r λs' v c B hS ⟨y,M⟩=>?_
 ·change b<(s1.heap.push _).objs.size
  rw[f]
  rcases Jk.mp hb with rfl|hb
  ·show J9 _
  ·rw[Jg.mp hb];show K2 k
 ·let es:=Moved.eq_with B
  let m:H1 (~~~s1+1)=none:=I1.hok.fresh (Nat.le_succ _)
  let hv:a8 ys.reverse v.toList:=by
   let e:v.toList=d.reverse:=by
    show Lu λj=>?_
    rcases Nat.lt_or_ge j ↑d with hj|hj
    ·let g:j<v.size:=by rw[y];simpa using hj
     have:=M j v[j] (Kb g)
     rw[List.getElem?_reverse hj,Array.getElem?_toList,Kb g,<-this]
     simp
    ·rw[LO (by rw[J4,y];simpa using hj),LO (by simpa using hj)]
   rw[e];show O.reverse
  let n:s'.heap.get? (~~~s1+1)=some {cls:=.type "list",dict:=none,data:=.seq v c,slots:= #[]}:=by rw[<-f];show hS
  let J:=aG.turnedLaid (a:= ~~~s1+1) (o:=.lst ys.reverse) (h':=s'.heap) (t':=s'.toks) (fp:=[~~~s1]) I2 (λb hb=>?_) (λb o hb z=>?_) (Ku (by change(s1.heap.push _).objs.size<=_;rw[f];show Jd _))
   (show bN X.prog X.w _ s'.heap _ (.lst ys.reverse) from⟨List.length_reverse<|P,v.toList,c,hv,by simpa using n⟩)
  ·rw[es]
   show⟨.ref (~~~s1+1),_,J,?_,q _ m⟩
   change N7.ref (s1.heap.push _).objs.size=_
   rw[f]
  ·rw[Jg.mp hb];show I1.fpOk (Jd _) (I1.hok.fresh (Jd _))
  ·show B.heap b o (λhx=>?_) (Ji _ z)
   rcases Jk.mp hx with e|hx
   ·have:=Jj z;rw[e] at this;show JU _ this
   ·show hb hx
theorem aR.one(r:aR k A):A.units+1<NF:=by have:=r.un;lia
theorem eF(c:Ev td σ H (.ref a))(b:Ev ty σ H y)(g:gx H a y (some v)):Ev (qZ td ty) σ H v:=λ_ q=>c _ (b _ ⟨a,v,Z,g,q⟩)
section
variable {d:N8} {u:HO} {o:Nv}
theorem bN.upd(ok:bN P w H h b x)(a:∀xs,H d≠some (.tup xs))(e:∀y,H d≠some (.own y)):bN P w (L2.Oc H d v) h b x:=
 ok.stay (λ_ _ _ q=>q) (λc q=>by rw[aj (λz=>by rw[z] at q;show e _ q)];show q) λc xs q=>by rw[aj (λz=>by rw[z] at q;show a _ q)];show q
theorem aG.freeze (I:aG X O9 σ H s)(e:H d>u)(f:Bm (some u)):∃o,aG X O9 σ (Oc H d (.frz o u)) s/\s.heap.get? d>o:=by
 let ok:=I.hok d u e
 let⟨o,c⟩:=ok.there
 let a:Bm (H d):=e<|f
 show⟨o,I.write (t':=s.toks) (h':=s.heap) (x:=d) (e:=d) (o:=.frz o u) a (.inl Z) (λb v _ q=>q) ⟨o,c⟩ ⟨c,?_⟩,c⟩
 show ok.upd (λxs z=>by rw[z] at a;show a) (λy z=>by rw[z] at a;show a)
theorem aG.thaw (I:aG X O9 σ H s)(e:H d>.frz o u)(j:∀o' h,X.H₀ d≠some (.frz o' h)):aG X O9 σ (Oc H d u) s:=by
 let a:∀b,H b=none->b≠d:=λb n z=>by rw[z,e] at n;cases n
 let f:∀xs,H d≠some (.tup xs):=λxs z=>by rw[e] at z;cases z
 let g:∀y,H d≠some (.own y):=λy z=>by rw[e] at z;cases z
 let B:=I.Oa
 show⟨I.ok,I.os,I.bare,⟨B.keep,B.slot,λb v q n k=>?_,B.there,λb xs q=>?_,λb v w q=>?_,λb ps q=>?_⟩,I.loc,I.cell,?_,λx c q=>?_,λp hp=>?_,λb v q=>?_,I.len⟩
 ·have:=B.free b v q n k
  rw[aj (a b this)];show this
 ·have:=B.tups b xs q
  rw[aj (λz=>by rw[z] at this;show f _ this)];show this
 ·have:=B.frzs b v w q
  rw[aj (λz=>by rw[z] at q;show j _ _ q)];show this
 ·let⟨more,this⟩:=B.tbls b ps q
  show⟨more,aj (λz=>by rw[z,e] at this;cases this)<|this⟩
 ·rw[aj (a _ I.free)];show I.free
 ·rw[aj (a _ (I.freeC x c q))];show I.freeC x c q
 ·let⟨h1,h2,i⟩:=I.pin p hp
  show⟨h1,aj (a _ h2)<|h2,i⟩
 ·by_cases hb:b=d
  ·subst hb
   rw[af] at q;cases q
   let⟨_,z⟩:=I.hok b _ e
   show z.upd f g
  ·rw[aj hb] at q
   show(I.hok b v q).upd f g
end
noncomputable def GX (D:jf) (d:N8) (o:Nv) (u:HO):jf:=
 ⟨λa H1=>H1 d>.frz o u/\D.nx a (Oc H1 d u),λv H1=>H1 d>.frz o u/\D.rt v (Oc H1 d u),λa H1=>H1 d>.frz o u/\D.bk a (Oc H1 d u),λa H1=>H1 d>.frz o u/\D.ct a (Oc H1 d u)⟩
def Hk (t:TS):TS:=λD σ H=>∃d u,H d>u/\Bm (some u)/\∀o,t (GX D d o u) σ (Oc H d (.frz o u))
theorem iE(h:PS X a t):PS X a (Hk t):=by
 intro O9 s σ H D I ht
 let⟨d,u,e,j,q⟩:=ht
 let g:∀o' i,X.H₀ d≠some (.frz o' i):=λo' i z=>by
  have:=I.Oa.frzs d o' i z
  rw[e] at this;cases this;show j
 let⟨o,I1,_⟩:=I.freeze e j
 show cz (h O9 s σ _ _ I1 (q o)) λf s' hf=>?_
 cases f with
 |next=>let⟨b,H',I',c,k⟩:=hf;show⟨b,_,I'.thaw c g,k⟩
 |brk=>let⟨b,H',I',c,k⟩:=hf;show⟨b,_,I'.thaw c g,k⟩
 |cont=>let⟨b,H',I',c,k⟩:=hf;show⟨b,_,I'.thaw c g,k⟩
 |ret v=>let⟨x,b,H',I',r,c,k⟩:=hf;show⟨x,b,_,I'.thaw c g,r,k⟩
def Fy (te:TE):TE:=λσ H Q=>∃d u,H d>u/\Bm (some u)/\∀o,te σ (Oc H d (.frz o u)) λv H'=>H' d>.frz o u/\Q v (Oc H' d u)
theorem uL(h:PE X a te):PE X a (Fy te):=by
 intro O9 s σ H Q I ht
 let⟨d,u,e,f,q⟩:=ht
 let i:∀o' b,X.H₀ d≠some (.frz o' b):=λo' b z=>by
  have:=I.Oa.frzs d o' b z
  rw[e] at this;cases this;show f
 let⟨o,I1,_⟩:=I.freeze e f
 show cz (h O9 s σ _ _ I1 (q o)) λv s' c=>by let⟨x,H',I',r,g,k⟩:=c;show⟨x,_,I'.thaw g i,r,k⟩
def nU:HO->Nat
 | .dT kvs=>↑kvs
 |_=>0
def qT:HO->Prop
 | .dT _=>True
 |_=>False
noncomputable def rW (H:Hp):HO->Nat->V->V->Prop
 | .dT kvs,i,x,v=>∃k b,kvs[i]?>(k,v)/\x=.ref b/\H b>.tup (k.map kV)
 |_,_,_,_=>False
theorem mB {c b:Type}{R:c->b->Prop}{xs:-c}{ys:-b}(h:Nb R xs ys)(i:Nat)(a:i<↑ys):∃x,xs[i]?>x/\R x ys[i]:=by
 induction h generalizing i with
 |nil=>show absurd a (K1 _)
 |cons r t ih=>
  cases i with
  |zero=>show⟨_,Z,r⟩
  |succ i=>
   let⟨x,h1,h2⟩:=ih i (by simpa using a)
   show⟨x,by simpa using h1,by simpa using h2⟩
theorem iL(ok:iu P w H h)(e:H d>.frz o u)(m:qT u):(d==NR)=false/\h.get? d>o/\o.ExactDict/\
  ∃es ep,o.data=.dict es ep/\es.size=nU u/\∀i (hi:i<es.size),∃x v,rW H u i x v/\aY x es[i].key/\aY v es[i].val:=by
 let⟨b,k⟩:=ok d _ e
 cases u with
 |dT kvs=>
  let⟨z,hs,xs,a,o',es,ep,h1,h2,l,f,r⟩:=k
  rw[b] at h1;cases h1
  let n:es.size=↑xs:=size_of_entries f
  show⟨hs,b,h2,es,ep,l,by rw[n,<-Nb.length a];rfl,λi hi=>?_⟩
  let⟨p,hp,q,g,j⟩:=mB a i (by omega)
  let c:es[i]=entryOfKey (Nm (aU P w)) xs[i]:=by
   have:=entry_at f i
   rw[JI (by omega),Kb hi] at this
   show Option.some.inj this
  show⟨.ref xs[i].2.1,p.2,⟨p.1,_,hp,Z,g⟩,?_,?_⟩
  ·rw[c];rfl
  ·rw[c];show j
 |_=>show m.elim
section
variable {d it:N8} {o:Nv} {es:Array NE} {i ep:Nat}
theorem vP(g:(d==NR)=false)(c:s.heap.get? d>o)(e:o.ExactDict)(a:o.data=.dict es ep)
  (f:Q (.ref (~~~s)) {s with heap:=s.heap.push {cls:=.type "dict_keyiterator",data:=.fields #[.ref d,.int 0 0,.int es.size 0,.int ep 0]}}):Na (Nd prog w) A (pyIter (.ref d)) Q E s:=by
 let b:s.TypeIs (.ref d) "dict" :=⟨o,c,e.1⟩
 show wpAny_pyIter_slot b F.slot_dict_iter (JN F.slot_dict_iter b F.entry_dict_iter ?_ (F.args_dict_iter_1 _))
 show Ja (Ja (KB b ?_))
 show Jc ?_
 change Na _ _ (Nc.Dict.showsAll d>>=_) _ _ s
 unfold Nc.Dict.showsAll
 rw[N0 (g<|Jw)]
 show Ja (Jc (Ja (JW c a (Ja (KP c a ?_)))))
 show Ja (Kj (Jc ⟨_,Z, "dict_keyiterator",_,⟨_,Jp _ Z,Z⟩,F.slot_dict_keyiterator_next.lookup,?_⟩))
 simpa[NJ] using f
theorem vf(hit:s.heap.IsKeyIter it d i es.size ep)(b:s.heap.get? d>o)(a:o.data=.dict es ep)(h:i<es.size)
  (f:∀h',h'.IsKeyIter it d (i+1) es.size ep->Ng.SameBut it s.heap h'->Q (some es[i].key) {s with heap:=h'}):Na (Nd prog w) A (NH (.ref it)) Q E s:=by
 let⟨j,e,g,c⟩:=id hit
 show Ja (KR (KF (name:=Nh.ofString "__next__") hit.typeIs F.slot_dict_keyiterator_next
  (JN F.slot_dict_keyiterator_next hit.typeIs F.entry_dict_keyiterator_next ?_ (F.args_dict_keyiterator_next_1 _))))
 show Ja (Jc (Ja (Ja ?_)))
 show Ja (LP hit.typeIs (Jc ?_))
 show Ja (wpAny_fieldsOf e c ?_)
 change Na _ _ (if (N7.ref d==N7.none)=true then _ else _) _ _ s
 show Ja (Jc (Ja (JW b a ?_)))
 rw[N0 (by simp)]
 show Ja (Jc (Ja (KP b a ?_)))
 rw[N0 (by simp)]
 show Jc ?_
 simp only[show¬((i:Int)<0) from by lia,if_false,Kn,Kb h]
 show Ja ?_
 show Ja (LP hit.typeIs (Jc ?_))
 show Ja (wpAny_isOneOf_keyiter hit.typeIs ?_)
 change Na _ _ (setField (.ref it) 1 (NJ ((i:Int)+1))>>=_) _ _ s
 show Ja (wpAny_setField e c (by simp) ?_)
 let new:(s.heap.update it (Nv.mapFields (·.setIfInBounds 1 (NJ ((i:Int)+1))))).IsKeyIter it d (i+1) es.size ep:=
  ⟨_,Kg _ e (Nv.isFreed_of_fields (Nv.data_mapFields c _)),(Nv.cls_mapFields ..).trans g,by rw[Nv.data_mapFields c];simp[NJ]⟩
 show Ja (Jy (Ja (wpAny_isOneOf_keyiter (s:={s with heap:=s.heap.update it (Nv.mapFields (·.setIfInBounds 1 (NJ ((i:Int)+1))))}) new.typeIs ?_)))
 show Jc (Jc ⟨_,Z,Jc (f _ new (Ng.SameBut.update ..))⟩)
theorem wG(l:A.handled=none)(f:s.heap.get? d>o)(e:o.data=.dict es ep)(k:es.size<=i)
  (j:∀h',K8 it s.heap h'->Q none {s with heap:=h'}):(s.heap.IsKeyIter it d i es.size ep->Na (Nd prog w) A (NH (.ref it)) Q E s)/\(s.heap.IsValIter it d i es.size ep->Na (Nd prog w) A (NH (.ref it)) Q E s):=by
 constructor
 all_goals
  intro c
  let⟨p,g,n,h⟩:=id c
  first|show Ja (KR (KF (name:=Nh.ofString "__next__") c.typeIs F.slot_dict_keyiterator_next (JN F.slot_dict_keyiterator_next c.typeIs F.entry_dict_keyiterator_next ?_ (F.args_dict_keyiterator_next_1 _))))|show Ja (KR (KF (name:=Nh.ofString "__next__") c.typeIs F.slot_dict_valueiterator_next (JN F.slot_dict_valueiterator_next c.typeIs F.entry_dict_valueiterator_next ?_ (F.args_dict_valueiterator_next_1 _))))
  show Ja (Jc (Ja (Ja ?_)))
  first|show Ja (LP c.typeIs (Jc ?_))|show Ja (LQ c.typeIs (Jc ?_))
  show Ja (wpAny_fieldsOf g h ?_)
  change Na _ _ (if (N7.ref d==N7.none)=true then _ else _) _ _ s
  show Ja (Jc (Ja (JW f e ?_)))
  rw[N0 (by simp)]
  show Ja (Jc (Ja (KP f e ?_)))
  rw[N0 (by simp)]
  show Jc ?_
  simp only[show¬((i:Int)<0) from by lia,if_false,Kn,LR k]
  show Ja ?_
  first|show Ja (LP c.typeIs (Jc ?_))|show Ja (LQ c.typeIs (Jc ?_))
  change Na _ _ (setField (.ref it) 0 .none>>=_) _ _ s
  show Ja (wpAny_setField g h (by simp) ?_)
  show Ja ?_
  show Ja (m:=firstArgMember _ _) (wpAny_of_eq (a:=N7.none) (by first|rfl|(simp only[firstArgMember];rfl)) (Kj ?_ (by size_fits)))
  show Ja (wpAny_handled ?_)
  rw[show A.in1.handled=none from l]
  show Ja (Jc (wpAny_throw ?_))
  show Ja (KC (T:= "StopIteration") (b:=true) ⟨_,Jp _ Z,Z⟩ isSubtype_stop ?_)
  show Jc (j _ (((Ng.SameBut.update ..).extBut.push _).push _))
theorem zE(f:A.handled=none)(hit:s.heap.IsKeyIter it d i es.size ep)(b:s.heap.get? d>o)(a:o.data=.dict es ep)(e:es.size<=i)(c:∀h',K8 it s.heap h'->Q none {s with heap:=h'}):Na (Nd prog w) A (NH (.ref it)) Q E s:=(wG f b a e c).1 hit
end
noncomputable def HK (d:N8) (o:Nv) (u:HO):It:=
 ⟨λi H=>H d>.frz o u/\i<nU u,λi H x H'=>H'=H/\∃v,rW H u i x v,λi H=>H d>.frz o u/\nU u<=i⟩
theorem my {h h':Ng}{it d:N8}{i n ep:Nat}(x:h.IsKeyIter it d i n ep)(k:∀o,h.get? it>o->h'.get? it>o):h'.IsKeyIter it d i n ep:=let ⟨o,ho,r⟩:=x;⟨o,k _ ho,r⟩
theorem xN {P:Ni}{N:Nw}(d it:N8)(o:Nv)(u:HO)(J:qT u)(B:Array NE)(L:Nat)(p:o.data=.dict B L):
  pR P w K N (HK d o u) [it] it (λi h=>h.IsKeyIter it d i B.size L) where
 mem:=by simp
 obj:=λi h st b hb=>by
  rw[Jg.mp hb]
  let⟨r,e,c,q⟩:=st
  show⟨r,e,λv z=>by rw[q] at z;cases z⟩
 keep:=λi h h' st k=>my st λr e=>k it (by simp) r e
 item:=by
  intro X W O R D i O9 s σ H E I hf st hg
  let⟨y,hi⟩:=hg
  let⟨_,f,_,l,m,a,Y,g⟩:=iL I.hok y J
  rw[p] at a;cases a
  let j:i<B.size:=by lia
  let⟨x,v,T,S,Z0⟩:=g i j
  show vf st f p j λh' n sb=>?_
  let M:aG X O9 σ H {s with heap:=h'}:=I.turned (t':=s.toks) hf (λb C hb e=>(sb.2 b hb).trans e)
  let⟨r,e,c,q⟩:=id n
  show⟨_,Z,q9 (s:={s with heap:=h'}) e c q (by decide) ⟨x,H,M,S,⟨Z,v,T⟩,n,λb hb=>(hf b hb).1⟩⟩
 done:=by
  intro X W O R D i O9 s σ H E I hf st hg
  let⟨y,hi⟩:=hg
  let⟨_,f,_,l,m,a,Y,g⟩:=iL I.hok y J
  rw[p] at a;cases a
  show zE (I.ok.hd D) st f p () λh' U=>⟨Z,I.turned (t':=s.toks) hf (λb C hb e=>U b C hb e)⟩
 self:=λA i s Q E st h=>by
  show wpAny_pyIter_slot st.typeIs F.slot_dict_keyiterator_iter (JN F.slot_dict_keyiterator_iter st.typeIs F.entry_dict_keyiterator_iter ?_ (F.args_dict_keyiterator_iter_1 _))
  show Jc ⟨_,Z, "dict_keyiterator",_,st.typeIs,F.slot_dict_keyiterator_next.lookup,h⟩
def FD (te:TE):TI:=λσ H R=>te σ H λx H1=>∃d o u,x=.ref d/\H1 d>.frz o u/\qT u/\R (HK d o u) H1
theorem fU(l:PE X e te):PI X tg e (FD te):=by
 intro O9 s σ H R I h
 show cz (l O9 s σ H _ I h) λv s1 f=>?_
 let⟨x,H1,I1,r,d,o,u,ex,m,g,q⟩:=f
 subst ex
 cases(show v=N7.ref d from r)
 let⟨k,c,i,es,ep,a,n,_⟩:=iL I1.hok m g
 show vP k c i a ?_
 let j:∀b ob,s1.heap.get? b>ob->(s1.heap.push {cls:=.type "dict_keyiterator",data:=.fields #[.ref d,.int 0 0,.int es.size 0,.int ep 0]}).get? b>ob:=λb ob z=>Ji _ z
 show⟨~~~s1,[~~~s1],_,_,H1,Z,I1.kept (t':=s1.toks) j,xN d _ o u g es ep a,⟨_,Jp _ Z,Z,Z⟩,λb hb=>?_,q⟩
 rw[Jg.mp hb]
 show I1.fpOk (Jd _) (I1.hok.fresh (Jd _))
section
variable {d it v:N8} {o:Nv} {es:Array NE} {i ep:Nat} {ok ov:N7}
end
theorem eV {d:N8}{o:Nv}{u:HO}{S:SV}{F:St->Hp->Prop}(a:Nat->St->Hp->Prop)(h0:a 0 σ H)(b:∀i σ H,i<=nU u->a i σ H->H d>.frz o u)(c:∀i x v σ H,rW H u i x v->i<nU u->a i σ H->S (a (i+1)) x σ H)(e:∀σ H,a (nU u) σ H->F σ H):A9 (HK d o u) σ H S F:=by
 show jF (nU u) a h0 (λi σ H hi p=>⟨⟨b i σ H (JX hi) p,hi⟩,?_⟩) λσ H p=>⟨⟨b _ σ H (Jd _) p,Jd _⟩,e σ H p⟩
 rintro x _ ⟨rfl,v,k⟩
 show c i x v σ _ k hi p
theorem xx (k:X.calm=true):cJ X (.builtin "min") (λxs H Q=>∃(p:N8) (ns:-Int),xs=[.ref p]/\aM X.K H p (ns.map V.int)/\0<ns.length/\∀M:Int,M∈ns->(∀a∈ns,M<=a)->Q (.int M) H):=by
 intro O9 s σ H xs x Q I r h
 let⟨p,ns,rfl,hp,d,q⟩:=h
 let⟨u,rfl,m⟩:=dZ r
 cases m
 let⟨f,n,o,z⟩:=I.list hp
 let hi:O7 f ns:=by simpa using jy n
 let⟨zs,e⟩:=hi.allInts.items
 let b:ns=zs.toList.map (·.1):=by rw[<-hi.numsOf,<-nums_intItems,<-e]
 let c:0<zs.size:=by
  let i:=d;rw[b,Jb,J4] at i;show i
 let g:=o.isList
 rw[e] at g
 show min_intList (I.ok.hd k) g c λv h' y hv w=>?_
 let⟨t,rfl⟩:=intItems_at hv
 let⟨h1,h2⟩:=argBest_lt (numAt zs) (zs.size - 1)
 show⟨.int _,H,I.kept w,⟨t,Z⟩,q _ ?_ λa ha=>?_⟩
 ·rw[b,numAt_eq];show getD_mem (by rw[Jb,J4];omega)
 ·rw[b] at ha
  let⟨j,l,rfl⟩:=mem_getD ha
  rw[Jb,J4] at l
  rw[<-numAt_eq];show h2 j (by omega)
section
variable {d:N8} {o:Nv} {es:Array NE} {ep:Nat}
theorem BW(g:(d==NR)=false)(c:s.heap.get? d>o)(f:o.ExactDict)(b:o.data=.dict es ep)(hz:es.size<=N9)
  (h:Q (.int es.size (s.toks+1)) {s with toks:=s.toks+1+1}):Na (Nd prog w) A (call (.builtin "len") [.ref d]) Q E s:=by
 let e:s.TypeIs (.ref d) "dict" :=⟨o,c,f.1⟩
 let a:N9=2^24:=rfl
 show PyProof.Rows.call_len_slot (n:=es.size) e F.slot_dict_len (λQ' hq=>JN F.slot_dict_len e F.entry_dict_len ?_ (F.args_dict_len_1 _)) () () h
 change Na _ _ (dictSize d>>=_) _ _ s
 unfold dictSize
 show Ja (Ja (JW c b (Jc ?_)))
 change Na _ _ (Nc.Dict.pendingCount d>>=_) _ _ s
 show Ja (wpAny_pendingCount_other g (wpAny_ret_mkInt ?_))
 simpa using hq
end
theorem uQ:cJ X (.builtin "len") (λxs H Q=>∃a d,xs=[V.ref a]/\Rd H a (.dT d)/\Q (.int ↑d) H):=by
 intro O9 s σ H xs m Q I r h
 let⟨a,d,rfl,ha,q⟩:=h
 let⟨u,rfl,j⟩:=dZ r
 cases j
 let⟨z,l,xs,c,o,es,ep,i,e,b,k,_⟩:=ic I.hok ha
 let g:=size_of_entries k
 let f:=Nb.length c
 show BW l i e b () ⟨.int ↑d,H,I.tok _,⟨s.toks+1,?_⟩,q⟩
 rw[g,f]
def w_ (a:-(-dh×V)):Prop:=∀p∈a,∃ns:-Int,p.1=ns.map Sum.inl
theorem xW(h:ItemsAre (aU P w) ks us):ItemsAre (aU P' w') ks us:=by
 induction h with
 |nil=>show .nil
 |cons a _ ih=>show .cons a ih
theorem AX{ns:-Int}:Np (aU P w) (ns.map Sum.inl)=Np (aU P' w') (ns.map Sum.inl):=by
 unfold Np
 let e:∀(P:Ni) (w:Nr),(ns.map (Sum.inl:Int->dh)).map (aU P w).hash=ns.map hashInt:=λP w=>by rw[JF];rfl
 rw[e,e]
theorem o8 {P P':Ni}{w':Nr}{h:Ng}{a:N8}{xs:-(-dh×N8×N7)}(d:h.DictOfH (Nm (aU P w)) a xs)(g:∀x∈xs,∃ns:-Int,x.1=ns.map Sum.inl):h.DictOfH (Nm (aU P' w')) a xs:=by
 let⟨o,es,ep,h1,h2,i,p,l,q⟩:=d
 show⟨o,es,ep,h1,h2,i,?_,λx c=>?_,q⟩
 ·rw[p]
  show K4 λx c=>?_
  let⟨ns,e⟩:=g x c
  change(⟨Np (aU P w) x.1,_,_⟩:NE)=⟨Np (aU P' w') x.1,_,_⟩
  rw[e,AX (P':=P') (w':=w')]
 ·let⟨o',b,n,m,f,k,j⟩:=l x c
  show⟨o',b,n,m,f,k,xW j⟩
def FO (K:Je) (H:Hp) (v d:V):Prop:=∃a b c kb,v=.ref a/\d=.ref b/\a≠b/\Rd H a (.dT c)/\Rd H b (.dT kb)/\w_ c/\w_ kb/\↑c=kb.length/\∀p∈c,∃v,bg kb p.1>v/\GT K H p.2 v
theorem Cp(I:aG X O9 σ H s)(h:FO X.K H v v')(r:aY v u)(o:aY v' u')(L:A.units+62<NF):SeqAt.EqAt A s u u' true:=by
 let⟨a,b,J,kb,rfl,rfl,n,ha,hb,m,C,l,hs⟩:=h
 cases(show u=N7.ref a from r)
 cases(show u'=N7.ref b from o)
 let⟨_,B,F,d,k⟩:=ic I.hok ha
 let⟨_,y,vb,f,j⟩:=ic I.hok hb
 let g:∀{ks:-(-dh×V)} {vs:-(-dh×N8×N7)},KT H ks vs->w_ ks->∀x∈vs,∃ns:-Int,x.1=ns.map Sum.inl:=λc i x D=>by
  let⟨p,hp,e,_⟩:=qY c x D
  let⟨ns,z⟩:=i p hp
  show⟨ns,by rw[<-e,z]⟩
 show SeqAt.EqAt.of_refs n λprog w E Q q=>?_
 show E4 (prog:=prog) (w:=w) (knd:=Nm (aU prog w)) (NB ()) () B y (o8 k (g d m)) (o8 j (g f C)) (by rw[<-Nb.length d,<-Nb.length f,l])
  (yH I d f (show A.units+1+60<NF by lia) hs) q
noncomputable def Iq (a:Array (Int×N7)) (i:Nat):Int:=(a[i]?.map (·.1)).getD 0
theorem y0{Q:Bool->N_->Prop}(a:s.heap.get? b>o)(c:o.cls=.type "tuple")(g:o.data=.seq items n)(d:∀v∈items,∃i t,v=N7.int i t)(h:Q true s):
  Na (Nd prog w) A (hashByValue 8 (.ref b)) Q E s:=by
 let f:s.TypeIs (.ref b) "tuple" :=⟨o,a,c⟩
 show Ja (KN f F.slot_tuple_hash.lookup ?_)
 show Ja ?_
 show Ja (wpAny_load a ?_)
 rw[g]
 show Jc (Ja ?_)
 rw[<-Array.forIn_toList]
 show wpAny_forIn_list _ (λdf q s'=>s'=s/\q=(none,Unit.unit)/\∀v∈df,∃i t,v=N7.int i t) _ ?_ ?_ _ _ ⟨Z,Z,λv hv=>d v (Kx.mp hv)⟩
 ·rintro v df q s' ⟨rfl,rfl,hr⟩
  let⟨i,t,rfl⟩:=hr v JA
  let e:hashByValue 7 (.int i t)=pure true:=by simp[hashByValue]
  show Ja (Jc (by
   show Jc ⟨Z,Z,λx j=>hr x (JC _ j)⟩))
 ·rintro q s' ⟨rfl,rfl,_⟩
  show Jc h
section
variable {R:Result->N_->Prop} {I:N8} {fp wr:-N8} {G:Array NU->Array NU->Prop} {n:Nat} {P:Nat->N7->Prop} {St:Nat->N_->Prop}
def pQ (h:Ng) (k:-Int) (b:N8):Prop:=∃o a c,h.get? b>o/\o.cls=.type "tuple" /\o.data=.seq a c/\O7 a.toList k
end
abbrev qi (led:Bool):Nv:={cls:=.type "set",dict:=none,data:=.set #[] 0 (.fresh 0 0 led)}
noncomputable def c_ (k:-Int):Int:=reduceHash (Nc.Tuple.tupleHashOf (k.map hashInt))
theorem C1(t:pQ h k b):(Nm (NW prog w)).is h k b:=by
 let⟨o,a,c,h1,h2,e,d⟩:=t
 show⟨o,a,c,h1,h2,e,?_⟩
 let all:∀{us:-N7} {ns:-Int},O7 us ns->PySem.ItemsAre (NW prog w) ns us:=by
  intro us ns z
  induction z with
  |nil=>show .nil
  |cons n t _ ih=>show .cons (intKind_is _ _ _ _) ih
 show all d
noncomputable def Hf (a:N8) (n:Nat):HO:=.ext λh=>∃o es ep t,h.get? a>o/\o.ExactSet/\o.data=.set es ep t/\Nq.fits t es.size=true/\es.size=n
theorem AG(ok:iu P w H h)(e:H b>.tup (c.map V.int)):pQ h c b:=by
 let⟨_,a,g,o,f,d,n,i⟩:=ok b _ e
 show⟨o,a.toArray,n,f,d,i,by simpa using jy g⟩
theorem ua:cJ X (.builtin "len") (λxs H Q=>∃a n,xs=[V.ref a]/\H a>Hf a n/\n<1000/\Q (.int n) H):=by
 intro O9 s σ H xs f Q I r h
 let⟨a,n,rfl,ha,g,q⟩:=h
 let⟨u,rfl,e⟩:=dZ r
 cases e
 let⟨⟨o,es,ep,t,h1,h2,b,d,c⟩,_⟩:=I.hok a _ ha
 subst c
 show call_len_set h1 h2 b d () ⟨.int es.size,H,I.tok _,⟨_,Z⟩,q⟩
structure G5 (K:Je) (C:N8) (m:Nh) (f:N8):Prop where
 ex:∃mc,PySem.W.readsIn K C mc=true/\PySem.W.findCls K (.ref C) mc m>.val (.ref f)
 hh:PySem.W.handedIn (.ref f)=true
 hg:LS K (.ref C) "__getattribute__" >some (.builtin "type.__getattribute__")
 kp:J5 K (.ref f)=true
structure iR (P:Ni) (w:Nr) (K:Je) (mg:Nh->Option N7) (Oa:Ng) (C:N8) (m:Nh) (k:Nat) (ps:-Nh) (sp:Sp):Prop where
 ex:∃f fd,fq P w K mg Oa kf k f fd ps sp/\G5 K C m f/\c6 K fd ps []
section
variable {C:N8} {k:Nat} {ps:-Nh} {sp:Sp} {m:Nh} {pos apos:O2} {e o:Nw} {es:-Nw} {t:TA}
theorem vD {pl:Sem Bool}(j:PE X o (tC (.ref C)))(G:iR X.prog X.w X.K X.mg X.Oa C m k ps sp)(n:aR k X.A)(d:PA X (e::es) t)
  (c:Nf (e::es) X.env=(false,eval e X.env)::Nf es X.env:=by rfl) (b:(NG pos (Nf es X.env)).any (·.1)=false:=by rfl)
  (ht:eval (.Call (.Attribute o m apos) (e::es) [] pos) X.env=(do
   let ov<-eval o X.env
   standAt apos.atName
   let (f,first)<-holding [ov] (getMethod ov m pl)
   callWith pos f first (NG pos (Nf (e::es) X.env)) (backToKw pos (keywordEach [] X.env))):=by rfl):
  PE X (.Call (.Attribute o m apos) (e::es) [] pos) (jP sp [] E0 t):=by
 let⟨f,fd,F,hm,hb⟩:=G.ex
 let⟨z,h1,h2⟩:=hm.ex
 intro O9 s σ H Q I h
 show PySem.W.methodCall_KW (pl:=pl) (cz (j O9 s σ H (λv H1=>v=.ref C/\H1=H) I ⟨Z,Z⟩) λu s1 a=>?_) ht
 let⟨x,H1,I1,i,ex,p⟩:=a
 subst ex p
 cases(show u=N7.ref C from i)
 show PySem.W.method_cls I1.kIn hm.hg (PySem.W.cls_value I1.kIn h1 h2 hm.hh ?_)
 let l:=I1.tok (s1.toks+1)
 show LK (first:=[]) (h₀:=X.Oa) I.ok.mod.kin hm.kp (cz (d pos O9 _ σ _ _ l h) λq y a=>?_) c b
 let⟨vs,H2,I3,r,g⟩:=a
 show⟨I3.kIn,?_⟩
 show qu F n hb .nil oF I3 r g
end
structure xO (K:Je) (x qual:Nh) (st:Nn) (f:N8) (fd:NN):Prop where
 ex:∃(oc:N7) (od:Option N8) (dV kV doc pm:N7) (an:Option N8) (cdv ct:N7) (osl:Array (Option N7)),
  fd=JK x qual (cn st) (bP st) (aK st) dV kV doc pm an cdv ct/\K.lookup f>⟨oc,od,.func fd,osl⟩/\Kd K cdv qual=true
section
variable {P:Ni}
theorem xO.ok {x qual:Nh}{st:Nn}{f:N8}{j:NN}{N ps:-Nh}{k:Nat}{sp:Sp}(F:xO K x qual st f j)(S:ei N ps (aK st))(len:∀vs H Q E,sp vs H Q E->↑vs=↑ps)
  (g:∀(e:N7) (A:Nu) (d:-O0) (s:N_) (H:Hp) (vs:-V) (Q:VK) (E:XK),aR k (A.deeper (envOfC qual (aK st) (~~~s) f e))->sp vs H Q E->
   ∃t,sM (lY kf P w K mg Oa N qual (aK st) f e A d s H E).nox (bP st) t/\t {nx:=λ_ H'=>Q .non H',rt:=Q} (start N vs) H):fq P w K mg Oa kf (k+1) f j ps sp:=by
 let⟨u,n,p,kV,c,r,m,e,o,b,rfl,l,a⟩:=F.ex
 show Dv l a S len λA d s H vs Q E hr i=>?_
 let⟨t,h,q⟩:=g e A d s H vs Q E hr i
 show⟨t,h.nox,q⟩
theorem pH{st:Nn}{a:Array (Option N7)}{kV:N7}(l:K.lookup f>⟨oc,od,.func (JK x qual (cn st) (bP st) (aK st) dV kV doc pm an cdv ct),a⟩)
  (c:Kd K cdv qual=true):xO K x qual st f (JK x qual (cn st) (bP st) (aK st) dV kV doc pm an cdv ct):=⟨⟨oc,od,dV,kV,doc,pm,an,cdv,ct,a,Z,l,c⟩⟩
theorem y7{d:Array (Option N7)}(e:fd.defaults=.ref T)(c:K.lookup T>⟨oc,od,.seq items n,d⟩)
  (h:∀a:-N7,↑a=↑ps->∃k,bindArgs fd ⟨a,[]⟩=(seqItems? fd.defaults>>=k)/\k (some items)=pure (ps.zip a)):c6 K fd ps []:=λs a f b=>by
 rw[Km] at b|-
 let⟨k,h1,h2⟩:=h a b
 show PySem.W.binds_K f e c Z h1 h2
end
theorem mM:isSubtype (.type "AttributeError") (.type "AttributeError")=pure true:=by rw[isSubtype_type];kernel_rfl
section
variable {h:Ng} {g:Array NU} {d:Drawn} {t:Nat} {os:OsState} {a:N8}
abbrev HP (T:N8):Nv:={cls:=.type "AttributeError",data:=.fields #[.ref T,.none,.none,.none,.bool false,.none,unsetMember,unsetMember]}
theorem wR{nm:N7}{Q:Unit->N_->Prop}(hx:h.get? e>HP T)
  (c:∀h',Ng.SameBut e h h'->N_.TypeIs ⟨h',g,d,t,os⟩ (.ref e) "AttributeError" ->Q Unit.unit ⟨h',g,d,t,os⟩):Na (Nd prog w) A (noteAttr (.ref e) (.ref a) nm) Q E ⟨h,g,d,t,os⟩:=by
 let b:(⟨h,g,d,t,os⟩:N_).TypeIs (.ref e) "AttributeError" :=⟨_,hx,Z⟩
 show Ja (Ja (KC b mM ?_))
 show Ja (wpAny_load hx ?_)
 dsimp only
 show Jc ?_
 show Ja (KQ (Ja (K7 b ?_)))
 show Ja (wpAny_load hx ?_)
 show wpAny_update hx ?_
 show c _ (Ng.SameBut.update ..) ⟨_,Kg _ hx (by rfl),by rfl⟩
theorem uV {o:Type}{Q:o->N_->Prop}(p:A.handled=none)(l:↑msg<=N9)
  (k:∀e h' j,(∀b u,h.get? b>u->h'.get? b>u)->N_.TypeIs ⟨h',g,d,j,os⟩ (.ref e) "AttributeError" ->E (.ref e) ⟨h',g,d,j,os⟩):
  Na (Nd prog w) A (raiseAttrError (.ref a) name msg) Q E ⟨h,g,d,t,os⟩:=by
 show Ja (wpAny_mkStr (hx:=l) ?_)
 show Ja ?_
 show Ja (m:=firstArgMember _ _) (wpAny_of_eq (a:=N7.none) (by first|rfl|(simp only[firstArgMember];rfl)) ?_)
 show Kj ?_ (by first|size_fits|decide)
 show Ja (wpAny_mkText (Ja ?_))
 let f:h.objs.size<(h.push {cls:=.type "tuple",data:=.seq #[N7.str msg t]}).objs.size:=Kc<|J9 _
 let c:∀b u,h.get? b>u->(h.push {cls:=.type "tuple",data:=.seq #[N7.str msg t]}).get? b>u:=λb u z=>Ji _ z
 revert f c
 intro f c
 show wR (Jp _ Z) λh' sb n=>?_
 show Ja (wpAny_handled ?_)
 rw[p]
 show Ja (Jc (wpAny_throw ?_))
 show k _ h' _ (λb u z=>by
  let i:=c b u z
  rw[sb.2 b (Jm (Jj i))]
  show Ji _ i) n
theorem Cg{Q:Fin->N_->Prop}(i:A.handled=none)(hx:h.get? a=some {cls:=.type "list",data:=.seq items n})
  (f:∀e h' c,(∀b u,h.get? b>u->h'.get? b>u)->N_.TypeIs ⟨h',g,d,c,os⟩ (.ref e) "AttributeError" ->E' (.ref e) ⟨h',g,d,c,os⟩):
  Na (Nd prog w) A (Nc.«object.__getattribute__» ⟨[.ref a,.str "keys" c],[]⟩) Q E' ⟨h,g,d,t,os⟩:=by
 let k:(⟨h,g,d,t,os⟩:N_).TypeIs (.ref a) "list" :=⟨_,hx,Z⟩
 let j:NX (.type "list") "keys" =pure none:=by rw[NM,ND];kernel_rfl
 repeat (any_goals (first|assumption|wp_step))
 show uV i (by decide+kernel) f
theorem Bi(l:A.handled=none)(hx:h.get? a=some {cls:=.type "list",data:=.seq items n})
  (k:∀h' i,(∀b u,h.get? b>u->h'.get? b>u)->Q none ⟨h',g,d,i,os⟩):Na (Nd prog w) A (getAttr? (.ref a) "keys") Q E ⟨h,g,d,t,os⟩:=by
 let c:(⟨h,g,d,t+1,os⟩:N_).TypeIs (.ref a) "list" :=⟨_,hx,Z⟩
 let j:=F.slot_list_getattribute.lookup
 let o:=F.slot_list_getattribute.bind (.ref a)
 let m:NX (.type "list") "__getattr__" =pure none:=by rw[NM,ND];kernel_rfl
 show Ja (wpAny_mkText (Ja (KR ?_)))
 show Jy (Ja (K7 c ?_))
 rw[j]
 show Ja (Jc ?_)
 dsimp only
 unfold getAttrByItsOwn hookBefore
 show Ja (Jc (Ja (KR (Jy ?_))))
 unfold callGetattribute
 unfold boundAndCalled
 show wpAny_call (codeAny_call_builtin F.slot_list_getattribute.plain F.entry_list_ga (F.slot_list_getattribute.check _ _ _ _ _ _ _ _ c (F.args_list_getattribute_2 _ _) (Cg (show A.in1.handled=none from l) hx λe h' i keep f=>?_)))
 unfold getattributeRaised hookBehind
 show Ja (KC f mM ?_)
 change Na _ _ (attributeErrorLeaves (.ref a) (.str "keys" t) (.ref e) false false) _ _ _
 unfold attributeErrorLeaves
 show Ja (wpAny_throw (Ja (KC f mM ?_)))
 show Jc (k _ _ keep)
end
theorem oG:entryFor table "dict.update.loop" >Nc.«dict.update.loop»:=entryFor_of_tree (by kernel_rfl)
theorem nY:plainId "dict.update.loop" =true:=by decide+kernel
def vq (h:Ng) (p:N8) (k v:N7):Prop:=∃o c,h.get? p>o/\o.cls=.type "tuple" /\o.data=.seq #[k,v] c
abbrev yW (h:Ng) (p k:N8) (v:N7):Prop:=vq h p (.ref k) v
section
variable {R:Result->N_->Prop} {I:N8} {fp wr:-N8} {G:Array NU->Array NU->Prop} {n:Nat} {P:Nat->N7->Prop} {St:Nat->N_->Prop} {DX KO:Nat->Ng->Prop}
theorem uo (W:WalksS prog w A.in1 I fp wr G n P St)(D:N8)(J:D∉fp)(m:Nat->N8)(S L:Nat->N7)(r:∀i v,P i v->v=.ref (m i))
  (x:∀i,i<n->m i≠D/\m i∉wr) (C:∀i,i<n->∀h h':Ng,(∀b o,b≠D->b∉wr->h.get? b>o->h'.get? b>o)->KO i h->KO i h')
  (B:∀(i:Nat),i<=n->∀(h h':Ng),(∀b o,b∉wr->h.get? b>o->h'.get? b>o)->DX i h->DX i h')
  (hset:∀i,i<n->∀(s:N_) (Q:Unit->N_->Prop) (E:N7->N_->Prop),KO i s.heap->DX i s.heap->(∀h' t,s.toks<=t->DX (i+1) h'->Ng.SameBut D s.heap h'->Q Unit.unit {s with heap:=h',toks:=t})->Na (Nd prog w) A.in1 (dictSet D (S i) (L i)) Q E s):
  ∀(k i:Nat) (M:Tok) (s:N_),n - i=k->i<=n->St i s->(∀j,j<n->vq s.heap (m j) (S j) (L j)/\KO j s.heap)->DX i s.heap->
   (∀s',Moved (D::wr) G s s'->DX n s'.heap->R (.ok (.ret .none)) s')->
   NL (Nd prog w) A (.builtin "dict.update.loop" ⟨[.ref D,.ref I,.int (i:Nat) M,.none],[]⟩) R s:=by
 let more:∀b∈wr,b∈D::wr:=λb hb=>JC _ hb
 intro k
 induction k with
 |zero=>
  intro i M s Z0 hi l ht N H
  obtain rfl:i=n:=by omega
  show Nt oG ?_
  show Ja (W.done s _ _ l λs' hm=>?_)
  show Ja ?_
  show Jc (Jc (H s' (hm.mono more) (B _ hi _ _ (λb o hb e=>hm.heap b o hb e) N)))
 |succ k ih=>
  intro i M s Z0 hi l ht N H
  let a:i<n:=by omega
  show Nt oG ?_
  show Ja (W.item i s _ _ a l λv s' hP F hm=>?_)
  obtain rfl:=r i v hP
  let d:∀j,j<n->vq s'.heap (m j) (S j) (L j)/\KO j s'.heap:=λj g=>by
   let⟨⟨o,c,h1,h2⟩,O⟩:=ht j g
   show⟨⟨o,c,hm.heap _ o (x j g).2 h1,h2⟩,C j g _ _ (λb o _ hb e=>hm.heap b o hb e) O⟩
  let f:=B i hi _ _ (λb o hb e=>hm.heap b o hb e) N
  let⟨⟨o,c,h1,h2,O⟩,X⟩:=d i a
  let Y:s'.TypeIs (.ref (m i)) "tuple" :=⟨o,h1,h2⟩
  show Ja (Jy (Ja (wpAny_tryCatch ?_)))
  show Ja (K7 Y ?_)
  show Ja ?_
  show Ja (wpAny_load h1 ?_)
  rw[O]
  show Jc (Jc ?_)
  show Jy (hset i a _ _ _ X f λh' t' p K sb=>?_)
  show Jc ⟨Ny nY _,?_⟩
  let e:((i:Nat):Int)+1=((i+1:Nat):Int):=by omega
  show ih (i+1) _ _ (by omega) a (W.frame _ s' _ _ F p λb hb o q=>?_) (λj g=>?_) K λT u y=>?_
  ·rw[sb.2 b (λz=>J (z▸hb))];show q
  ·let⟨⟨o,c,U,q2⟩,q3⟩:=d j g
   show⟨⟨o,c,?_,q2⟩,C j g _ _ (λb o hb _ q=>?_) q3⟩
   ·rw[sb.2 _ (x j g).1];show U
   ·rw[sb.2 b hb];show q
  ·show H T (Moved.trans W.gtrans ((hm.mono more).then_heap p λb o hb q=>?_) u) y
   rw[sb.2 b (λz=>hb (z<|JA))];show q
end
theorem rS {K:Type} [DecidableEq K]{xs:-(K×N8×N7)}{k:K}{a:N8}{v:N7}{P:N8->Prop}(h:∀x∈xs,P x.2.1)(c:P a):∀x∈storedH xs k a v,P x.2.1:=by
 unfold storedH
 split
 ·intro x hx
  let⟨y,b,rfl⟩:=Jh.mp hx
  unfold putAt
  split
  ·show h y b
  ·show h y b
 ·intro x hx
  rcases Jz.mp hx with hx|hx
  ·show h x hx
  ·rw[Jg.mp hx];show c
theorem qH {K:Type} [DecidableEq K]{xs:-(K×N8×N7)}{k:K}{a:N8}{v:N7}:↑(storedH xs k a v)<=↑xs+1:=by
 unfold storedH
 split
 ·rw[Jb];lia
 ·simp
noncomputable def qL {K:Type} [DecidableEq K] (key:Nat->K) (b:Nat->N8) (a:Nat->N7):Nat->-(K×N8×N7)
 |0=>[]
 |i+1=>storedH (qL key b a i) (key i) (b i) (a i)
theorem oM {K:Type} [DecidableEq K]{key:Nat->K}{a:Nat->N8}{b:Nat->N7}{P:N8->Prop}:∀(i:Nat),(∀j,j<i->P (a j))->∀x∈qL key a b i,P x.2.1
 |0,_=>λ_ h=>by cases h
 |i+1,h=>rS (oM i λj c=>h j ()) (h i (J9 _))
theorem nZ {K:Type} [DecidableEq K]{key:Nat->K}{b:Nat->N8}{a:Nat->N7}:∀(i:Nat),↑(qL key b a i)<=i
 |0=>Jd _
 |i+1=>Jt qH (KS (nZ i))
section
variable {DX KO:Nat->Ng->Prop}
theorem lB {l:N8}{as:-N8}{c:Nat}{Q:N7->N_->Prop}(Z0:A.handled=none)(N:s.heap.get? l=some {cls:=.type "list",data:=.seq (as.map N7.ref).toArray c})
  (X U:Nat->N7) (hp:∀j,j<↑as->vq s.heap (as.getD j 0) (X j) (U j)/\KO j s.heap)
  (L:∀j,j<↑as->∀h h':Ng,(∀b o,b<~~~s->h.get? b>o->h'.get? b>o)->KO j h->KO j h')
  (W:∀i,i<=↑as->∀h h':Ng,(∀b o,b<= ~~~s->h.get? b>o->h'.get? b>o)->DX i h->DX i h')
  (hset:∀i,i<↑as->∀(s':N_) (Q:Unit->N_->Prop) (E:N7->N_->Prop),KO i s'.heap->DX i s'.heap->(∀h' t,s'.toks<=t->DX (i+1) h'->Ng.SameBut (~~~s) s'.heap h'->Q Unit.unit {s' with heap:=h',toks:=t})->Na (Nd prog w) A.in1.in1 (dictSet (~~~s) (X i) (U i)) Q E s')
  (h0:∀h':Ng,h'.get? (~~~s)=some {cls:=.type "dict",data:=.dict #[]}->DX 0 h')
  (h:∀(h':Ng) (tk:Nat),DX ↑as h'->(∀b o,s.heap.get? b>o->h'.get? b>o)->Q (.ref (~~~s)) {s with heap:=h',toks:=tk}):
  Na (Nd prog w) A (call (.type "dict") [.ref l]) Q E s:=by
 show callType_codes (Q₁:=λv J=>v=.ref (~~~s)/\J={s with heap:=s.heap.push {cls:=.type "dict",data:=.dict #[]}}) F.kt_called_dict (F.kt_typeCall_dict_1 _) F.entry_dict_init (kt_code_dict_new _ ⟨Z,Z⟩) ?_
 rintro v J ⟨rfl,rfl⟩
 let a:∀b u,s.heap.get? b>u->(s.heap.push {cls:=.type "dict",data:=.dict #[]}).get? b>u:=λb u x=>Ji _ x
 let P:N_.TypeIs {s with heap:=s.heap.push {cls:=.type "dict",data:=.dict #[]}} (.ref (~~~s)) "dict" :=⟨_,Jp _ Z,Z⟩
 let S:N_.TypeIs {s with heap:=s.heap.push {cls:=.type "dict",data:=.dict #[]}} (.ref l) "list" :=⟨_,a _ _ N,Z⟩
 let O:(s.heap.push {cls:=.type "dict",data:=.dict #[]}).get? (~~~s)=some {cls:=.type "dict",data:=.dict #[]}:=Jp _ Z
 let p:(s.heap.push {cls:=.type "dict",data:=.dict #[]}).objs.size= ~~~s+1:=Kc ..
 revert a P S O p
 intro a P S O p
 show⟨P,F.args_dict_init_2 _ _,?_⟩
 show Ja ?_
 show Ja (KB P ?_)
 show Jc ?_
 change Na _ _ (Nc.Dict.updateFrom "dict.__init__" (~~~s) (.ref l) [] .none) _ _ _
 show Ja (K7 S ?_)
 show Ja (Bi (show A.in1.in1.handled=none from Z0) (a _ _ N) λh1 am I=>?_)
 show Ja (KQ (Ja ?_))
 let n:h1.get? l=some {cls:=.type "list",data:=.seq (as.map N7.ref).toArray c}:=I _ _ (a _ _ N)
 let m:h1.IsList l (as.map N7.ref).toArray:=⟨_,n,Z,c,Z⟩
 show Kw m (Jc ⟨Ny nY _,?_⟩)
 let f: ~~~s+1<=h1.objs.size:=Jj (I _ _ O)
 let D:l<~~~s:=Jj N
 let r:l≠h1.objs.size:=Jm (Jj n)
 let nD: ~~~s∉[h1.objs.size,l]:=λz=>by
  rcases Jk.mp z with z|z
  ·show absurd z (Jm (Nat.lt_of_succ_le f))
  ·show absurd (Jg.mp z) (Kv D)
 let R:∀{b:N8},b<~~~s->b∉[h1.objs.size]:=λhb z=>absurd (Jg.mp z) (Jm (JM hb (Nat.le_of_succ_le f)))
 let d:∀{b:N8} {o:Nv},s.heap.get? b>o->b<~~~s:=λe=>Jj e
 let B:A.in1.in1.handled=none:=by simpa using Z0
 let sz:(as.map N7.ref).toArray.size=↑as:=by simp
 show uo (A:=A.in1) ((Walks.list B _ l r (as.map N7.ref).toArray).toS) (~~~s) nD (λi=>as.getD i 0) X U (λi v hv=>?_) (λi hi=>?_) (λi hi g K hg z=>L i (sz▸hi) g K (λb o hb e=>hg b o (Jm hb) (R hb) e) z) (λi hi g K hg z=>W i (sz▸hi) g K (λb o hb e=>hg b o (λy=>absurd (Jg.mp y) (Jm (JM (Nat.lt_succ_of_le hb) f))) e) z) (λi hi=>hset i (sz▸hi))
  ((as.map N7.ref).toArray.size - 0) 0 0 _ () (Ju _) ⟨⟨_,Jp _ Z,Z,Z⟩,m.push _⟩ (λj Y=>?_) (h0 _ (Ji _ (I _ _ O))) λs' hm T=>?_
 ·let k:(as.map N7.ref).toArray[i]?>v:=hv
  rw[LN,Jn] at k
  let⟨x,hx,rfl⟩:=JH.mp k
  rw[JP,hx];rfl
 ·let⟨⟨o,c',M,_⟩,_⟩:=hp i (sz▸hi)
  show⟨Jm (d M),R (d M)⟩
 ·let⟨⟨o,c',M,q2⟩,q3⟩:=hp j (sz▸Y)
  let up:∀b u,s.heap.get? b>u->(h1.push {cls:=.type "list_iterator",data:=.fields #[.ref l,.int 0 0]}).get? b>u:=λb u z=>Ji _ (I _ _ (a _ _ z))
  show⟨⟨o,c',up _ _ M,q2⟩,L j (sz▸Y) _ _ (λb o _ q=>up b o q) q3⟩
 ·let⟨h',K,d',H,C⟩:=s'
  obtain rfl:K=s.gens:=hm.gens
  obtain rfl:d'=s.drawn:=hm.drawn
  obtain rfl:C=s.os:=hm.os
  show⟨Z,h h' H (sz▸T) λb o e=>hm.heap b o (λz=>?_) (Ji _ (I _ _ (a _ _ e)))⟩
  rcases Jk.mp z with z|z
  ·show absurd z (Jm (d e))
  ·show R (d e) z
end
abbrev yk (H:Hp) (as:-N8) (kvs:-(-dh×V)):Prop:=Nb (λa (kv:-dh×V)=>∃b,H a>.tup [.ref b,kv.2]/\H b>.tup (kv.1.map kV)) as kvs
noncomputable def Ff {b:Type} [DecidableEq b] (a:-(b×V)):-(b×V):=a.foldl (λc d=>bW c d.1 d.2) []
abbrev E5 (kvs:-(-dh×V)):-(-dh×V):=Ff kvs
theorem rP {b:Type} [DecidableEq b]{a:-(b×V)}{p:b×V}:Ff (a++[p])=bW (Ff a) p.1 p.2:=by unfold Ff;rw[List.foldl_append];rfl
theorem zP {a:-(-dh×V)}{p:-dh×V}:E5 (a++[p])=bW (E5 a) p.1 p.2:=rP
theorem CS {d:Type} [DecidableEq d]{c:-(d×V)}:↑(Ff c)<=↑c:=by
 let all:∀(l b:-(d×V)),↑(l.foldl (λb e=>bW b e.1 e.2) b)<=↑b+↑l:=by
  intro l
  induction l with
  |nil=>intro b;show Jd _
  |cons a r ih=>
   intro b
   let h1:=ih (bW b a.1 a.2)
   let h2:=iF b a.1 a.2
   rw[List.foldl_cons,JY]
   lia
 let h:=all c []
 unfold Ff
 simpa using h
theorem mF (Y:X.calm=true){k:Nat}(hr:aR k X.A):cJ X (.type "dict") (λxs H Q=>∃(l:N8) (as:-N8) (B:-(-dh×V)),xs=[.ref l]/\H l>.lst (as.map V.ref)/\yk H as B/\∀p,H p=none->Q (.ref p) (Oc H p (.dT (E5 B)))):=by
 intro O9 s σ H xs us Q I r h
 let⟨l,as,B,rfl,hl,hp,q⟩:=h
 let⟨u,rfl,ru⟩:=dZ r
 cases ru
 let⟨T,y,c,rv,m⟩:=I.hok l _ hl
 obtain rfl:=eP rv
 let hu:=hr.units
 let len:↑as=↑B:=Nb.length hp
 let ex:∀j,∃(b:N8) (u:N7),j<↑as->yW s.heap (as.getD j 0) b u/\H b>.tup ((B.getD j ([],.non)).1.map kV)/\aY (B.getD j ([],.non)).2 u:=λj=>by
  by_cases F:j<↑as
  ·let f:j<↑B:=by lia
   let⟨a,ha,b,h1,h2⟩:=mB hp j f
   let⟨_,ii,Z0,o,ho,w,n,L⟩:=I.hok a _ h1
   let⟨u1,u2,rfl,r1,r2⟩:=gF Z0
   cases(show u1=N7.ref b from r1)
   show⟨b,u2,λ_=>?_⟩
   let e1:as.getD j 0=a:=by rw[JP,ha];rfl
   let O:B.getD j ([],.non)=B[j]:=by rw[JP,JI f];rfl
   rw[e1,O]
   show⟨⟨o,n,ho,w,L⟩,h2,r2⟩
  ·show⟨0,.none,λz=>absurd z F⟩
 obtain⟨C,M⟩:∃C:Nat->N8,∀j,∃u:N7,j<↑as->yW s.heap (as.getD j 0) (C j) u/\H (C j)>.tup ((B.getD j ([],.non)).1.map kV)/\aY (B.getD j ([],.non)).2 u:=⟨λj=>Classical.choose (ex j),λj=>Classical.choose_spec (ex j)⟩
 obtain⟨K,D⟩:∃K:Nat->N7,∀j,j<↑as->yW s.heap (as.getD j 0) (C j) (K j)/\H (C j)>.tup ((B.getD j ([],.non)).1.map kV)/\aY (B.getD j ([],.non)).2 (K j):=⟨λj=>Classical.choose (M j),λj=>Classical.choose_spec (M j)⟩
 let kt:∀i,i<=↑as->KT H (E5 (B.take i)) (qL (λj=>(B.getD j ([],.non)).1) C K i):=by
  intro i
  induction i with
  |zero=>intro _;show .nil
  |succ i ih=>
   intro hi
   let⟨_,h2,R⟩:=D i hi
   let v:i<↑B:=by lia
   let O:B[i]?>B.getD i ([],.non):=by rw[JP,JI v];rfl
   let et:B.take (i+1)=B.take i++[B.getD i ([],.non)]:=by rw[List.take_succ,O];rfl
   unfold E5;rw[et,rP]
   show KT.put (ih ()) _ h2 R
 let mono:∀{g N:Ng} {k:-dh} {b:N8},(∀o,g.get? b>o->N.get? b>o)->(Nm (aU X.prog X.w)).is g k b->(Nm (aU X.prog X.w)).is N k b:=λhg J=>by let⟨o,d,n,z1,z2⟩:=J;show⟨o,d,n,hg o z1,z2⟩
 show lB (I.ok.hd Y) m (λj=> .ref (C j)) K (DX:=λi h=>h.DictOfH (Nm (aU X.prog X.w)) (~~~s) (qL (λj=>(B.getD j ([],.non)).1) C K i)) (KO:=λj h=>(Nm (aU X.prog X.w)).is h (B.getD j ([],.non)).1 (C j)) (λj F=>?_) (λj F g N hg z=>mono (λo q=>hg _ o (I.hok.lt (D j F).2.1) q) z) (λi hi g N hg J=>by let⟨o,es,ep,a1,a2,a3,a4,a5,a6⟩:=J;show⟨o,es,ep,hg _ _ (Jd _) a1,a2,a3,a4,λx W=>mono (λo q=>hg _ o (JX (oM (P:=λb=>b<~~~s) i (λj F=>I.hok.lt (D j (JM F hi)).2.1) x W)) q) (a5 x W),a6⟩) (λi hi s' Q E k1 d1 q=>wpAny_dictSet_heap (show X.A.units+1+1<NF by lia) k1 d1 (λh' L sb=>q h' _ (KU _ _) L sb) (Jt (nZ i) (Jt (JX hi) (by simpa using T)))) (λh' e=>⟨_,#[],0,e,⟨Z,Z,Z⟩,Z,Z,(λ_ z=>by cases z),Ka⟩) λh' tk L hk=>?_
 ·let⟨h1,h2,_⟩:=D j F
  show⟨h1,gU I.hok h2⟩
 ·let S:=kt ↑as (Jd _)
  rw[len,Jx] at S
  rw[len] at L
  let⟨o,es,ep,h1,h2,R,h4,h5,h6⟩:=L
  let U:H (~~~s)=none:=I.hok.fresh (Jd _)
  show⟨.ref (~~~s),_,I.laid (a:= ~~~s) (o:=.dT (E5 B)) (t':=tk) hk (Jd _) ⟨Jt CS (by rw[<-len];simpa using T),beq_eq_false_iff_ne.mpr (Jr (Jm I.big)),_,S.keeps λb ys z=>?_,o,es,ep,h1,h2,R,h4,h6⟩,Z,q _ U⟩
  rw[aj (aq z U)];show z
structure Nx (prog:Ni) (w:Nr) (A:Nu) (it src:N8) (vals:Array N7) (St:Nat->Ng->Prop):Prop where
 obj:∀i h,St i h->∃o vs,h.get? it>o/\o.data=.fields vs/\o.cls≠.type "zip" /\∃o',h.get? src>o'
 keep:∀i h h',St i h->(∀o,h.get? it>o->h'.get? it>o)->(∀o,h.get? src>o->h'.get? src>o)->St i h'
 item:∀(i:Nat) (s:N_) (Q:N7->N_->Prop) (E:N7->N_->Prop) (x:N7),St i s.heap->vals[i]?>x->(∀h',St (i+1) h'->Ng.SameBut it s.heap h'->Q x {s with heap:=h'})->Na (Nd prog w) A (Nc.SmallTypes.nextOf (.ref it)) Q E s
 done:∀(i:Nat) (s:N_) (Q:N7->N_->Prop) (E:N7->N_->Prop),A.handled=none->St i s.heap->vals[i]?=none->
  (∀h' e,K8 it s.heap h'->(∃o,h'.get? e>o/\o.cls=.type "StopIteration")->E (.ref e) {s with heap:=h'})->Na (Nd prog w) A (Nc.SmallTypes.nextOf (.ref it)) Q E s
theorem Nx.list {it l:N8}{items:Array N7}(c:l≠it):Nx prog w A it l items (λi h=>h.IsListIter it l i/\h.IsList l items) where
 obj:=λi h d=>by let⟨⟨o,h1,h2,k⟩,⟨o',q,_⟩⟩:=d;show⟨o,_,h1,k,by rw[h2];decide,o',q⟩
 keep:=λi h h' ⟨x,y⟩ g j=>⟨x.at g,y.at j⟩
 item:=λi s Q E x ⟨h1,h2⟩ f p=>wpAny_nextOf_list_item h1 h2 f λh' a b=>p h' ⟨a,h2.at λo e=>b.extBut _ _ c e⟩ b
 done:=λi s Q E m ⟨h1,h2⟩ f n=>wpAny_nextOf_list_end m h1 h2 f n
theorem sV{it:N8}(hit:IsTupIter s.heap it t i)(ht:IsTup s.heap t items)(hx:items[i]?>x)
  (e:∀h',IsTupIter h' it t (i+1)->Ng.SameBut it s.heap h'->Q x {s with heap:=h'}):Na (Nd prog w) A (Nc.SmallTypes.nextOf (.ref it)) Q E s:=by
 let⟨o,d,f,c⟩:=id hit
 let⟨g,b,_,h,a⟩:=ht
 show Ja (KF (name:=Nh.ofString "__next__") hit.typeIs slot_tupleiter_next (JN slot_tupleiter_next hit.typeIs entry_tupleiter_next ?_ (args_tupleiter_next _)))
 change Na _ _ (field (.ref it) 0>>=_) _ _ s
 show Ja (J6 d c (x:=.ref t) Z ?_)
 show Ja (J6 d c (x:=.int i 0) Z ?_)
 show Ja (KD b a ?_)
 simp only[Kn,hx]
 show Ja (wpAny_setField d c (by simp) (Jc ⟨x,Z,Jc (e _ ?_ (Ng.SameBut.update ..))⟩))
 show⟨_,Kg _ d (Nv.isFreed_of_fields (Nv.data_mapFields c _)),(Nv.cls_mapFields ..).trans f,by rw[Nv.data_mapFields c];simp[NJ]⟩
theorem ur{it:N8}(g:A.handled=none)(hit:IsTupIter s.heap it t i)(ht:IsTup s.heap t items)(hx:items[i]?=none)
  (h:∀h' e,K8 it s.heap h'->(∃o,h'.get? e>o/\o.cls=.type "StopIteration")->E (.ref e) {s with heap:=h'}):Na (Nd prog w) A (Nc.SmallTypes.nextOf (.ref it)) Q E s:=by
 let⟨o,d,j,f⟩:=id hit
 let⟨k,c,_,l,b⟩:=ht
 show Ja (KF (name:=Nh.ofString "__next__") hit.typeIs slot_tupleiter_next (JN slot_tupleiter_next hit.typeIs entry_tupleiter_next ?_ (args_tupleiter_next _)))
 change Na _ _ (field (.ref it) 0>>=_) _ _ s
 show Ja (J6 d f (x:=.ref t) Z ?_)
 show Ja (J6 d f (x:=.int i 0) Z ?_)
 show Ja (KD c b ?_)
 simp only[Kn,hx]
 show Ja (KQ (Ja (wpAny_setField d f (by simp) ?_)))
 show Ja ?_
 show Ja (m:=firstArgMember _ _) (wpAny_of_eq (a:=N7.none) (by first|rfl|(simp only[firstArgMember];rfl)) (Kj ?_ (by size_fits)))
 show Ja (wpAny_handled ?_)
 first|rw[show A.in1.handled=none from g]|rw[g]
 show Ja (Jc (wpAny_throw ?_))
 show h _ _ (((Ng.SameBut.update ..).extBut.push _).push _) ⟨_,Jp _ Z,Z⟩
theorem Nx.tup {it t:N8}{items:Array N7}(c:t≠it):Nx prog w A it t items (λi h=>IsTupIter h it t i/\IsTup h t items) where
 obj:=λi h d=>by let⟨⟨o,h1,h2,k⟩,⟨o',e,_⟩⟩:=d;show⟨o,_,h1,k,by rw[h2];decide,o',e⟩
 keep:=λi h h' ⟨⟨o,h1,h2⟩,⟨o',e,p⟩⟩ g j=>⟨⟨o,g _ h1,h2⟩,⟨o',j _ e,p⟩⟩
 item:=λi s Q E x ⟨h1,h2⟩ f n=>sV h1 h2 f λh' a b=>n h' ⟨a,h2.extBut b.extBut c⟩ b
 done:=λi s Q E l ⟨h1,h2⟩ f m=>ur l h1 h2 f m
structure ZA (z TI TO i1 i2 s1 s2:N8):Prop where
 TIz:TI≠z
 TOz:TO≠z
 i1z:i1≠z
 i2z:i2≠z
 TITO:TI≠TO
 TIi1:TI≠i1
 TIi2:TI≠i2
 TOi1:TO≠i1
 TOi2:TO≠i2
 i12:i1≠i2
 s1z:s1≠z
 s1TO:s1≠TO
 s1i2:s1≠i2
 s2z:s2≠z
 s2TO:s2≠TO
 s2i1:s2≠i1
theorem CC {z TI TO i1 u Y U:N8}{xs ys:Array N7}{I J:Nat->Ng->Prop}{i:Nat}{x y a b:N7}{Q:N7->N_->Prop}(D:ZA z TI TO i1 u Y U)(R:Nx prog w A i1 Y xs I)(K:Nx prog w A u U ys J)
  (hz:IsZip s.heap z TI TO .none) (H:NI s.heap TI (.ref i1) (.ref u)) (O:NI s.heap TO a b) (h1:I i s.heap) (h2:J i s.heap) (hx:xs[i]?>x) (hy:ys[i]?>y)
  (hQ:∀h',IsZip h' z TI TO (NJ (~~~s))->NI h' TO x y->I (i+1) h'->J (i+1) h'->NI h' (~~~s) x y->h'.objs.size= ~~~s+1->
   (∀c o,c≠z->c≠TO->c≠i1->c≠u->s.heap.get? c>o->h'.get? c>o)->Q (.ref (~~~s)) {s with heap:=h'}):
  Na (Nd prog w) A (Nc.«zip.__next__» ⟨[.ref z],[]⟩) (λM s'=>∃v,M=.done (.ret v)/\Q v s') E s:=by
 change Na _ _ (field (.ref z) 2>>=_) _ _ _
 show Ja (J6 hz Z (x:=.bool false) Z ?_)
 show Ja (J6 hz Z (x:=.ref TI) Z (Ja (KD H Z ?_)))
 show Ja ?_
 show Ja (J6 hz Z (x:=.none) Z (Jc ?_))
 show Ja (KQ (Ja (J6 hz Z (x:=.ref TO) Z (Ja (Lg hz (by simp) λg1 z1 l=>?_)))))
 show Ja ?_
 show Ja (Ja (wpAny_onRaise ?_))
 show Ja (R.item i {s with heap:=g1} _ _ x (R.keep _ _ _ h1 (λo e=>l.extBut _ _ D.i1z e) (λo e=>l.extBut _ _ D.s1z e)) hx λg2 a1 q=>Jc ?_)
 let X:NI g2 TO a b:=q.extBut _ _ D.TOi1 (l.extBut _ _ D.TOz O)
 show Ja (KD X Z (Ja (wpAny_updateSeq_pair X λg3 t3 m=>?_)))
 show Ja (wpAny_letGo (Jc ?_))
 show Ja (Ja (wpAny_onRaise ?_))
 show Ja (K.item i {s with heap:=g3} _ _ y (K.keep _ _ _ h2 (λo e=>m.extBut _ _ D.TOi2.symm (q.extBut _ _ D.i12.symm (l.extBut _ _ D.i2z e))) (λo e=>m.extBut _ _ D.s2TO (q.extBut _ _ D.s2i1 (l.extBut _ _ D.s2z e)))) hy λg4 a2 r=>Jc ?_)
 let Z0:NI g4 TO x b:=r.extBut _ _ D.TOi2 t3
 show Ja (KD Z0 Z (Ja (wpAny_updateSeq_pair Z0 λk F p=>?_)))
 replace F:NI k TO x y:=F
 show Ja (wpAny_letGo (Jc (Jc ?_)))
 show Ja (KD F Z (Ja (wpAny_newTuple ?_)))
 let d:k.objs.size= ~~~s:=by rw[p.1,r.1,m.1,q.1,l.1]
 let T:IsZip k z TI TO .ellipsis:=p.extBut _ _ D.TOz.symm (r.extBut _ _ D.i2z.symm (m.extBut _ _ D.TOz.symm (q.extBut _ _ D.i1z.symm z1)))
 let j:∀c o,c≠z->c≠TO->c≠i1->c≠u->s.heap.get? c>o->k.get? c>o:=λc o n C S L e=>p.extBut _ _ C (r.extBut _ _ L (m.extBut _ _ C (q.extBut _ _ S (l.extBut _ _ n e))))
 let f:z<k.objs.size:=Jj T
 show Ja ?_
 let z6:IsZip (k.push {cls:=.type "tuple",data:=.seq #[x,y]}) z TI TO .ellipsis:=Ji _ T
 show Ja (Lg z6 (by simp) λg7 z7 P=>?_)
 show Lg z7 (by simp) λB W N=>?_
 let up:∀c o,c≠z->k.get? c>o->B.get? c>o:=λc o n e=>N.extBut _ _ n (P.extBut _ _ n (Ji _ e))
 let g:NI B k.objs.size x y:=N.extBut _ _ (Kv f) (P.extBut _ _ (Kv f) (Jp _ Z))
 let h:B.objs.size=k.objs.size+1:=by rw[N.1,P.1,Kc]
 rw[d] at W g h
 show Jc ⟨_,Z,?_⟩
 rw[d]
 show hQ B W (up _ _ D.TOz F)
  (R.keep _ _ _ a1 (λo e=>up _ o D.i1z (p.extBut _ _ D.TOi1.symm (r.extBut _ _ D.i12 (m.extBut _ _ D.TOi1.symm e)))) (λo e=>up _ o D.s1z (p.extBut _ _ D.s1TO (r.extBut _ _ D.s1i2 (m.extBut _ _ D.s1TO e)))))
  (K.keep _ _ _ a2 (λo e=>up _ o D.i2z (p.extBut _ _ D.TOi2.symm e)) (λo e=>up _ o D.s2z (p.extBut _ _ D.s2TO e))) g h λc o n C S L e=>up c o n (j c o n C S L e)
theorem EK{TI TO:N8}{I L:Nat->Ng->Prop}{Q:Fin->N_->Prop}(N:A.handled=none)(D:ZA z TI TO i1 i2 s1 s2)(F:Nx prog w A i1 s1 xs I)(M:Nx prog w A i2 s2 ys L)
  (hz:IsZip s.heap z TI TO .none) (q:NI s.heap TI (.ref i1) (.ref i2)) (v:NI s.heap TO a b) (h1:I i s.heap) (Z0:L i s.heap) (n:xs[i]?=none\/ys[i]?=none)
  (O:∀h' e,(∀c o,c≠z->c≠TO->c≠i1->c≠i2->s.heap.get? c>o->h'.get? c>o)->(∃o,h'.get? e>o/\o.cls=.type "StopIteration")->E (.ref e) {s with heap:=h'}):
  Na (Nd prog w) A (Nc.«zip.__next__» ⟨[.ref z],[]⟩) Q E s:=by
 change Na _ _ (field (.ref z) 2>>=_) _ _ _
 show Ja (J6 hz Z (x:=.bool false) Z ?_)
 show Ja (J6 hz Z (x:=.ref TI) Z (Ja (KD q Z ?_)))
 show Ja ?_
 show Ja (J6 hz Z (x:=.none) Z (Jc ?_))
 show Ja (KQ (Ja (J6 hz Z (x:=.ref TO) Z (Ja (Lg hz (by simp) λC K l=>?_)))))
 show Ja ?_
 show Ja (Ja (wpAny_onRaise ?_))
 let j:=F.keep _ _ C h1 (λo e=>l.extBut _ _ D.i1z e) (λo e=>l.extBut _ _ D.s1z e)
 cases hx:xs[i]? with
 |none=>
  show Ja (F.done i {s with heap:=C} _ _ N j hx λr e k u=>?_)
  let⟨y,d,f⟩:=u
  let P:IsZip r z TI TO .ellipsis:=k _ _ D.i1z.symm K
  let g:e≠z:=λx=>by subst x;rw[P] at d;cases d;simp at f
  show Lg P (by simp) λB _ m=>O B e (λc o p _ H _ x=>m.extBut _ _ p (k _ _ H (l.extBut _ _ p x))) ⟨y,m.extBut _ _ g d,f⟩
 |some x=>
  let Y:ys[i]?=none:=by rcases n with h|h;rw[hx] at h;cases h;show h
  show Ja (F.item i {s with heap:=C} _ _ x j hx λr a1 k=>Jc ?_)
  let J:NI r TO a b:=k.extBut _ _ D.TOi1 (l.extBut _ _ D.TOz v)
  show Ja (KD J Z (Ja (wpAny_updateSeq_pair J λB t3 m=>?_)))
  show Ja (wpAny_letGo (Jc ?_))
  show Ja (Ja (wpAny_onRaise ?_))
  show Ja (M.done i {s with heap:=B} _ _ N (M.keep _ _ _ Z0 (λo e=>m.extBut _ _ D.TOi2.symm (k.extBut _ _ D.i12.symm (l.extBut _ _ D.i2z e))) (λo e=>m.extBut _ _ D.s2TO (k.extBut _ _ D.s2i1 (l.extBut _ _ D.s2z e)))) Y λX e S u=>?_)
  let⟨y,d,f⟩:=u
  let R:IsZip X z TI TO .ellipsis:=S _ _ D.i2z.symm (m.extBut _ _ D.TOz.symm (k.extBut _ _ D.i1z.symm K))
  let g:e≠z:=λx=>by subst x;rw[R] at d;cases d;simp at f
  show Lg R (by simp) λU _ T=>O U e (λc o p c2 H W x=>T.extBut _ _ p (S _ _ W (m.extBut _ _ c2 (k.extBut _ _ H (l.extBut _ _ p x))))) ⟨y,T.extBut _ _ g d,f⟩
theorem kE(I:aG X O9 σ H s)(h:bh X.K H t xs)(f:jc X O9 H b):t≠b:=λz=>by
 subst z
 let⟨a,j,g,f3,i,e⟩:=f
 rcases h with (h|⟨_,h⟩)|⟨o,d,n,c,_⟩
 ·rw[a] at h;cases h
 ·rw[a] at h;cases h
 ·let hb:=I.ok.mod.kin _ _ c
  rcases f3 with f3|f3
  ·show I.ok.noex _ _ hb f3
  ·show absurd (JM (Jj (I.ok.bs _ _ hb).1) f3) (JU _)
noncomputable def El (K:Je) (a t2:N8):It:=
 ⟨λi H=>∃xs ys x y,bh K H a xs/\bh K H t2 ys/\xs[i]?>x/\ys[i]?>y,
  λi H x H'=>∃p b c,H p=none/\x=.ref p/\H'=Oc H p (.tup [b,c])/\(∀xs,bh K H a xs->xs[i]?>b)/\∀ys,bh K H t2 ys->ys[i]?>c,
  λi H=>∃xs ys,bh K H a xs/\bh K H t2 ys/\(↑xs<=i\/↑ys<=i)⟩
def G_ (z TI TO i1 c d t2:N8) (i:Nat) (h:Ng):Prop:=IsZip h z TI TO .none/\NI h TI (.ref i1) (.ref c)/\(∃a b,NI h TO a b)/\IsTupIter h i1 d i/\IsTupIter h c t2 i
theorem DC{TI TO:N8}(I:aG X O9 σ H s)(hf:∀b∈[z,TI,TO,i1,i2],jc X O9 H b)(e:bh X.K H t1 xs)(f:bh X.K H t2 ys)(n:TI≠z/\TO≠z/\i1≠z/\i2≠z/\TI≠TO/\TI≠i1/\TI≠i2/\TO≠i1/\TO≠i2/\i1≠i2):ZA z TI TO i1 i2 t1 t2:=by
 let a:∀b∈[z,TI,TO,i1,i2],t1≠b:=λb hb=>kE I e (hf b hb)
 let c:∀b∈[z,TI,TO,i1,i2],t2≠b:=λb hb=>kE I f (hf b hb)
 let⟨i,j,g,k,l,p,o,m,h,d⟩:=n
 show⟨i,j,g,k,l,p,o,m,h,d,a _ (by simp),a _ (by simp),a _ (by simp),c _ (by simp),c _ (by simp),c _ (by simp)⟩
theorem yd {P:Ni}{ad:-Nw}{x1:Nat}{a7:O2}(z TI TO i1 i2 t1 t2:N8)(D0:TI≠z/\TO≠z/\i1≠z/\i2≠z/\TI≠TO/\TI≠i1/\TI≠i2/\TO≠i1/\TO≠i2/\i1≠i2):
  pR P w K (.Tuple ad x1 a7) (El K t1 t2) [z,TI,TO,i1,i2] z (G_ z TI TO i1 i2 t1 t2) where
 mem:=by simp
 obj:=λi h st b hb=>by
  let⟨h1,h2,⟨a,c,h3⟩,⟨o4,h4,_,d4⟩,⟨o5,h5,_,d5⟩⟩:=st
  simp only[Jk,JJ,or_false] at hb
  rcases hb with rfl|rfl|rfl|rfl|rfl
  ·show⟨_,h1,λv e=>by let e':Data.fields _=Data.cell v:=e;cases e'⟩
  ·show⟨_,h2,λv e=>by let e':Data.seq _ _=Data.cell v:=e;cases e'⟩
  ·show⟨_,h3,λv e=>by let e':Data.seq _ _=Data.cell v:=e;cases e'⟩
  ·show⟨_,h4,λv e=>by rw[d4] at e;cases e⟩
  ·show⟨_,h5,λv e=>by rw[d5] at e;cases e⟩
 keep:=λi h h' Z0 k=>by
  let⟨h1,h2,⟨a,c,h3⟩,⟨o4,h4,c4,d4⟩,⟨o5,h5,c5,d5⟩⟩:=Z0
  show⟨k z (by simp) _ h1,k TI (by simp) _ h2,⟨a,c,k TO (by simp) _ h3⟩,⟨o4,k i1 (by simp) _ h4,c4,d4⟩,⟨o5,k i2 (by simp) _ h5,c5,d5⟩⟩
 item:=by
  intro X hP hw hK hc i O9 s σ H E I hf st hg
  subst hP hw hK
  let⟨xs,ys,x,y,f,d,hx,hy⟩:=hg
  let⟨Z0,j,⟨a,b,B⟩,p,C⟩:=st
  let⟨n,r1,p1,_⟩:=I.tuple f
  let⟨m,r2,p2,_⟩:=I.tuple d
  let⟨u1,M,R⟩:=r1.get hx
  let⟨u2,S,N⟩:=r2.get hy
  let D:=DC I hf f d D0
  let⟨d1,d2,d3,d4,d5,d6,d7,d8,d9,Y⟩:=D0
  let hT:s.TypeIs (.ref z) "zip" :=⟨_,Z0,Z⟩
  let nT:s.heap.get? (~~~s)=none:=Ku (Jd _)
  let J:∀b∈[z,TI,TO,i1,i2],b<~~~s:=λb hb=>by
   let⟨_,e4,_⟩:=p
   let⟨_,e5,_⟩:=C
   simp only[Jk,JJ,or_false] at hb
   rcases hb with rfl|rfl|rfl|rfl|rfl
   ·show Jj Z0
   ·show Jj j
   ·show Jj B
   ·show Jj e4
   ·show Jj e5
  show Ja (KR (KF (name:=Nh.ofString "__next__") hT F.slot_zip_next (JN F.slot_zip_next hT F.entry_zip_next
   (CC D (Nx.tup (items:=n.toArray) (kE I f (hf _ (by simp)))) (Nx.tup (items:=m.toArray) (kE I d (hf _ (by simp)))) Z0 j B ⟨p,p1⟩ ⟨C,p2⟩ (by simpa using M) (by simpa using S) λh' a1 a2 a3 a4 a5 a6 hk=>Jc ⟨_,Z,?_⟩) (F.args_zip_next_1 _))))
  show wpAny_letOwnedTupleGo_zip (s:={s with heap:=h'}) a1 λh2 an sb=>?_
  let O:z<~~~s:=J z (by simp)
  let W:h2.get? (~~~s)=some {cls:=.type "tuple",data:=.seq #[u1,u2]}:=(sb.2 _ (Kv O)).trans a5
  show⟨.ref (~~~s),Oc H (~~~s) (.tup [x,y]),aG.turnedLaid (s:=s) (h':=h2) (fp:=[z,TI,TO,i1,i2]) (t':=s.toks) I hf (λb v hb q=>?_) nT ?_,Z,⟨_,x,y,I.hok.none_of nT,Z,Z,λl hl=>by rw[I.tuple_inj hl f];show hx,λl hl=>by rw[I.tuple_inj hl d];show hy⟩,
   ⟨an,?_,⟨_,_,(sb.2 _ d2).trans a2⟩,?_,?_⟩,λb hb=>?_⟩
  ·let g:b≠z/\b≠TO/\b≠i1/\b≠i2:=⟨λe=>hb (by simp[e]),λe=>hb (by simp[e]),λe=>hb (by simp[e]),λe=>hb (by simp[e])⟩
   show(sb.2 b g.1).trans (hk b v g.1 g.2.1 g.2.2.1 g.2.2.2 q)
  ·show⟨by change 2<=N9;decide,_,.cons R (.cons N .nil),_,W,Z,_,Z⟩
  ·show(sb.2 _ d1).trans (hk _ _ d1 d5 d6 d7 j)
  ·let⟨o,e,r⟩:=a3.1
   show⟨o,(sb.2 _ d3).trans e,r⟩
  ·let⟨o,e,r⟩:=a4.1
   show⟨o,(sb.2 _ d4).trans e,r⟩
  ·rw[aj (Jm (J b hb))];show(hf b hb).1
 done:=by
  intro X hP hw hK hc i O9 s σ H E I hf st hg
  subst hP hw hK
  let⟨xs,ys,f,d,L⟩:=hg
  let⟨Z0,j,⟨a,b,B⟩,p,C⟩:=st
  let⟨n,r1,p1,_⟩:=I.tuple f
  let⟨m,r2,p2,_⟩:=I.tuple d
  let e1:=↑r1
  let e2:=↑r2
  let D:=DC I hf f d D0
  let hT:s.TypeIs (.ref z) "zip" :=⟨_,Z0,Z⟩
  show Ja (KR (KF (name:=Nh.ofString "__next__") hT F.slot_zip_next (JN F.slot_zip_next hT F.entry_zip_next
   (EK (show X.A.in1.handled=none from I.ok.hd hc) D (Nx.tup (items:=n.toArray) (kE I f (hf _ (by simp)))) (Nx.tup (items:=m.toArray) (kE I d (hf _ (by simp)))) Z0 j B ⟨p,p1⟩ ⟨C,p2⟩ ?_ λh' e hk he=>?_) (F.args_zip_next_1 _))))
  ·rcases L with h|h
   ·show .inl (LR (by simp;lia))
   ·show .inr (LR (by simp;lia))
  ·let⟨o,ho,U⟩:=he
   show Ja (KC (T:= "StopIteration") (b:=true) ⟨o,ho,U⟩ isSubtype_stop ?_)
   show Jc ⟨Z,?_⟩
   show I.turnedFp hf λb u hb q=>hk b u (λe=>hb (by simp[e])) (λe=>hb (by simp[e])) (λe=>hb (by simp[e])) (λe=>hb (by simp[e])) q
 self:=λA i s Q E st h=>wpAny_pyIter_zip st.1 h
abbrev Fd (c:String) (h:Ng) (l1:N8):Ng:=h.push {cls:=.type c,data:=.fields #[.ref l1,.int 0 0]}
abbrev GE (c:String) (h:Ng) (l1 l2:N8):Ng:=(Fd c h l1).push {cls:=.type c,data:=.fields #[.ref l2,.int 0 0]}
abbrev GW (c:String) (h:Ng) (l1 l2:N8):Ng:=(GE c h l1 l2).push {cls:=.type "tuple",data:=.seq #[.ref h.objs.size,.ref (Fd c h l1).objs.size]}
abbrev GM (c:String) (h:Ng) (l1 l2:N8):Ng:=(GW c h l1 l2).push {cls:=.type "tuple",data:=.seq #[.none,.none]}
abbrev Eg (c:String) (h:Ng) (l1 l2:N8):Ng:=(GM c h l1 l2).push {cls:=.type "zip",data:=.fields #[.none,.bool false,.bool false,.ref (GE c h l1 l2).objs.size,.ref (GW c h l1 l2).objs.size]}
set_option maxHeartbeats 0 in
theorem Bj{J:Ng->N8->Array N7->Prop}(k:c= "tuple_iterator" /\J=IsTup\/c= "list_iterator" /\J=Ng.IsList)(a b:N8)(xs ys:Array N7):Meets (Nc.«zip.__new__» ⟨[.type "zip",.ref a,.ref b],[]⟩) (λ_ R s=>J s.heap a xs/\J s.heap b ys/\R (.ok (.ret (.ref (GM c s.heap a b).objs.size))) {s with heap:=Eg c s.heap a b}):=
 .of_wp λprog w A R s h=>by
  let⟨hp,g,d,e,os⟩:=s;let⟨j,i,h⟩:=h
  let sz:=sub_zip
  rcases k with ⟨rfl,rfl⟩|⟨rfl,rfl⟩
  ·let f:IsTup (N_.heap ⟨hp,g,d,e,os⟩) a xs:=j
   let b2:IsTup (N_.heap ⟨Fd "tuple_iterator" hp a,g,d,e,os⟩) b ys:=IsTup.push i _
   wp_walk using iter_tuple f,iter_tuple b2
   show⟨_,Z,h⟩
  ·let f:Ng.IsList (N_.heap ⟨hp,g,d,e,os⟩) a xs:=j
   let b2:Ng.IsList (N_.heap ⟨Fd "list_iterator" hp a,g,d,e,os⟩) b ys:=Ng.IsList.push i _
   wp_walk using Kw f,Kw b2
   show⟨_,Z,h⟩
def I0 (c:String) (z TI TO i1 d e t2:N8) (i:Nat) (h:Ng):Prop:=IsZip h z TI TO .none/\NI h TI (.ref i1) (.ref d)/\(∃a b,NI h TO a b)/\(∃o,h.get? i1>o/\o.cls=.type c/\o.data=.fields #[.ref e,.int i 0])/\∃o,h.get? d>o/\o.cls=.type c/\o.data=.fields #[.ref t2,.int i 0]
theorem As{J:Ng->N8->Array N7->Prop}(u:c= "tuple_iterator" /\J=IsTup\/c= "list_iterator" /\J=Ng.IsList){a b:N8}{xs ys:Array N7}{Q:N7->N_->Prop}(e:J s.heap a xs)(l:J s.heap b ys)
  (h:∀h',I0 c (~~~s+4) (~~~s+2) (~~~s+3) (~~~s) (~~~s+1) a b 0 h'->h'.objs.size= ~~~s+5->(∀c o,s.heap.get? c>o->h'.get? c>o)->Q (.ref (~~~s+4)) {s with heap:=h'}):
  Na (Nd prog w) A (call (.type "zip") [.ref a,.ref b]) Q E s:=by
 show callType_new F.called_zip (by decide) (F.typeCall_zip_2 _ _) (F.newCall_zip_2 _ _) (λj=>F.args_object_init_3 j _ _) F.entry_zip_new (Bj u a b xs ys) ⟨e,l,?_⟩
 let d:(Fd c s.heap a).objs.size= ~~~s+1:=Kc ..
 let g:(GE c s.heap a b).objs.size= ~~~s+2:=by rw[Kc,d]
 let f:(GW c s.heap a b).objs.size= ~~~s+3:=by rw[Kc,g]
 let k:(GM c s.heap a b).objs.size= ~~~s+4:=by rw[Kc,f]
 let q:(Eg c s.heap a b).objs.size= ~~~s+5:=by rw[Kc,k]
 let i:(Eg c s.heap a b).get? (GM c s.heap a b).objs.size>_:=Jp _ Z
 let n:(Eg c s.heap a b).get? (GW c s.heap a b).objs.size>_:=Ji _ (Jp _ Z)
 let p:(Eg c s.heap a b).get? (GE c s.heap a b).objs.size>_:=Ji _ (Ji _ (Jp _ Z))
 let m:(Eg c s.heap a b).get? (Fd c s.heap a).objs.size>_:=Ji _ (Ji _ (Ji _ (Jp _ Z)))
 let r:(Eg c s.heap a b).get? (~~~s)>_:=Ji _ (Ji _ (Ji _ (Ji _ (Jp _ Z))))
 rw[g,f,k] at i
 rw[d,g] at p
 rw[f] at n
 rw[d] at m
 rw[k]
 show⟨⟨_,i,Z⟩,h _ ⟨i,p,⟨_,_,n⟩,⟨_,r,Z,Z⟩,⟨_,m,Z,Z⟩⟩ q λc o x=>Ji _ (Ji _ (Ji _ (Ji _ (Ji _ x))))⟩
def Gb (K:Je) (ta:TA):TI:=λσ H R=>ta σ H λvs H1=>∃a b,vs=[.ref a,.ref b]/\(∃xs,bh K H1 a xs)/\(∃ys,bh K H1 b ys)/\R (El K a b) H1
theorem Cr(w:Gl X "zip")(D:X.mg "zip" =none)(C:PA X [a,b] ta)(J:Nf [a,b] X.env=[(false,eval a X.env),(false,eval b X.env)]:=by rfl)
  (x:Nf [a,b] X.env=(false,eval a X.env)::Nf [b] X.env:=by rfl) (m:(NG pos (Nf [b] X.env)).any (·.1)=false:=by rfl):
  PI X (.Tuple elts x1 pt) (.Call (.Name "zip" p) [a,b] [] pos) (Gb X.K ta):=by
 intro O9 s σ H R I h
 show KM (iJ I w D D8 ?_ (by decide) (by decide))
 show PyProof.Rows.callWith_type1 (cz (C pos O9 s σ H _ I h) λE s1 o=>?_) x m
 let⟨vs,H1,I1,B,l1,l2,A,⟨xs,d⟩,⟨ys,g⟩,q⟩:=o
 subst A
 let⟨y,u,rfl,e,f⟩:=gF B
 cases(show y=N7.ref l1 from e)
 cases(show u=N7.ref l2 from f)
 let⟨j,k,v,_⟩:=I1.tuple d
 let⟨i,l,p2,_⟩:=I1.tuple g
 show As (.inl ⟨Z,Z⟩) v p2 λh' st sz r=>?_
 show wpAny_pyIter_zip (s:={s1 with heap:=h'}) st.1 ?_
 show⟨~~~s1+4,[~~~s1+4,~~~s1+2,~~~s1+3,~~~s1,~~~s1+1],_,_,H1,Z,I1.kept (t':=s1.toks) r,yd _ _ _ _ _ l1 l2 ?_,st,λb hb=>?_,q⟩
 ·generalize (~~~s1)=n
  show⟨?_,?_,?_,?_,?_,?_,?_,?_,?_,?_⟩<;>(intro z;let F:(_:Nat)=_:=z;lia)
 ·let c: ~~~s1<=b:=by
   simp only[Jk,JJ,or_false] at hb
   rcases hb with rfl|rfl|rfl|rfl|rfl
   ·show KU _ _
   ·show KU _ _
   ·show KU _ _
   ·show Jd _
   ·show KU _ _
  show I1.fpOk c (I1.hok.fresh c)
theorem AD {a b:N8}{xs ys:-V}(l:↑xs=↑ys){S:SV}{F:St->Hp->Prop}(c:Nat->St->Hp->Prop)(h0:c 0 σ H)(d:∀i σ H,i<=↑xs->c i σ H->bh K H a xs/\bh K H b ys)(m:∀i x y p σ H,xs[i]?>x->ys[i]?>y->H p=none->c i σ H->S (c (i+1)) (.ref p) σ (Oc H p (.tup [x,y])))(n:∀σ H,c ↑xs σ H->F σ H):A9 (El K a b) σ H S F:=by
 show jF ↑xs c h0 (λi σ H hi p=>?_) λσ H p=>⟨⟨xs,ys,(d _ σ H (Jd _) p).1,(d _ σ H (Jd _) p).2,.inl (Jd _)⟩,n σ H p⟩
 let⟨e,f⟩:=d i σ H (JX hi) p
 show⟨⟨xs,ys,xs[i],ys[i],e,f,by simp[hi],by simp[show i<↑ys by omega]⟩,?_⟩
 rintro _ _ ⟨P,g,k,o,rfl,rfl,h,j⟩
 show m i g k P σ _ (h xs e) (j ys f) o p
section
variable {d it v:N8} {o:Nv} {es:Array NE} {i ep:Nat}
theorem B3(e:(d==NR)=false)(c:s.heap.get? d>o)(b:o.ExactDict)
  (h:Q (.ref (~~~s)) {s with heap:=s.heap.push {cls:=.type "dict_values",data:=.fields #[.ref d]}}):Na (Nd prog w) A (call (.builtin "dict.values") [.ref d]) Q E s:=by
 let a:s.TypeIs (.ref d) "dict" :=⟨o,c,b.1⟩
 show JN F.slot_dict_values a F.entry_dict_values ?_ (F.args_dict_values_1 _)
 show Ja ?_
 show Ja (KB a ?_)
 show Jc ?_
 unfold Nc.Dict.showsAll
 rw[N0 (e<|Jw)]
 show Ja (Jc (Ja (Kj (Jc ⟨_,Z,h⟩))))
theorem Bp(hv:s.heap.IsValuesView v d)(f:s.heap.get? d>o)(e:o.data=.dict es ep)
  (g:Q (.ref (~~~s)) {s with heap:=s.heap.push {cls:=.type "dict_valueiterator",data:=.fields #[.ref d,.int 0 0,.int es.size 0,.int ep 0]}}):Na (Nd prog w) A (pyIter (.ref v)) Q E s:=by
 let⟨h,a,c,b⟩:=id hv
 show wpAny_pyIter_slot hv.typeIs F.slot_dict_values_iter (JN F.slot_dict_values_iter hv.typeIs F.entry_dict_values_iter ?_ (F.args_dict_values_iter_1 _))
 show Ja (Jc (Ja ?_))
 show Ja (J6 a b (x:=.ref d) Z (Jc (Ja ?_)))
 show Ja (JW f e (Ja (KP f e ?_)))
 simp only[show Nc.Dict_items.ownsTuple "dict_valueiterator" =false by decide,Kq,if_false]
 show Kj (Jc ⟨_,Z, "dict_valueiterator",_,⟨_,Jp _ Z,Z⟩,F.slot_dict_valueiterator_next.lookup,?_⟩)
 simpa[NJ] using g
theorem CG(hit:s.heap.IsValIter it d i es.size ep)(b:s.heap.get? d>o)(a:o.data=.dict es ep)(h:i<es.size)
  (f:∀h',h'.IsValIter it d (i+1) es.size ep->Ng.SameBut it s.heap h'->Q (some es[i].val) {s with heap:=h'}):Na (Nd prog w) A (NH (.ref it)) Q E s:=by
 let⟨j,e,g,c⟩:=id hit
 show Ja (KR (KF (name:=Nh.ofString "__next__") hit.typeIs F.slot_dict_valueiterator_next
  (JN F.slot_dict_valueiterator_next hit.typeIs F.entry_dict_valueiterator_next ?_ (F.args_dict_valueiterator_next_1 _))))
 show Ja (Jc (Ja (Ja ?_)))
 show Ja (LQ hit.typeIs (Jc ?_))
 show Ja (wpAny_fieldsOf e c ?_)
 change Na _ _ (if (N7.ref d==N7.none)=true then _ else _) _ _ s
 show Ja (Jc (Ja (JW b a ?_)))
 rw[N0 (by simp)]
 show Ja (Jc (Ja (KP b a ?_)))
 rw[N0 (by simp)]
 show Jc ?_
 simp only[show¬((i:Int)<0) from by lia,if_false,Kn,Kb h]
 show Ja ?_
 show Ja (LQ hit.typeIs (Jc ?_))
 show Ja (wpAny_isOneOf_valiter hit.typeIs ?_)
 change Na _ _ (setField (.ref it) 1 (NJ ((i:Int)+1))>>=_) _ _ s
 show Ja (wpAny_setField e c (by simp) ?_)
 let new:(s.heap.update it (Nv.mapFields (·.setIfInBounds 1 (NJ ((i:Int)+1))))).IsValIter it d (i+1) es.size ep:=
  ⟨_,Kg _ e (Nv.isFreed_of_fields (Nv.data_mapFields c _)),(Nv.cls_mapFields ..).trans g,by rw[Nv.data_mapFields c];simp[NJ]⟩
 show Ja (Jy (Ja (wpAny_isOneOf_valiter (s:={s with heap:=s.heap.update it (Nv.mapFields (·.setIfInBounds 1 (NJ ((i:Int)+1))))}) new.typeIs ?_)))
 show Ja (wpAny_isOneOf_valiter (s:={s with heap:=s.heap.update it (Nv.mapFields (·.setIfInBounds 1 (NJ ((i:Int)+1))))}) new.typeIs ?_)
 show Jc (Jc ⟨_,Z,Jc (f _ new (Ng.SameBut.update ..))⟩)
theorem EX(f:A.handled=none)(hit:s.heap.IsValIter it d i es.size ep)(b:s.heap.get? d>o)(a:o.data=.dict es ep)(e:es.size<=i)(c:∀h',K8 it s.heap h'->Q none {s with heap:=h'}):Na (Nd prog w) A (NH (.ref it)) Q E s:=(wG f b a e c).2 hit
end
noncomputable def GZ (d:N8) (o:Nv) (u:HO):It:=
 ⟨λi H=>H d>.frz o u/\i<nU u,λi H v H'=>H'=H/\∃x,rW H u i x v,λi H=>H d>.frz o u/\nU u<=i⟩
theorem xS {P:Ni}{N:Nw}(d it:N8)(o:Nv)(u:HO)(J:qT u)(B:Array NE)(L:Nat)(p:o.data=.dict B L):
  pR P w K N (GZ d o u) [it] it (λi h=>h.IsValIter it d i B.size L) where
 mem:=by simp
 obj:=λi h st b hb=>by
  rw[Jg.mp hb]
  let⟨r,e,c,q⟩:=st
  show⟨r,e,λv z=>by rw[q] at z;cases z⟩
 keep:=λi h h' st k=>Ng.IsValIter.at st λr e=>k it (by simp) r e
 item:=by
  intro X W O R D i O9 s σ H E I hf st hg
  let⟨y,hi⟩:=hg
  let⟨_,f,_,l,m,a,Y,g⟩:=iL I.hok y J
  rw[p] at a;cases a
  let j:i<B.size:=by omega
  let⟨x,v,T,Z0,S⟩:=g i j
  show CG st f p j λh' n sb=>?_
  let M:aG X O9 σ H {s with heap:=h'}:=I.turned (t':=s.toks) hf (λb C hb e=>(sb.2 b hb).trans e)
  let⟨r,e,c,q⟩:=id n
  show⟨_,Z,q9 (s:={s with heap:=h'}) e c q (by decide) ⟨v,H,M,S,⟨Z,x,T⟩,n,λb hb=>(hf b hb).1⟩⟩
 done:=by
  intro X W O R D i O9 s σ H E I hf st hg
  let⟨y,hi⟩:=hg
  let⟨_,f,_,l,m,a,Y,g⟩:=iL I.hok y J
  rw[p] at a;cases a
  show EX (I.ok.hd D) st f p (by omega) λh' U=>⟨Z,I.turned (t':=s.toks) hf (λb C hb e=>U b C hb e)⟩
 self:=λA i s Q E st h=>by
  show wpAny_pyIter_slot st.typeIs F.slot_dict_valueiterator_iter (JN F.slot_dict_valueiterator_iter st.typeIs entry_dict_valueiterator_iter ?_ (F.args_dict_valueiterator_iter_1 _))
  show Jc ⟨_,Z, "dict_valueiterator",_,st.typeIs,F.slot_dict_valueiterator_next.lookup,h⟩
def F_ (te:TE):TI:=λσ H R=>te σ H λx H1=>∃d o u,x=.ref d/\H1 d>.frz o u/\qT u/\R (GZ d o u) H1
theorem oY(y:PE X e te)
  (i:NV e "values" X.env (eval e X.env)=eval e X.env:=by rfl) (g:(apos.endLine==cpos.line)=true:=by rfl):
  PI X tg (.Call (.Attribute e "values" apos) [] [] cpos) (F_ te):=by
 intro O9 s σ H R I h
 show wpAny_Call_method0_late i g (cz (y O9 s σ H _ I h) λv s1 k=>?_)
 let⟨x,H1,I1,r,d,o,u,ex,A,n,q⟩:=k
 subst ex
 cases(show v=N7.ref d from r)
 let⟨p,c,j,es,ep,f,B,_⟩:=iL I1.hok A n
 show⟨"dict", "dict.values",F.plainAttrs_dict,F.slot_dict_values,F.type_dict_values,⟨o,c,j.1⟩,λa w=>by cases w;show⟨o,c,j.2.1⟩,Calls.callWith_builtin Z (PySem.evalArgs_none ?_)⟩
 show B3 p c j ?_
 let m:∀b ob,s1.heap.get? b>ob->(s1.heap.push {cls:=.type "dict_values",data:=.fields #[.ref d]}).get? b>ob:=λb ob z=>Ji _ z
 show Bp (s:={s1 with heap:=s1.heap.push {cls:=.type "dict_values",data:=.fields #[.ref d]}}) ⟨_,Jp _ Z,Z,Z⟩ (m _ _ c) f ?_
 let l:=I1.kept (t':=s1.toks) m
 show⟨_,[(s1.heap.push {cls:=.type "dict_values",data:=.fields #[.ref d]}).objs.size],_,_,H1,Z,l.kept (t':=s1.toks) (λb ob z=>Ji _ z),xS d _ o u n es ep f,⟨_,Jp _ Z,Z,Z⟩,λb hb=>?_,q⟩
 rw[Jg.mp hb]
 show l.fpOk (Jd _) (l.hok.fresh (Jd _))
theorem rJ {d:N8}{o:Nv}{u:HO}{S:SV}{F:St->Hp->Prop}(a:Nat->St->Hp->Prop)(h0:a 0 σ H)(b:∀i σ H,i<=nU u->a i σ H->H d>.frz o u)(c:∀i x v σ H,rW H u i x v->i<nU u->a i σ H->S (a (i+1)) v σ H)(e:∀σ H,a (nU u) σ H->F σ H):A9 (GZ d o u) σ H S F:=by
 show jF (nU u) a h0 (λi σ H hi p=>⟨⟨b i σ H (JX hi) p,hi⟩,?_⟩) λσ H p=>⟨⟨b _ σ H (Jd _) p,Jd _⟩,e σ H p⟩
 rintro v _ ⟨rfl,x,k⟩
 show c i x v σ _ k hi p
theorem fI:∀{c d:-Int},c.map V.int=d.map V.int->c=d
 |[],[],_=>rfl
 |[],_::_,h=>by simp at h
 |_::_,[],h=>by simp at h
 |a::c,b::d,h=>by
  injection h with h1 h2
  injection h1 with h1
  rw[h1,fI h2]
noncomputable def tD (H:Hp) (c:-Int) (u:N7):Bool:=match u with
 | .ref a=> @decide (H a>.tup (c.map V.int)) (Classical.propDecidable _)
 |_=>false
theorem zK(h:H a>.tup (d.map V.int)):tD H c (.ref a)=decide (d=c):=by
 change @decide (H a>.tup (c.map V.int)) (Classical.propDecidable _)=decide (d=c)
 by_cases e:d=c
 ·subst e
  rw[N3 (rfl:d=d)]
  show @N3 _ (Classical.propDecidable _) h
 ·rw[N5 e]
  show @N5 _ (Classical.propDecidable _) λz=>e ?_
  rw[h] at z
  injection z with z
  injection z with z
  show fI z
def Gx (K:Je) (a:Bool):R2:=λx y H Q=>∃(b p:N8) (as:-N8) (c:-Int) (cs:-(-Int)),x=.ref b/\y=.ref p/\H b>.tup (c.map V.int)/\aM K H p (as.map V.ref)/\bG H as cs/\Q (.bl (if a then !decide (c∈cs) else decide (c∈cs))) H
theorem lL{cs:-(-Int)}(g:bG H as cs):(as.map N7.ref).any (tD H c)=decide (c∈cs):=by
 induction g with
 |nil=>simp
 | @cons a d as cs r t ih=>
  rw[Jq,List.any_cons,zK r,ih]
  by_cases h:d=c
  ·subst h;simp
  ·have:¬c=d:=λz=>h z.symm
   simp[h,this]
theorem lG(i:aR k X.A)(I:aG X O9 σ H s){b:N8}{c:-Int}(e:H b>.tup (c.map V.int)){as:-N8}{cs:-(-Int)}(g:bG H as cs):∀u∈as.map N7.ref,SeqAt.EqAt X.A.in1 s u (.ref b) (tD H c u):=by
 induction g with
 |nil=>show λu hu=>by simp at hu
 | @cons a d as cs r t ih=>
  intro u hu
  rw[Jq] at hu
  rcases Jk.mp hu with rfl|hu
  ·let⟨j,f⟩:=(Dp.ints (K:=X.K) (ns:=d) (bh.of r)).reads I (u:=.ref a) Z
   let⟨l,h⟩:=(Dp.ints (K:=X.K) (ns:=c) (bh.of e)).reads I (u:=.ref b) Z
   have:=i.units
   let h1:=dB d
   rw[zK r,<-gB]
   show SeqAt.eqAt_reads _ _ _ _ _ _ _ _ f h (Dp.ints (K:=X.K) (H:=H) (bh.of r)).lay (Dp.ints (K:=X.K) (H:=H) (bh.of e)).lay (by change X.A.units+1+_<_;lia)
  ·show ih u hu
theorem zt(d:aR k X.A):fZ X (Nk .In) (Gx X.K false):=by
 intro O9 s σ H x y v u Q I g f h
 let⟨b,p,as,c,cs,rfl,rfl,hb,hp,ht,q⟩:=h
 cases g
 cases f
 let⟨a,j,e,l⟩:=I.list hp
 cases eP j
 show SeqAt.in_listAt (tD H c) e.isList (λw i=>lG d I hb ht w (by simpa using i)) ⟨.bl _,H,I,Z,?_⟩
 rw[show(as.map N7.ref).toArray.any (tD H c)=(as.map N7.ref).any (tD H c) by simp,lL ht]
 show q
theorem oQ(d:aR k X.A):fZ X (Nk .NotIn) (Gx X.K true):=by
 intro O9 s σ H x y v u Q I g f h
 let⟨b,p,as,c,cs,rfl,rfl,hb,hp,ht,q⟩:=h
 cases g
 cases f
 let⟨a,j,e,l⟩:=I.list hp
 cases eP j
 show SeqAt.notIn_listAt (tD H c) e.isList (λw i=>lG d I hb ht w (by simpa using i)) ⟨.bl _,H,I,Z,?_⟩
 rw[show(as.map N7.ref).toArray.any (tD H c)=(as.map N7.ref).any (tD H c) by simp,lL ht]
 show q
noncomputable def qb (f:Nat->Nat):Nat->Nat->Bool
 |0,_=>true
 |n+1,acc=>!(acc.testBit (f n))&&qb f n (acc|||(1<<<f n))
theorem n_ {f:Nat->Nat}:∀{n a:Nat},qb f n a=true->∀i<n,a.testBit (f i)=false/\∀j<n,f j=f i->j=i
 |0,_,_,i,hi=>absurd hi (K1 _)
 |n+1,a,h,i,hi=>by
  unfold qb at h
  rw[Jv] at h
  let⟨h1,h2⟩:=h
  let h1:a.testBit (f n)=false:=by simpa using h1
  let c:=n_ h2
  let key:∀k<n,a.testBit (f k)=false/\f k≠f n:=λk l=>by
   have:=(c k l).1
   rw[Nat.testBit_or,Bool.or_eq_false_iff] at this
   show⟨this.1,λe=>?_⟩
   let d:=this.2
   rw[e,Nat.testBit_shiftLeft] at d
   simp at d
  by_cases e:i=n
  ·subst e
   show⟨h1,λj g b=>?_⟩
   by_cases e2:j=i
   ·show e2
   ·show absurd b (key j ()).2
  ·show⟨(key i ()).1,λj g b=>?_⟩
   by_cases e2:j=n
   ·subst e2;show absurd b.symm (key i ()).2
   ·show(c i ()).2 j () b
noncomputable def zQ (k:Nat):Int:=reduceHash (Nc.Tuple.tupleHashOf [((k/256:Nat):Int),((k/16%16:Nat):Int),((k%16:Nat):Int)])
def DZ (k:Nat):Nat:=(zQ k%14941).toNat
theorem EF:qb DZ 1024 0=true:=by decide+kernel
theorem ve(b:i<1024)(a:j<1024)(e:zQ i=zQ j):i=j:=(n_ EF j a).2 i b (by unfold DZ;rw[e])
theorem cC:∀c:-Int,(c.map Sum.inl:-dh).map kV=c.map V.int
 |[]=>rfl
 |a::c=>by rw[Jq,Jq,Jq,cC c];rfl
section
variable {κ:Type} [DecidableEq κ] {knd:HeapKind prog w κ}
theorem rR{f:-(κ×N8×N7)}{k:κ}(u:knd.room A)(n:knd.is s.heap k b)(D:s.heap.DictOfH knd d f)
  (h1:∀p,atKey f k>p->Q p.2 {s with toks:=s.toks+knd.draws k})
  (C:atKey f k=none->∀h',h'.DictOfH knd d (storedH f k b v)->Ng.SameBut d s.heap h'->Q v {s with heap:=h',toks:=s.toks+knd.draws k})
  (hsz:↑f<=N9):Na (Nd prog w) A (dictSetDefault d (.ref b) v) Q E s:=by
 let⟨F,H,ep,h,z,g,m,a,q⟩:=D
 unfold dictSetDefault
 try with_reducible show Jy ?_
 show Ja (knd.pyHash u n ?_)
 show Ja (wpAny_dictFind_heap (s:={s with toks:=s.toks+knd.draws k}) u n h g m a q (λi=>?_) λj p r=>?_)
 ·let l:=atKey_none_of_get i
  let c:k∉f.map (·.1):=not_mem_keys_of_get i
  let o:storedH f k b v=f++[(k,b,v)]:=storedH_new l b v
  show Ja (KQ (Ja (wpAny_updateDictKeys (hz:=by let e:=size_of_entries m;lia) (s:={s with toks:=s.toks+knd.draws k}) h g
   (Jc (C l _ ⟨_,_,ep+1,Kg _ h (Nv.isFreed_of_dict (Nv.data_mapDictKeys g _)),z.mapDictKeys _,Nv.data_mapDictKeys g _,?_,?_,?_⟩ (Ng.SameBut.update ..))))))
  ·rw[o];simp[m,entryOfKey]
  ·rw[o]
   intro x hx
   rcases Jz.mp hx with hx|hx
   ·show knd.keeps (a x hx) h g (Ng.SameBut.update ..)
   ·cases Jg.mp hx
    show knd.keeps n h g (Ng.SameBut.update ..)
  ·rw[o,Jf,Kh]
   show⟨q,by simp,λx hx y B=>?_⟩
   cases Jg.mp B
   show λe=>c ((show x=k from e)▸hx)
 ·let l:=atKey_of_get q r
  show Ja (JW (s:={s with toks:=s.toks+knd.draws k}) h g ?_)
  rw[entry_at m j,r]
  show Ja (KQ (Jc (h1 p l)))
end
noncomputable def v3:V->-V->Hp->VK->Prop:=λx vs H Q=>∃a b c k y,x=.ref a/\vs=[.ref b,y]/\H a>.dT c/\H b>.tup (k.map kV)/\↑c<N9/\
 (∀v,bg c k>v->Q v H)/\(bg c k=none->Q y (Oc H a (.dT (bW c k y))))
theorem iN(O:aR j X.A):Do X "dict.setdefault" v3:=by
 intro O9 s σ H x vs v T Q I C J h
 let⟨a,b,d,k,y,rfl,rfl,g,r,l,w,P⟩:=h
 cases C
 let⟨U,i,rfl,M,o⟩:=gF J
 cases M
 let⟨z,n,xs,f,dd⟩:=u9 I.hok g
 let R:↑xs<=N9:=by rw[<-Nb.length f];show z
 let K:↑(bW d k y)<=N9:=by have:=iF d k y;lia
 let E:X.A.units+1<NF:=aR.one O
 show JN Lx dd.typeIs PySem.F.entry_dict_setdefault ?_ (PySem.F.args_dict_setdefault_3 _ _ _)
 unfold Nc.«dict.setdefault»
 show Ja ?_
 unfold Nc.Dict.keyAndDefault
 show Ja (KB dd.typeIs ?_)
 change Na _ _ (pure (a,N7.ref b,some i)) _ _ s
 show Jc ?_
 change Na _ _ (if (a==NR)=true then _ else (dictSetDefault a (.ref b) i>>=_)) _ _ s
 rw[N0 (n<|Jw)]
 show Ja (rR (NB E) (gU I.hok r) dd (λp hp=>Jc ⟨p.2,Z,?_⟩) (λS h' m hs=>Jc ⟨i,Z,?_⟩) R)
 ·have:=f.val k
  rw[hp] at this
  cases e:bg d k with
  |none=>rw[e] at this;show this.elim
  |some v=>rw[e] at this;show⟨v,H,I.tok _,this,w v e⟩
 ·have:=f.val k
  rw[S] at this
  cases e:bg d k with
  |some v=>rw[e] at this;show this.elim
  |none=>
   let⟨q,es,ep,hq,B,N,L,_,D⟩:=m
   show⟨y,_,pO (ob:=.dT (bW d k y)) I (g<|True.intro) hs ⟨q,hq⟩ ⟨K,n,_,(f.put k r o).keeps λc ys u=>?_,q,es,ep,hq,B,N,L,D⟩,o,P e⟩
   rw[aj (bu u g (λz=>by cases z))]
   show u
noncomputable def lS:V->-V->Hp->VK->Prop:=λx vs H Q=>∃a y z o,x=.ref a/\vs=[y,z]/\gx H a y o/\Q (o.getD z) H
theorem dk(e:aR j X.A):Do X "dict.get" lS:=by
 intro O9 s σ H x vs v m Q I f i h
 let⟨a,y,z,o,rfl,rfl,g,q⟩:=h
 cases f
 let⟨n,l,rfl,d,c⟩:=gF i
 show EV (aR.one e) I g d c λk s' I' b=>⟨_,H,I',b,q⟩
theorem lQ (e:X.K=K):EJ X (mX K):=by subst e;show aH
theorem zm (e:X.K=K):EJ X (nu K):=by subst e;show aF
noncomputable def rO:CmpOp->-Int->-Int->Bool
 | .LtE,a,b=>!HT.lexLt b a
 | .Gt,a,b=>HT.lexLt b a
 |_,a,b=>HT.lexLt a b
abbrev O3 (op:CmpOp):Prop:=op=.Lt\/op=.LtE\/op=.Gt
section
variable {op:CmpOp} (hm:O3 op)
include hm
theorem BG (x y:Int)(xs ys:-Int):rO op (x::xs) (y::ys)=if x=y then rO op xs ys else rO op [x] [y]:=by
 by_cases h:x=y
 ·subst h;rcases hm with rfl|rfl|rfl<;>simp[rO,HT.lexLt]
 ·rcases hm with rfl|rfl|rfl<;>simp[rO,HT.lexLt,h,Jr h]
theorem IG(h:Q (.bool (rO op [a] [c])) s):Na (Nd prog w) A (NQ op (.int a t) (.int c u)) Q E s:=by
 let b:∀a c:Int,HT.lexLt [a] [c]=decide (a<c):=λa c=>by
  by_cases e:a=c<;>simp[HT.lexLt,e]
 rcases hm with rfl|rfl|rfl<;>simp only[rO,b,BJ] at h
 ·show(PyProof.Rows.lt_int h:Na (Nd prog w) A (Nk .Lt (.int a t) (.int c u)) Q E s)
 ·show(PyProof.Rows.le_int h:Na (Nd prog w) A (Nk .LtE (.int a t) (.int c u)) Q E s)
 ·show(PyProof.Rows.gt_int h:Na (Nd prog w) A (Nk .Gt (.int a t) (.int c u)) Q E s)
theorem Iw:∀{ns a:-Int} {c b:-N7},ns.length=↑a->a8 (ns.map V.int) c->a8 (a.map V.int) b->∃cs,Cs A s op c b cs/\res cs (rO op [] [])=rO op ns a
 |[],[],_,_,_,r1,r2=>by
  cases r1;cases r2
  show⟨[],.nil,Z⟩
 |[],_::_,_,_,h,_,_=>by simp at h
 |_::_,[],_,_,h,_,_=>by simp at h
 |n::ns,m::a,c,b,h,r1,r2=>by
  rw[Jq] at r1 r2
  cases r1 with
  |cons q1 r1=>
   cases r2 with
   |cons q2 r2=>
    let⟨d,rfl⟩:=q1
    let⟨f,rfl⟩:=q2
    let⟨cs,h1,h2⟩:=Iw (by simpa using h) r1 r2
    show⟨(decide (n=m),rO op [n] [m])::cs,.cons (Gh A s n d m f) (λ_ prog g E Q=>IG hm) h1,?_⟩
    rw[BG hm n m ns a]
    by_cases e:n=m
    ·rw[N3 e,N1 e];show h2
    ·rw[N5 e,N0 e];rfl
end
section
open PySem.SeqAt
open PySem.AutoSeq1 (wpAny_loadPart')
open PySem.MeetsSeq PySem.MeetsSeq2 PySem.MeetsSeq3
set_option maxHeartbeats 0 in
theorem yR:∃c:String->CmpOp->Nc,Nc.«tuple.__lt__»=c "__lt__" .Lt/\Nc.«tuple.__le__»=c "__le__" .LtE/\Nc.«tuple.__gt__»=c "__gt__" .Gt/\
  ∀{nm:String} {op:CmpOp} (_:O3 op) (l b:N8) (j i:Array N7) (n C:Nat) (dd o:Option N8) (B p:Array (Option N7)),Meets (c nm op ⟨[.ref l,.ref b],[]⟩)
   (λA R s=>s.heap.get? l=some {cls:=.type "tuple",dict:=dd,data:=.seq j n,slots:=B}/\s.heap.get? b=some {cls:=.type "tuple",dict:=o,data:=.seq i C,slots:=p}/\
    ∃cs,Cs A.in1 s op j.toList i.toList cs/\R (.ok (.ret (.bool (res cs (rO op [] []))))) s):=by
 show⟨_,Z,Z,Z,fun{nm op} hm l b j i n C dd o B p=> .of_wp λprog w A R s h=>?_⟩
 let⟨hp,g,d,z,os⟩:=s;let⟨E,hb,cs,f,h⟩:=h
 let F:=AutoSeq1.sub_tuple_tuple
 let D:j.size=i.size:=by have:=f.len;simpa using this
 wp_walk using NA E,NA hb,wpAny_forIn_list _ (λdf b s'=>b.1=none/\s'=⟨hp,g,d,z,os⟩/\∃(vs q:-N7) (cs:-(Bool×Bool)),df=vs.zip q/\
   Cs A.in1 ⟨hp,g,d,z,os⟩ op vs q cs/\R (.ok (.ret (.bool (res cs (rO op [] []))))) ⟨hp,g,d,z,os⟩) _
 case turn=>
  rintro⟨y,x⟩ df b s' ⟨k,rfl,vs,q,cs,m,u,r⟩
  cases u with
  |nil=>rw[List.zip_nil_left] at m;cases m
  | @cons v w' e b' vs q cs he a t=>
    rw[List.zip_cons_cons] at m
    injection m with hyx hrest
    injection hyx with hy hx
    subst hy hx
    show Ja (he prog w _ _ ?_)
    cases e with
    |true=>
     wp_walk
     show⟨Z,Z,_,_,_,hrest,t,r⟩
    |false=>
     let a:=a Z prog w
     rcases hm with rfl|rfl|rfl<;>(wp_walk using a;show⟨_,Z,by simpa[res] using r⟩)
 case fin=>
  rintro⟨H,b2⟩ s' ⟨k,rfl,vs,q,cs,m,u,r⟩
  simp only at k
  subst k
  cases u with
  |cons he a t=>rw[List.zip_cons_cons] at m;cases m
  |nil=>
   wp_walk
   show⟨_,Z,by rcases hm with rfl|rfl|rfl<;>simpa[Nc.Tuple.tupleCompareSizes,D,res,rO,HT.lexLt] using r⟩
 case h=>
  show⟨Z,Z,j.toList,i.toList,cs,Z,f,h⟩
end
section
variable {Q:N7->N_->Prop}
theorem CB{cs:-(Bool×Bool)}(D:O3 op)(I:IsTup s.heap l us.toArray)(z:IsTup s.heap b ws.toArray)(h1:Cs A.in1 s op us ws cs)
  (u:A.units<NF) (h:Q (.bool (res cs (rO op [] []))) s):Na (Nd prog w) A (NQ op (.ref l) (.ref b)) Q E s:=by
 let⟨⟨o,dd,k,q⟩,p,v,n,y⟩:=id I
 let⟨⟨j,e,i,d⟩,a,g,r,f⟩:=id z
 simp only at v y g f
 subst v y g f
 let⟨c,C,B,H,M⟩:=yR
 rcases D with rfl|rfl|rfl
 ·let m:=M (nm:= "__lt__") (.inl Z) l b us.toArray ws.toArray n r dd e q d
  rw[<-C] at m
  show richCompare_meets_room (op:=.Lt) ⟨_,p,Z⟩ ⟨_,a,Z⟩ PySem.F.slot_tuple_lt PySem.F.entry_tuple_lt (PySem.F.args_tuple_lt_2 _ _) m ⟨p,a,cs,h1,⟨(λx=>by cases x),h⟩⟩ u
 ·let m:=M (nm:= "__le__") (.inr (.inl Z)) l b us.toArray ws.toArray n r dd e q d
  rw[<-B] at m
  show richCompare_meets_room (op:=.LtE) ⟨_,p,Z⟩ ⟨_,a,Z⟩ PySem.F.slot_tuple_le PySem.F.entry_tuple_le (PySem.F.args_tuple_le_2 _ _) m ⟨p,a,cs,h1,⟨(λx=>by cases x),h⟩⟩ u
 ·let m:=M (nm:= "__gt__") (.inr (.inr Z)) l b us.toArray ws.toArray n r dd e q d
  rw[<-H] at m
  show richCompare_meets_room (op:=.Gt) ⟨_,p,Z⟩ ⟨_,a,Z⟩ PySem.F.slot_tuple_gt PySem.F.entry_tuple_gt (PySem.F.args_tuple_gt_2 _ _) m ⟨p,a,cs,h1,⟨(λx=>by cases x),h⟩⟩ u
variable {a b:N8} {c d:-Int} (I:aG X O9 σ H s) (ha:bh X.K H a (c.map V.int)) (hb:bh X.K H b (d.map V.int))
include I ha hb
theorem Gp(e:O3 op)(j:↑c=↑d)(h:A.units<NF)(q:Q (.bool (rO op c d)) s):Na (Nd prog w) A (NQ op (.ref a) (.ref b)) Q E s:=by
 let⟨i1,g,i,_⟩:=I.tuple ha
 let⟨i2,f,p2,_⟩:=I.tuple hb
 let⟨cs,h1,h2⟩:=Iw e (A:=A.in1) (s:=s) j g f
 rw[<-h2] at q
 show CB e i p2 h1 h q
theorem Iv (j:A.units+10<NF):SeqAt.EqAt A s (.ref a) (.ref b) (decide (c=d)):=by
 let e:=Dp.ints ha
 let f:=Dp.ints hb
 let⟨as,h⟩:=e.reads I Z
 let⟨bs,g⟩:=f.reads I Z
 let i:=dB c
 have:=SeqAt.eqAt_reads _ _ A s _ _ as bs h g e.lay f.lay (Lr (Nat.add_le_add_left (Jt (Nat.min_le_left _ _) i) _) ())
 rw[gB] at this
 show this
end
section
variable {R:Result->N_->Prop} {it:N8} {fp wr:-N8} {P:Nat->N7->Prop} {St:Nat->Ng->Prop}
end
theorem vn:∀{a c:-Int} (b d:-Int),↑a=↑c->HT.lexLt (a++b) (c++d)=if a=c then HT.lexLt b d else HT.lexLt a c
 |[],[],b,d,_=>by simp
 |[],_::_,_,_,h=>by simp at h
 |_::_,[],_,_,h=>by simp at h
 |x::a,y::c,b,d,h=>by
  rw[List.cons_append,List.cons_append,HT.lexLt_cons,HT.lexLt_cons,vn b d (by simpa using h)]
  by_cases e:x=y
  ·subst e
   simp only[if_true,List.cons.injEq,true_and]
  ·simp only[e,if_false,List.cons.injEq,false_and]
abbrev By:=-Int×-Int
def wX (e:By):-Int:=e.1++e.2
abbrev fP (H:Hp) (as:-N8) (ls:-By):Prop:=Nb (λa (e:By)=>∃x y,H a>.tup [.ref x,.ref y]/\H x>.tup (e.1.map V.int)/\H y>.tup (e.2.map V.int)) as ls
theorem fP.at {as:-N8}{cs:-By}{i:Nat}{a:N8}(g:fP H as cs)(e:as[i]?>a):∃c x y,cs[i]?>c/\H a>.tup [.ref x,.ref y]/\H x>.tup (c.1.map V.int)/\H y>.tup (c.2.map V.int):=by
 induction g generalizing i with
 |nil=>simp at e
 | @cons p c as cs h t ih=>
  cases i with
  |zero=>
   cases e
   let⟨x,y,h1,h2,b⟩:=h
   show⟨c,x,y,Z,h1,h2,b⟩
  |succ i=>show ih (i:=i) e
theorem fP.same{cs:-By}(h:fP H as cs)(e:au H H'):fP H' as cs:=Nb.mapP h λ_ _ a=>by let⟨x,y,h1,h2,b⟩:=a;show⟨x,y,e _ _ h1,e _ _ h2,e _ _ b⟩
theorem fP.tups{cs:-By}(h:fP H as cs)(e:∀b xs,H b>.tup xs->H' b>.tup xs):fP H' as cs:=Nb.mapP h λ_ _ a=>by let⟨x,y,h1,h2,c⟩:=a;show⟨x,y,e _ _ h1,e _ _ h2,e _ _ c⟩
theorem CY(I:aG X O9 σ H s)(k:∀b u,b≠X.env.locals->s.heap.get? b>u->h'.get? b>u){as:-N8}{cs:-By}(g:fP H as cs):
  ∃fs:-N7,K3 h' (as.map N7.ref) fs/\↑fs=↑as/\∀v∈fs,∃x o,v=N7.ref x/\h'.get? x>o/\o.cls=.type "tuple" :=by
 induction g with
 |nil=>show⟨[],K3.nil,Z,λ_ h=>by cases h⟩
 | @cons a c as cs h t ih=>
  let⟨fs,h1,h2,J⟩:=ih
  let⟨x,y,r,q,O⟩:=h
  let p:∀{b:N8} {o:HO},H b>o->b≠X.env.locals:=λe z=>by rw[z,I.free] at e;cases e
  let⟨_,l,D,o,C,B,n,E⟩:=(show bN X.prog X.w H s.heap a (.tup [.ref x,.ref y]) from I.hok a _ r)
  let⟨_,i,m,A,d,f,L,j⟩:=(show bN X.prog X.w H s.heap x (.tup (c.1.map V.int)) from I.hok x _ q)
  let⟨M,K,rfl,F,N⟩:=gF D
  cases F
  show⟨.ref x::fs,K3.cons (k a o (p r) C) B E (by simp) h1,by simp[h2],λv hv=>?_⟩
  rcases Jk.mp hv with rfl|hv
  ·show⟨x,A,Z,k x A (p q) d,f⟩
  ·show J v hv
theorem Bk {Q:Bool->N_->Prop}(I:aG X O9 σ H s)(m:A.units+10<NF){x y k c:N8}{e f:By}{i:Nat}{a:Bool}
  (h1:H x>.tup (e.1.map V.int)) (d:H y>.tup (e.2.map V.int)) (b:H k>.tup (f.1.map V.int)) (g:H c>.tup (f.2.map V.int)) (h:↑e.1=↑f.1) (l:↑e.2=↑f.2) (hf:a=false)
  (q:Q (HT.lexLt (wX e) (wX f)) s):PySem.W.KatLex X.prog X.w A false a Q [(.ref x,.ref k),(.ref y,.ref c)] i s:=by
 unfold wX at q
 rw[vn _ _ h] at q
 show PySem.W.kat_cons (Iv I (bh.of h1) (bh.of b) () _ _ _ _ ?_)
 show PySem.W.kat_go (λz=>?_) (λz=>?_)
 ·rw[N1 (N4 z)] at q
  show PySem.W.kat_yes (PySem.W.kat_cons (Iv I (bh.of d) (bh.of g) () _ _ _ _ ?_))
  show PySem.W.kat_go (λj=>?_) (λj=>?_)
  ·show PySem.W.kat_yes (PySem.W.kat_nil ?_)
   rw[N4 j,fD] at q
   rw[hf];show q
  ·show PySem.W.kat_no (PySem.W.kat_one _ _ (Gp (op:=.Lt) (Q:=PySem.W.BoolBack Q) I (bh.of d) (bh.of g) (.inl Z) l () q))
 ·rw[N0 (N6 z)] at q
  show PySem.W.kat_no (PySem.W.kat_one _ _ (Gp (op:=.Lt) (Q:=PySem.W.BoolBack Q) I (bh.of h1) (bh.of b) (.inl Z) h () q))
theorem qp(hr:aR k X.A):cJ X (.builtin "sorted") (λxs H Q=>∃(p:N8) (as:-N8) (cs:-By),xs=[.ref p]/\aM X.K H p (as.map V.ref)/\fP H as cs/\(∀c∈cs,↑c.1=3/\↑c.2=3)/\↑as<64/\
  ∀l bs ds,H l=none->fP H bs ds->ds.Perm cs->ds.Pairwise (λc d=>HT.lexLt (wX d) (wX c)=false)->Q (.ref l) (Oc H l (.lst (bs.map V.ref)))):=by
 let hu:=hr.un
 show jK (R:=λH a c=>∃x y,H a>.tup [.ref x,.ref y]/\H x>.tup (c.1.map V.int)/\H y>.tup (c.2.map V.int)) (G:=λc=>↑c.1=3/\↑c.2=3) ([],[]) wX (T:=.type "tuple") (b:=false) (by first|rfl|decide) (by first|rfl|decide) (λF B=>by let⟨x,y,h1,h2,z⟩:=B;show⟨x,y,aj (aq h1 F)<|h1,aj (aq h2 F)<|h2,aj (aq z F)<|z⟩) (fun{O9 σ H s h'} I k as cs ht _=>?_) (fun{O9 σ H s x y c d C} I g f J M N=>?_)
 ·let⟨fs,h1,h2,z⟩:=CY I k ht
  show⟨fs,h1,h2,λv hv=>?_⟩
  let⟨x,o,rfl,hx,m⟩:=z v hv
  let L:Ln (Nd X.prog X.w) h' (typeOf (.ref x)) o.cls:=(Ln.ld hx).andThen .now
  rw[m] at L
  show L
 ·let⟨Y,y1,g1,U,g3⟩:=g
  let⟨S,P,O,Z0,f3⟩:=f
  let⟨_,u,q,o1,j,_,n1,e⟩:=(show bN X.prog X.w H s.heap x (.tup [.ref Y,.ref y1]) from I.hok _ _ g1)
  let⟨_,r,n,o2,h,_,n2,i⟩:=(show bN X.prog X.w H s.heap y (.tup [.ref S,.ref P]) from I.hok _ _ O)
  let⟨u1,u2,rfl,E,D⟩:=gF q
  cases E
  cases D
  let⟨w1,w2,rfl,E,D⟩:=gF n
  cases E
  cases D
  show PySem.W.kat_lt j e h i (Bk I (by change X.A.units+1+1+10<NF;lia) U g3 Z0 f3 (by rw[J.1,M.1]) (by rw[J.2,M.2]) (by first|rfl|simp) N)
def yV (a:-N8) (H:Hp):Prop:=∀b,H b=none\/(∃o xs,H b>.frz o (.lst xs))\/(b∈a/\H b>(.tbl #[]))
theorem xR{ns:-Int}{Ts:-(N8×N8)}
  (KX:K.In s₁.heap) (T:s₁.heap.Ns Nj mg) (O:s₁.heap.Ns builtinsNs mb) (a0:∀x:Nh,x≠ "__name__" ->mb x=NC x) (ad:s₁.heap.NoLimit) (hg:s₁.gens= #[])
  (ha:s₁.heap.get? a=some {cls:=.type "list",data:=.seq vs.toArray}) (hi:O7 vs ns) (hl:ns.length<=N9) (hr:aR k callerA)
  (X:∀q∈Ts,PySem.W.CodeHd s₁.heap q.1 q.2/\s₁.heap.get? q.2>(PySem.W.tabObj #[])) (nK:∀q∈Ts,K.lookup q.2=none)
  (ah:∃Q U,mg "__builtins__" >.ref Q/\Q≠builtinsNs/\s₁.heap.get? Q>U/\U.cls=.type "module" /\U.dict>builtinsNs/\U.data=.plain)
  (F:∀Oa:Ng,K.In Oa->Oa.Ns Nj mg->(∀q∈Ts,Oa.BuiltinsAt mg q.2/\Nj≠q.2)->fq P w K mg Oa CX k fa fd [x] sp) (Z0:∀(s:N_) (u:N7),BindsTo s fd ⟨[u],[]⟩ [(x,u)])
  (am:∀H:Hp,yV (Ts.map (·.2)) H->(∀q∈Ts,H q.2>(.tbl #[]))->aM K H a (ns.map V.int)->sp [.ref a] H (λv _=>v=.bl true) λ_ _ _=>False)
  (ax:∀H e s',CX [] H s₁ (λ_ _ _=>False) e s'->False):
  NL (Nd P w) callerA (.call (.ref fa) ⟨[.ref a],[]⟩) (λr s'=>r=.ok (.ret (.bool true))/\OldK s₁.heap s'.heap/\s'.os=s₁.os/\AllBare s'.gens) s₁:=by
 let rv:=wZ hi
 let C:=↑hi
 let B:a∉Ts.map (·.2):=λz=>by
  let⟨q,hq,e⟩:=Jh.mp z
  have:=(X q hq).2
  rw[e,ha] at this;cases this
 let p:∀H:Hp,yV (Ts.map (·.2)) H->(∀q∈Ts,H q.2>(.tbl #[]))->aM K H a (ns.map V.int)->iu P w H s₁.heap->(∀b,H b≠none->b=a\/b∈Ts.map (·.2))->(H a≠none->K.lookup a=none)->
   NL (Nd P w) callerA (.call (.ref fa) ⟨[.ref a],[]⟩) (λr s'=>r=.ok (.ret (.bool true))/\OldK s₁.heap s'.heap/\s'.os=s₁.os/\AllBare s'.gens) s₁:=by
  intro H hO a1 hS ac hA hK
  let f:∀{b:N8} {o:Nv},s₁.heap.get? b>o->H b=none->(nN s₁.heap H).get? b>o:=λe n=>yz e n
  let J:∀{b:N8} {o:Nv} {es:Array NE} {ep:Nat},s₁.heap.get? b>o->o.data=.dict es ep->H b=none:=fun{b o es ep} e d=>by
   cases q:H b with
   |none=>rfl
   |some u=>
    rcases hA b (by rw[q];simp) with e'|e'
    ·subst e'
     rw[ha] at e;cases e
     let d':Data.seq vs.toArray _=Data.dict es ep:=d
     cases d'
    ·let⟨r,c,rfl⟩:=Jh.mp e'
     rw[(X r c).2] at e;cases e
     cases d
  let j:∀{b:N8} {m:Nh->Option N7},s₁.heap.Ns b m->(nN s₁.heap H).Ns b m:=fun{b m} ⟨o,es,ep,e,d,r⟩=>⟨o,es,ep,f e (J e d),d,r⟩
  let A:K.In (nN s₁.heap H):=λb o e=>f (KX b o e) (by
   cases q:H b with
   |none=>rfl
   |some u=>
    rcases hA b (by rw[q];simp) with e'|e'
    ·subst e'
     rw[hK (by rw[q];simp)] at e;cases e
    ·let⟨r,c,rfl⟩:=Jh.mp e'
     rw[nK r c] at e;cases e)
  let hM:Mod K mg (nN s₁.heap H):=⟨A,j T,⟨mb,j O,a0⟩,let ⟨mc,h1,h2⟩:=ad;⟨mc,j h1,h2⟩⟩
  let e0:lx P w K mg (nN s₁.heap H) callerA [] s₁ H:=⟨Z,hM,λb o e=>Bs e,Nat.le_of_eq (wQ _ _),trivial,λb O=>absurd (show b∈([]:-N8) from O) (by simp),ac,.of_eq hg⟩
  let D:∀q∈Ts,(nN s₁.heap H).BuiltinsAt mg q.2/\Nj≠q.2:=λq hq=>by
   let⟨Q,U,b1,b2,R,b4,b5,b6⟩:=ah
   let I:Nj≠q.2:=λz=>by
    let⟨o,es,ep,e,hd,_⟩:=T
    rw[z,(X q hq).2] at e;cases e;cases hd
   let N:Q≠q.2:=λz=>by rw[z,(X q hq).2] at R;cases R;cases b6
   let E:Q≠Nj:=λz=>by
    let⟨o,es,ep,e,hd,_⟩:=T
    rw[z,e] at R;cases R;rw[hd] at b6;cases b6
   let L:H Q=none:=by
    cases qq:H Q with
    |none=>rfl
    |some u=>
     exfalso
     rcases hA Q (by rw[qq];simp) with e'|e'
     ·rw[e',ha] at R;cases R;cases b6
     ·let⟨r,c,M⟩:=Jh.mp e'
      rw[<-M,(X r c).2] at R;cases R;cases b6
   show⟨⟨Q,U,b1,b2,E,N,f R L,b4,b5,b6⟩,I⟩
  show NS ((F _ A (j T) D).run callerA [] s₁ H ⟨[.ref a],[]⟩ [.ref a] [.ref a] _ _ hr e0 (Z0 s₁ (.ref a)) (.cons Z .nil) (am H hO a1 hS)) λr s' h=>?_
  cases r with
  |error e=>show(ax H e s' h).elim
  |ok fl=>
   cases fl with
   |next=>show False.elim h
   |brk=>show False.elim h
   |cont=>show False.elim h
   |ret u=>
    let⟨v,H',os,bare,un,y,r',q⟩:=h
    let q':v=.bl true:=q
    subst q'
    obtain rfl:u=N7.bool true:=r'
    let i:∀b o,s₁.heap.get? b>o->s'.heap.get? b>o\/∃r∈Ts,r.2=b/\∃more,s'.heap.get? b>PySem.W.tabObj (#[]++more):=λb o e=>by
     cases q:H b with
     |none=>show .inl (un.keep b o e q (by intro z;show absurd (show b∈([]:-N8) from z) (by simp)) (by simp))
     |some u=>
      rcases hO b with z|⟨U,xs,z⟩|⟨Y,z⟩
      ·rw[q] at z;cases z
      ·let z2:=un.frzs b U _ z
       let⟨e1,_⟩:=ac b _ z
       let⟨e2,_⟩:=y b _ z2
       rw[e] at e1;cases e1
       show .inl e2
      ·let⟨more,z2⟩:=un.tbls b _ z
       let⟨r,c,e'⟩:=Jh.mp Y
       show .inr ⟨r,c,e',more,y b _ z2⟩
    show⟨Z,⟨λb o e=>?_,λb o e=>?_⟩,os,bare⟩
    ·rcases i b o e with z|⟨r,c,rfl,more,z⟩
     ·show .inl z
     ·let⟨h1,h2⟩:=X r c
      rw[h2] at e;cases e
      show .inr (.inl ⟨(h1.tab h2).isCodeTable,Z,#[],more,Z,z⟩)
    ·rcases i b o e with z|⟨r,c,rfl,more,z⟩
     ·show⟨_,z⟩
     ·show⟨_,z⟩
 let l:∀q∈Ts,q.2∈Ts.map (·.2):=λq hq=>Jh.mpr ⟨q,hq,Z⟩
 let g:∀(H:Hp) b,b∈Ts.map (·.2)->bN P w H s₁.heap b (.tbl #[]):=λH b Y=>by
  let⟨r,c,rfl⟩:=Jh.mp Y
  show(X r c).2
 cases hk:K.lookup a with
 |some o=>
  let e:=KX a o hk
  rw[ha] at e
  cases e
  show p (λb=>if b∈Ts.map (·.2) then some (.tbl #[]) else none) (λb=>?_) (λq hq=>N1 (l q hq)) (.inr ⟨_,vs.toArray,_,hk,Z,Z,Z,JD<|C<|hl,by simpa using rv⟩) (λb u z=>?_) (λb z=>?_) λz=>absurd (N0 B) z
  ·by_cases O:b∈Ts.map (·.2)
   ·show .inr (.inr ⟨O,N1 O⟩)
   ·show .inl (N0 O)
  ·by_cases O:b∈Ts.map (·.2)
   ·let S:=(N1 O).symm.trans z
    cases S
    show g _ b O
   ·let S:=(N0 O).symm.trans z
    cases S
  ·by_cases O:b∈Ts.map (·.2)
   ·show .inr O
   ·show absurd (N0 O) z
 |none=>
  show p (λb=>if b=a then some (.frz {cls:=.type "list",data:=.seq vs.toArray} (.lst (ns.map V.int))) else if b∈Ts.map (·.2) then some (.tbl #[]) else none) (λb=>?_) (λq hq=>?_) (.inl (.inr ⟨{cls:=.type "list",data:=.seq vs.toArray},N1 Z⟩)) (λb u z=>?_) (λb z=>?_) λ_=>hk
  ·by_cases O:b=a
   ·show .inr (.inl ⟨_,_,N1 O⟩)
   ·by_cases hb2:b∈Ts.map (·.2)
    ·show .inr (.inr ⟨hb2,(N0 O).trans (N1 hb2)⟩)
    ·show .inl ((N0 O).trans (N0 hb2))
  ·have:q.2≠a:=λz=>B (z▸l q hq)
   show(N0 this).trans (N1 (l q hq))
  ·by_cases O:b=a
   ·let S:=(N1 O).symm.trans z
    cases S
    subst O
    show⟨ha,Jb<|hl,vs,_,rv,ha⟩
   ·by_cases hb2:b∈Ts.map (·.2)
    ·let S:=((N0 O).trans (N1 hb2)).symm.trans z
     cases S
     show g _ b hb2
    ·let S:=((N0 O).trans (N0 hb2)).symm.trans z
     cases S
  ·by_cases O:b=a
   ·show .inl O
   ·by_cases hb2:b∈Ts.map (·.2)
    ·show .inr hb2
    ·show absurd ((N0 O).trans (N0 hb2)) z
theorem walk_ofT {l:PySem.W.OpenLaw}{n k:Nat}{q:Ni}{j:-Nh}{XP:(Nh->Option N7)->Ng->Prop}{M:Nr->Ng->Prop}{d:DefRec}{K:Params->Je}{CX:Nr->A7}{sp:Nr->Sp}{x:Nh}{xs:-Nh}
  (hn:l.most>n) (J:n<=N9) (D:d.params.defaults=[]) (U:aR k callerA)
  (O:∀(w:Nr) (h:Ng),M w h->(K w.params).In h)
  (Ts:Nr->-(N8×N8))
  (z:∀y∈xs,∃e,(recsOf q).find? (λe=>e.name==y)>e)
  (m:∀(w:Nr),∀t∈Ts w,(∃y∈xs,Ly (K w.params) y>t)/\(K w.params).lookup t.2=none)
  (F:∀(w:Nr) (mg:Nh->Option N7) (fa:N8) (h:Ng),(K w.params).In h->h.Ns Nj mg->mg d.name>.ref fa->
   ∃fd:NN,(∀(s:N_) (u:N7),BindsTo s fd ⟨[u],[]⟩ [(x,u)])/\
    ∀Oa:Ng,(K w.params).In Oa->Oa.Ns Nj mg->(∀t∈Ts w,Oa.BuiltinsAt mg t.2/\Nj≠t.2)->fq l.prog w (K w.params) mg Oa (CX w) k fa fd [x] (sp w))
  (B:∀(w:Nr) (H:Hp) (a:N8) (ns:-Int),ns.length<=n->yV ((Ts w).map (·.2)) H->(∀t∈Ts w,H t.2>(.tbl #[]))->aM (K w.params) H a (ns.map V.int)->sp w [.ref a] H (λv _=>v=.bl true) λ_ _ _=>False)
  (I:∀(w:Nr) (H:Hp) (s:N_) (e:N7) (s':N_),CX w [] H s (λ_ _ _=>False) e s'->False):
  PySem.W.WalkO q j XP M l.row.toRowW d [] (λf vs=>PySem.call f vs):=by
 show Att.attach_call hn D λw L p mg mb fa o pm cd N a vs ns G Y ho hd R E A i c hg=>?_
 let C:=O w _ Y
 let⟨fd,hb,Z0⟩:=F w mg fa _ C G.T.g E
 show xR (Ts:=Ts w) C G.T.g G.T.b G.T.builtins G.T.nolimit hg A i (Jt c J) U (λt ht=>?_) (λt ht=>(m w t ht).2) G.T.bmain Z0 hb (λH P Q S=>B w H a ns c P Q S) λH e s'=>I w H p e s'
 let⟨⟨y,X,e⟩,_⟩:=m w t ht
 let⟨r,b⟩:=z y X
 show PySem.W.tab_of G.T C b e
def iq (a:N8) (o:Nv):HO:=.ext λh=>h.get? a>o
theorem lV(e:h.get? a>o):bN P w H h a (iq a o):=⟨e,⟨o,e⟩,λ_ _ b k=>k _ b⟩
def kh (a:Nv) (c:N8) (qual:Nh):Prop:=∀h:Ng,h.get? c>a->h.CodeRec (.ref c) qual
def Ha (P:N8) (a:O2) (qual:Nh) (mk:N8->N7->Nv):TE:=λ_ H Q=>∃ps,H P>.tbl ps/\TriplesOk ps.toList/\codeAmong a ps.toList=none/\
 ∀f b d c,H f=none->H b=none->f≠b->kh d b qual->Q (.ref f) (Oc (Oc (Oc H P (.tbl (ps++ #[NJ a.line,NJ a.col,.ref b]))) b (iq b d)) f (iq f (mk b c)))
theorem E8{B:-(Nh×N8)}(J:defaultsOf params X.env=([],[]))(U:closureFor scope X.env=pure B)(E:X.env.code=.ref c)
  (Z0:LA X.K c P=true) (hB:X.Oa.BuiltinsAt X.mg P) (R:Nj≠P):
  PE X (.Lambda params body scope pos) (Ha P pos (X.env.qual++ "<lambda>") λc' C=>Kk "<lambda>" (X.env.qual++ "<lambda>") params body scope B ((X.mg "__name__").getD .none) c' C):=by
 intro O9 s σ H Q I h
 let⟨ps,A,ht,w,q⟩:=h
 let l:s.heap.get? P>PySem.W.tabObj ps:=I.hok P _ A
 show PySem.W.kla_eval J (PySem.W.kla_makeFunction U I.ok.glob (I.mod.glob.keeps I.bk) E (PySem.W.codeHd_of_K I.kIn Z0) l ht w R
  (let ⟨bm,o,h1,h2,h3,h4,h5,r⟩:=hB;⟨bm,o,h1,h2,h3,h4,I.bk _ _ h5,r⟩) λc' C h' tk Y O M D F=>?_)
 obtain⟨oc,L⟩:∃oc,h'.get? c'>oc:=by
  let⟨a,o,_,_,N,T,_⟩:=D
  cases N
  show⟨o,T⟩
 let k: ~~~s<=h'.objs.size:=by
  have:c'<h'.objs.size:=M
  lia
 let i:s.heap.get? c'=none:=Ku O
 let j:s.heap.get? h'.objs.size=none:=Ku k
 let f:H c'=none:=I.hok.none_of i
 let d:H h'.objs.size=none:=I.hok.none_of j
 let v:h'.objs.size≠c':=Kv M
 let p:P≠c':=aq A f
 let x:P≠h'.objs.size:=aq A d
 show⟨.ref h'.objs.size,_,?_,Z,q h'.objs.size c' oc C d f v λh1 T=>?_⟩
 ·let kp:∀b o,b≠P->s.heap.get? b>o->(h'.push (Kk "<lambda>" (X.env.qual++ "<lambda>") params body scope B ((X.mg "__name__").getD .none) c' C)).get? b>o:=λb o hb e=>Ji _ (Y b o hb e)
  let g:∀b,H b=none->b≠P:=λb n z=>by rw[z,A] at n;cases n
  let new:∀b u,s.heap.get? b>u->b≠c'/\b≠h'.objs.size:=λb u e=>⟨λz=>(by rw[z,i] at e;cases e),λz=>(by rw[z,j] at e;cases e)⟩
  show I.step (g':=s.gens) (d':=s.drawn) (ch:=[]) (λ_ z=>by cases z) (λb o _ _ _ e n=>kp b o (g b n) e) (λb o _ _ _ e n=>⟨o.slots,kp b o (g b n) e⟩) (λb o _ e n=>?_) (λb o _ e=>?_) (λb xs e=>?_) (λb o u e=>?_) (λb ac e=>?_) (λm hm=>?_) (λb u e=>?_) I.bare
  ·rw[aj (new b o e).2,aj (new b o e).1,aj (g b n)];show n
  ·by_cases hb:b=P
   ·subst hb;show⟨_,Ji _ F⟩
   ·show⟨o,kp b o hb e⟩
  ·rw[aj (aq e d),aj (aq e f),aj (bu e A (λz=>by cases z))];show e
  ·rw[aj (aq e d),aj (aq e f),aj (bu e A (λz=>by cases z))];show e
  ·by_cases hb:b=P
   ·subst hb
    rw[A] at e;cases e
    show⟨_,by rw[aj x,aj p,af]⟩
   ·show⟨#[],by rw[aj (aq e d),aj (aq e f),aj hb,e];simp⟩
  ·show(hm.extBut Y (λz=>by rw[<-z,I.free] at A;cases A)).push _
  ·by_cases hbf:b=h'.objs.size
   ·subst hbf
    rw[af] at e;cases e
    show lV (Jp _ Z)
   rw[aj hbf] at e
   by_cases hbc:b=c'
   ·subst hbc
    rw[af] at e;cases e
    show lV (Ji _ L)
   rw[aj hbc] at e
   by_cases hbP:b=P
   ·subst hbP
    rw[af] at e;cases e
    show Ji _ F
   rw[aj hbP] at e
   show(I.hok b u e).stay (λb2 u2 S y=>kp b2 u2 ?_ y) (λb2 y=>?_) (λb2 xs y=>?_)
   ·rcases S with z|z
    ·rw[z];show hbP
    ·show bu z A (λz=>by cases z)
   ·rw[aj (aq y d),aj (aq y f),aj (bu y A (λz=>by cases z))];show y
   ·rw[aj (aq y d),aj (aq y f),aj (bu y A (λz=>by cases z))];show y
 ·let⟨a,o,vs,t,N,y,r⟩:=D
  cases N
  rw[L] at y;cases y
  show⟨_,_,vs,t,Z,T,r⟩
structure jR (ps:-Nh) (clos:-(Nh×N8)) (scope:NT):Prop where
 kind:scope.kind=.function
 co:scope.isCoroutine=false
 gen:scope.isGenerator=false
 nocell:∀x∈scope.names,x.2≠.cell
 par:∀x∈ps,scope.names.lookup x>.local
 free:∀x,scope.names.lookup x>.free->∃c,clos.lookup x>c
 fr:∀x∈clos.map (·.1),scope.names.lookup x>.free
 nd:(ps++clos.map (·.1)).Nodup
 inj:∀x y c,clos.lookup x>c->clos.lookup y>c->x=y
noncomputable def kI (qual:Nh) (scope:NT) (a:-(Nh×N8)) (L f:N8) (cd:N7):O0:=newEnv scope L Nj a (qual++ ".<locals>.") (some f) cd none builtinsNs
noncomputable def vB (P:Ni) (w:Nr) (K:Je) (mg:Nh->Option N7) (Oa:Ng) (ps:-Nh) (a:-(Nh×N8)) (qual:Nh) (scope:NT) (f:N8) (cd:N7) (A:Nu) (outer:-O0) (s:N_) (H:Hp):Cx where
 prog:=P
 w:=w
 K:=K
 mg:=mg
 Oa:=Oa
 A:=A.deeper (kI qual scope a (~~~s) f cd)
 N:=ps++a.map (·.1)
 s₀:=s
 H₀:=H
 env:=kI qual scope a (~~~s) f cd
 outer:=outer
 stack:=kI qual scope a (~~~s) f cd::outer
 ex:=[]
 fn:=λ_=>false
 calm:=true
 pn:=[]
 xe:=λ_ _=>False
theorem kS {a:Type}:∀{l:-(Nh×a)} {x:Nh} {u:a},(l.map (·.1)).Nodup->(x,u)∈l->l.lookup x>u
 |[],_,_,_,h=>by simp at h
 |(y,v)::r,x,u,hn,h=>by
  rw[Jq,JE] at hn
  rw[J_]
  rcases Jk.mp h with e|h
  ·cases e;simp
  ·have:¬x=y:=λz=>hn.1 (by rw[<-z];show Jh.mpr ⟨_,h,Z⟩)
   let hb:(x==y)=false:=by simpa using this
   rw[hb]
   show kS hn.2 h
theorem CU {P:Ni}{ps:-Nh}{clos:-(Nh×N8)}{qual:Nh}{scope:NT}{f:N8}{cd:N7}{l:-O0}{us:-N7}{vs cvs:-V}{h':Ng}{tk:Nat}{fo:Nv}
  (S:jR ps clos scope) (F:A.handled=none) (m:lx P w K mg Oa A l s H) (Q:↑vs=↑ps) (r:a8 vs us) (T:↑cvs=↑clos)
  (B:∀(i:Nat) x c v,clos[i]?>(x,c)->cvs[i]?>v->H c=none/\∃u,aY v u/\s.heap.IsCell c (some u))
  (E:h'.Ns (~~~s) λx=>(ps.zip us).reverse.lookup x) (J:Ng.SameBut (~~~s) (s.heap.push fo) h'):
  aG (vB P w K mg Oa ps clos qual scope f cd A l s H) [] (vs.map some++cvs.map some) H {s with heap:=h',toks:=tk}:=by
 let I:∀b o,s.heap.get? b>o->h'.get? b>o:=λb o e=>(J.2 b (Jm (Jj e))).trans (Ji _ e)
 let nd:=Kh.mp S.nd
 let g:∀x c,clos.lookup x>c->∃(i:Nat) (v:V),clos[i]?>(x,c)/\cvs[i]?>v:=λx c h=>by
  let⟨i,hi⟩:=KG.mp (PySem.mem_of_lookup h)
  let k:=(Js.mp hi).1
  show⟨i,cvs[i],hi,JI ()⟩
 let j:∀c v,s.heap.IsCell c v->h'.IsCell c v:=λc v C=>by let⟨o,M,F⟩:=C;show⟨o,I _ _ M,F⟩
 show⟨⟨m.mod,S.kind,Z,Z,Jd _,S.inj,λy hy=>?_,λy c z _=>absurd z Jw,λ_=>F,Nu.frames_deeper m.frames,.inr ⟨Z,Z⟩,λb z=>absurd (show b∈([]:-N8) from z) (by simp),m.bs,m.bsz,λb _ _ z=>absurd (show b∈([]:-N8) from z) (by simp),λb z=>absurd (show b∈([]:-N8) from z) (by simp),m.funs,m.frf⟩,
  rfl,m.bare,Un.kept I,⟨_,E,λi y v h1 h2 W=>?_⟩,λy c h=>?_,m.hok.fresh (Jd _),λy c h=>?_,λp hp=>absurd (show p∈([]:-(N8×Nv)) from hp) (by simp),m.hok.kept I,?_⟩
 ·let hy:scope.names.lookup y>.cell\/scope.names.lookup y>.free:=hy
  rcases hy with hy|hy
  ·show absurd Z (S.nocell _ (PySem.mem_of_lookup hy))
  ·show S.free y hy
 ·let h1:(ps++clos.map (·.1))[i]?>y:=h1
  by_cases hi:i<↑ps
  ·rw[Lf hi] at h1
   rw[Lf (by rw[Jb];lia),Jn] at h2
   let ha:vs[i]?>v:=by
    cases e:vs[i]? with
    |none=>rw[e] at h2;cases h2
    |some a=>rw[e] at h2;cases h2;rfl
   let⟨u,O,D⟩:=r.get ha
   show⟨u,D,.inl ⟨S.par y (Jl h1),?_⟩⟩
   show kS ?_ (List.mem_reverse.mpr (KG.mpr ⟨i,List.getElem?_zip_eq_some<|⟨h1,O⟩⟩))
   rw[List.map_reverse]
   show(List.reverse_perm _).nodup_iff.mpr ?_
   rw[List.map_fst_zip (by have:=↑r;lia)]
   show nd.1
  ·rw[Le (),Jn] at h1
   rw[Le (by rw[Jb];lia),Jn,Jb,Q] at h2
   let⟨⟨L,c⟩,n,q⟩:=JH.mp h1
   cases q
   let⟨U,R,N⟩:=JH.mp h2
   cases N
   let⟨_,u,D,d⟩:=B _ _ _ _ n R
   let hm:(L,c)∈clos:=Jl n
   show⟨u,D,.inr ⟨.inr (S.fr L (Jh.mpr ⟨_,hm,Z⟩)),c,kS nd.2.1 hm,j _ _ d⟩⟩
 ·let⟨i,v,n,q⟩:=g y c h
  let⟨_,u,_,d⟩:=B _ _ _ _ n q
  show⟨_,j _ _ d⟩
 ·let⟨i,v,n,q⟩:=g y c h
  show(B _ _ _ _ n q).1
 ·change(vs.map some++cvs.map some).length=↑(ps++clos.map (·.1))
  rw[Jo,Jo,Jb,Jb,Jb]
  lia
theorem BX {CX:A7}{P:Ni}{k:Nat}{f l:N8}{name qual:Nh}{params:Arguments}{body:Nw}{scope:NT}{pm m:N7}{ps:-Nh}{d:-(Nh×N8)}{g:-O0}{h:Args}{us:-N7}{vs cvs:-V}{Q:VK}{E:XK}
  (N:s.heap.get? f>Kk name qual params body scope d pm l m) (n:s.heap.CodeRec (.ref l) qual) (S:jR ps d scope) (D:aR (k+1) A) (y:lx P w K mg Oa A g s H) (R:↑vs=↑ps) (r:a8 vs us) (F:↑cvs=↑d)
  (L:∀(i:Nat) x c v,d[i]?>(x,c)->cvs[i]?>v->H c=none/\∃u,aY v u/\s.heap.IsCell c (some u)) (M:BindsTo s (PySem.W.kla_fn name qual params body scope d pm (.ref l) m) h (ps.zip us))
  (j:aR k (A.deeper (kI qual scope d (~~~s) f (.ref l)))->∃te,PE (vB P w K mg Oa ps d qual scope f (.ref l) A g s H) body te/\te (vs.map some++cvs.map some) H Q):
  NL (Nd P w) A (.call (.ref f) h) (CR CX g P w H s Q E) s:=by
 let a:s.heap.NoLimit:=y.mod.nolimit.keeps λb o e=>(y.bs b o e).1
 show PySem.W.kla_callFunE D.depth N Z S.co S.gen Z n (M _ _ _ _ ?_)
 show wpAny_newFunctionEnv S.nocell (λx U=>S.par x.1 (Lo U).1) (λh' C p=>?_) S.kind
 let T:∀b o,s.heap.get? b>o->h'.get? b>o:=λb o e=>(p.2 b (Jm (Jj e))).trans (Ji _ e)
 show⟨a.keeps T,PySem.W.kla_codeExpr ?_⟩
 let⟨te,ht,hq⟩:=j (D.deeper _)
 let I:=CU (qual:=qual) (f:=f) (cd:=.ref l) (tk:=s.toks+↑(ps.zip us)) S D.hd y R r F L C p
 show J3 (ht [] _ _ H Q I hq) (λv s' B=>by let⟨x,H',J,O,q⟩:=B;show⟨x,H',J.os,J.bare,J.Oa,J.hok,O,q⟩) λe s' z=>False.elim z
noncomputable def drp (H:Hp) (c:N8):Hp:=λb=>if b=c then none else H b
theorem gK:drp H c c=none:=N1 Z
theorem mL(h:b≠c):drp H c b=H b:=N0 h
theorem iC(h:H b=none):drp H c b=none:=by
 by_cases e:b=c
 ·rw[e];show gK
 ·rw[mL e];show h
theorem gG(h:H b>u)(a:H c>v)(d:u≠v):drp H c b>u:=mL (bu h a d)<|h
theorem kx(h:∀b,u≠.ext b):u≠iq a o:=h _
theorem Cf(ok:iu P w H h)(d:H c>iq c o):iu P w (drp H c) h:=λa u e=>by
 by_cases ha:a=c
 ·subst ha;rw[gK] at e;cases e
 rw[mL ha] at e
 show(ok a u e).stay (λ_ _ _ z=>z) (λb z=>gG z d (kx λf q=>by cases q)) (λb xs z=>gG z d (kx λf q=>by cases q))
theorem lx.drp(e:lx P w K mg Oa A outer s H)(d:H c>iq c o):lx P w K mg Oa A outer s (L2.drp H c):=
 ⟨e.frames,e.mod,λb a z=>⟨(e.bs b a z).1,iC (e.bs b a z).2⟩,e.bsz,e.funs,λb hb=>iC (e.frf b hb),Cf e.hok d,e.bare⟩
theorem Ce(k:H c>iq c o)(l:s.heap.get? c>o)(p:c∉vX outer)
  (h:CE outer P w (drp H c) s (λv H'=>H' c=none->Q v (Oc H' c (iq c o))) u s'):CE outer P w H s Q u s':=by
 let⟨v,H',os,bare,un,d,y,q⟩:=h
 let r:s'.heap.get? c>o:=un.keep c o l gK p (by simp)
 let i:H' c=none:=un.free c o l gK (by simp)
 let f:∀b,H b=none->b≠c:=λb z e=>by rw[e,k] at z;cases z
 show⟨v,_,os,bare,⟨λb g e n hb j=>un.keep b g e (iC n) hb j,λb g e n hb j=>un.slot b g e (iC n) hb j,λb g e n j=>?_,un.there,λb xs e=>?_,λb g x e=>?_,λb ps e=>?_⟩,λa x e=>?_,y,q i⟩
 ·rw[aj (f b n)];show un.free b g e (iC n) j
 ·let z:=un.tups b xs (gG e k (kx λm q=>by cases q))
  rw[aj (aq z i)];show z
 ·let z:=un.frzs b g x (gG e k (kx λm q=>by cases q))
  rw[aj (aq z i)];show z
 ·let⟨more,z⟩:=un.tbls b ps (gG e k (kx λm q=>by cases q))
  show⟨more,aj (aq z i)<|z⟩
 ·by_cases ha:a=c
  ·subst ha
   rw[af] at e;cases e
   show lV r
  ·rw[aj ha] at e
   show(d a x e).stay (λ_ _ _ z=>z) (λb z=>by rw[aj (aq z i)];show z) (λb xs z=>by rw[aj (aq z i)];show z)
theorem Cq(ok:iu P w H h)(d:H c=none)(f:h.get? c>o):iu P w (Oc H c (iq c o)) h:=λa u e=>by
 by_cases ha:a=c
 ·subst ha
  rw[af] at e;cases e
  show lV f
 ·rw[aj ha] at e
  show(ok a u e).stay (λ_ _ _ z=>z) (λb z=>by rw[aj (aq z d)];show z) (λb xs z=>by rw[aj (aq z d)];show z)
theorem aG.ownCell (I:aG X O9 σ H s){i:Nat}{y:Nh}{v:V}{c:N8}(p:X.N[i]?>y)(h:σ[i]?>some v)(j:X.env.scope.names.lookup y>.cell)(f:X.env.cells.lookup y>c)(g:X.env.locals<c):
  ∃o u,s.heap.get? c>o/\o.data=.cell (some u)/\aY v u/\H c=none/\X.Oa.get? c=none/\c∉vX X.stack:=by
 let⟨m,B,w⟩:=I.loc
 let⟨u,r,l⟩:=w i y v p h (.inr (.inl j))
 let a:∃c,X.env.cells.lookup y>c/\s.heap.IsCell c (some u):=by
  rcases l with ⟨z,_⟩|⟨_,z⟩
  ·let k:X.env.scope.names.lookup y>.local:=z
   rw[j] at k;cases k
  ·show z
 let⟨A,d,o,n,q⟩:=a
 rw[f] at d;cases d
 let b: ~~~X.s₀<=X.env.locals:=I.ok.above
 show⟨o,u,n,q,r,I.freeC y c f,Ku (Jt I.ok.bsz (Jt b (JX g))),λhb=>?_⟩
 rcases Jk.mp (I.stkSub c hb) with z|z
 ·show Kv g z
 ·let⟨_,x,e,_⟩:=I.ok.funs.mem z
  show JU _ (JM (Nat.lt_trans (Jj e) (Lr b g)) (Jd _))
section
variable {M:Model} {env:O0} {pos:O2} {f:N8} {Q:N7->N_->Prop}
theorem qd{df:-Nw}(h:Na M A (spliced (NG pos (Nf (e::df) env))) (λvs c=>(∃o fd,c.heap.get? f>o/\o.data=.func fd)/\Na M A (call (.ref f) vs) Q E c) E s)
  (i:Nf (e::df) env=(false,eval e env)::Nf df env) (b:(NG pos (Nf df env)).any (·.1)=false):
  Na M A (callWith pos (.ref f) [] (NG pos (Nf (e::df) env)) []) Q E s:=by
 rw[i] at h|-
 show PySem.W.callWith_of (P:=λh=>∃o fd,h.get? f>o/\o.data=.func fd) (by change((false||(NG pos (Nf df env)).any (·.1))||false)=false;rw[b];rfl) (λh d=>?_) (Calls.evalArgs_plain h)
 let⟨o,fd,g,j⟩:=d
 show⟨.frame,.inl Z,?_⟩
 let⟨a,k,l,m⟩:=o
 cases j
 show(Ln.ld (part:=none) g).andThen .now
end
def Ee (r:N8->-V->Hp->VK->Prop) (te:TE) (t:TA):TE:=λσ H Q=>te σ H λx H1=>∃f o fd,x=.ref f/\o.data=.func fd/\t σ H1 λvs H2=>H2 f>iq f o/\r f vs H2 Q
theorem AM{r:N8->-V->Hp->VK->Prop}(hf:PE X (.Name x p) te)(i:∀f,cJ X (.ref f) (r f))(l:PA X (e::es) t)
  (n:Nf (e::es) X.env=(false,eval e X.env)::Nf es X.env:=by rfl) (c:(NG pos (Nf es X.env)).any (·.1)=false:=by rfl):
  PE X (.Call (.Name x p) (e::es) [] pos) (Ee r te t):=by
 intro O9 s σ H Q I h
 show KM (cz (hf O9 s σ H _ I h) λv s1 b=>?_)
 let⟨z,H1,I1,u,f,o,fd,j,w,q⟩:=b
 subst j
 cases(show v=N7.ref f from u)
 show qd (cz (l pos O9 s1 σ H1 _ I1 q) λk g b=>by let⟨vs,H2,I2,d,a,m⟩:=b;show⟨⟨o,fd,(I2.hok _ _ a).1,w⟩,i f O9 g σ H2 vs k Q I2 d m⟩) n c
theorem xJ(U:aR (k+1) X.A)(F:∀c,jR ps [(y,c)] scope)
  (O:∀(s:N_) (B:-N7) (c l:N8) (m:N7),↑B=↑ps->BindsTo s (PySem.W.kla_fn name qual params body scope [(y,c)] pm (.ref l) m) ⟨B,[]⟩ (ps.zip B))
  (p:∀(f c l:N8) (A:Nu) (n:-O0) (s:N_) (H:Hp),aR k (A.deeper (kI qual scope [(y,c)] (~~~s) f (.ref l)))->PE (vB X.prog X.w X.K X.mg X.Oa ps [(y,c)] qual scope f (.ref l) A n s H) body te) (f:N8):
  cJ X (.ref f) (λvs H Q=>∃(c l:N8) (m:N7) (J o:Nv) (u:N7) (v:V),H f>iq f (Kk name qual params body scope [(y,c)] pm l m)/\H l>iq l J/\kh J l qual/\H c>iq c o/\o.data=.cell (some u)/\aY v u/\↑vs=↑ps/\
   te (vs.map some++[some v]) (drp H c) λr H'=>H' c=none->Q r (Oc H' c (iq c o))):=by
 intro O9 s σ H vs B Q I r h
 let⟨c,l,m,J,o,u,v,hf,g,a,C,T,S,M,q⟩:=h
 let L:s.heap.get? c>o:=(I.hok _ _ C).1
 let j:=(I.hok _ _ hf).1
 let b:=(I.hok _ _ g).1
 let R:c∉vX X.stack:=λz=>by have:=I.stkFree c z;rw[C] at this;cases this
 show wpAny_call (NS (BX (CX:=kf) (E:=E0) (Q:=λr H'=>H' c=none->Q r (Oc H' c (iq c o))) j (a _ b) (F c) U (I.env0.drp C) M r (cvs:=[v]) Z (λi x d Y N P=>?_) (O s B c l m (by rw[<-↑r];show M)) (λD=>⟨te,p f c l _ _ _ _ D,q⟩)) λr s' hq=>?_)
 ·cases i with
  |zero=>
   cases N
   cases P
   show⟨gK,u,S,o,L,T⟩
  |succ i=>simp at N
 ·cases r with
  |error e=>show False.elim hq
  |ok fl=>
   cases fl with
   |ret u=>show I.after (Ce C L R hq)
   |next=>show False.elim hq
   |brk=>show False.elim hq
   |cont=>show False.elim hq
namespace TabA
open SetTable
variable (t:Nq) (hashAt:Nat->Int) (h:Int)
noncomputable def lp (p:Probe):Probe:={p with j:=(leap t.mask p.i p.perturb).1,more:=runEnd t.mask (leap t.mask p.i p.perturb).1 - (leap t.mask p.i p.perturb).1,i:=(leap t.mask p.i p.perturb).1,perturb:=(leap t.mask p.i p.perturb).2}
def nF (N:Nat) (p:Probe):Prop:=∀f,N<=f->∃j,probe.go t hashAt h f p>.empty j none
variable {t hashAt h}
theorem nF.mono{p:Probe}(g:nF t hashAt h N p)(l:N<=M):nF t hashAt h M p:=λf hf=>g f (Jt l hf)
theorem xC(e:t.slot j=.live i):i<t.place.size:=by
 unfold slot at e
 dsimp only at e
 split at e
 ·rename_i q
  injection e with e
  subst e
  let a:=beq_iff_eq.mp q
  show(L_.mp a).1
 ·split at e<;>cases e
theorem j0(a:t.dummies= #[]):t.slot j≠.dummy:=by
 unfold slot
 dsimp only
 split
 ·intro z;cases z
 ·rw[a]
  split
  ·rename_i q
   unfold has at q
   simp at q
  ·intro z;cases z
theorem wV(a:t.dummies= #[])(c:j∉t.place):t.slot j=.empty:=by
 cases e:t.slot j with
 |empty=>rfl
 |dummy=>show(j0 a e).elim
 |live i=>
  unfold slot at e
  dsimp only at e
  split at e
  ·rename_i q
   let b:=beq_iff_eq.mp q
   show(c (Array.mem_of_getElem? b)).elim
  ·split at e<;>cases e
theorem tX {p:Probe}(a:p.dummy=none)(e:t.slot p.j=.empty):nF t hashAt h 1 p:=by
 intro f hf
 obtain⟨f,rfl⟩:∃g,f=g+1:=⟨f - 1,()⟩
 show⟨p.j,?_⟩
 unfold probe.go
 rw[e]
 dsimp only
 rw[a]
theorem oH{p:Probe}(c:t.dummies= #[])(a:∀i,i<t.place.size->hashAt i≠h)(b:p.dummy=none)(g:nF t hashAt h N (t.advance p)):nF t hashAt h (N+1) p:=by
 intro f hf
 obtain⟨f,rfl⟩:∃g,f=g+1:=⟨f - 1,()⟩
 unfold probe.go
 cases e:t.slot p.j with
 |empty=>show⟨p.j,by dsimp only;rw[b]⟩
 |dummy=>show(j0 c e).elim
 |live i=>
  dsimp only
  rw[N0 (by simpa using a i (xC e))]
  show g f ()
theorem zh (b:t.dummies= #[])(a:∀i,i<t.place.size->hashAt i≠h):∀(m N:Nat) (p:Probe),p.more=m->p.dummy=none->nF t hashAt h N (lp t p)->nF t hashAt h (N+(m+1)) p:=by
 intro m
 induction m with
 |zero=>
  intro N p hm hp g
  show oH b a hp ?_
  let e:t.advance p=lp t p:=by unfold advance;rw[N0 ()];rfl
  rw[e];show g
 |succ m ih=>
  intro N p hm hp g
  let e:t.advance p={p with j:=p.j+1,more:=m}:=by unfold advance;rw[N1 (),hm];rfl
  show oH (N:=N+(m+1)) b a hp ?_
  rw[e]
  show ih N _ Z hp g
theorem yE (m i:Nat):runEnd m i - i<=9:=by unfold runEnd;split<;>lia
noncomputable def jq (t:Nq) (h:Int):Nat->Probe
 |0=>t.probeStart h
 |n+1=>lp t (jq t h n)
theorem km:∀n,(jq t h n).dummy=none
 |0=>rfl
 |n+1=>km n
theorem AR:∀n,(jq t h n).more<=9
 |0=>yE _ _
 |_+1=>yE _ _
theorem Fw:∀n,(jq t h n).j=(jq t h n).i
 |0=>rfl
 |_+1=>rfl
theorem sj (b:t.dummies= #[])(a:∀i,i<t.place.size->hashAt i≠h):∀(n k:Nat),t.slot (jq t h (k+n)).j=.empty->nF t hashAt h (1+10*n) (jq t h k)
 |0,k,e=>tX (km k) e
 |n+1,k,e=>by
  let g:nF t hashAt h (1+10*n) (jq t h (k+1)):=sj b a n (k+1) (by rw[show k+1+n=k+(n+1) by lia];show e)
  have:=zh b a _ _ (jq t h k) Z (km k) g
  show this.mono (by have:=AR (t:=t) (h:=h) k;lia)
theorem BN (h:Int):bits h<2^64:=by unfold bits;lia
theorem sY:∀n,(jq t h n).perturb=bits h/32^n
 |0=>by change bits h=_;simp
 |n+1=>by
  change(jq t h n).perturb/32=_
  rw[sY n,Nat.div_div_eq_div_mul,Nat.pow_succ]
theorem Dl (n:Nat):(jq t h (n+1)).i=((jq t h n).i*5+1+bits h/32^(n+1))%(t.mask+1):=by
 change((jq t h n).i*5+1+(jq t h n).perturb/32)%(t.mask+1)=_
 rw[sY n,Nat.div_div_eq_div_mul,Nat.pow_succ]
theorem Gm(a:13<=n):bits h/32^n=0:=by
 show LB (JM (BN h) ?_)
 show Jt (by decide:2^64<=32^13) (Nat.pow_le_pow_right (by decide) a)
noncomputable def it (M:Nat):Nat->Nat->Nat
 |0,a=>a
 |k+1,a=>(it M k a*5+1)%M
theorem t_:∀k,(jq t h (12+k)).i=it (t.mask+1) k (jq t h 12).i
 |0=>rfl
 |k+1=>by
  change(jq t h (12+k+1)).i=_
  rw[Dl,Gm (),t_ k]
  rfl
theorem IF:∀a<8,∀j<8,∃k,k<8/\it 8 k a=j:=by decide+kernel
theorem HW:∀a<32,∀j<32,∃k,k<32/\it 32 k a=j:=by decide+kernel
theorem DW:∀n,(jq t h n).i<t.mask+1
 |0=>Nat.mod_lt _ (KH _)
 |n+1=>by rw[Dl];show Nat.mod_lt _ (KH _)
theorem vV (b:t.mask=7\/t.mask=31){j:Nat}(a:j<t.mask+1):∃n,n<13+t.mask/\(jq t h n).i=j:=by
 let l:=DW (t:=t) (h:=h) 12
 rcases b with e|e
 ·rw[e] at a l|-
  let⟨k,c,q⟩:=IF _ l j a
  show⟨12+k,(),t_<|e<|q⟩
 ·rw[e] at a l|-
  let⟨k,c,q⟩:=HW _ l j a
  show⟨12+k,(),t_<|e<|q⟩
theorem rG:∀{l m:-Nat},l.Nodup->(∀x∈l,x∈m)->↑l<=↑m
 |[],m,_,_=>Ju _
 |a::l,m,hn,hs=>by
  let ha:=hs a JA
  have:=rG (l:=l) (m:=m.erase a) (JE.mp hn).2 λx b=>(List.mem_erase_of_ne (λ(e:x=a)=>(JE.mp hn).1 (e▸b))).mpr (hs x (JC _ b))
  rw[List.length_erase_of_mem ha] at this
  have:=LU ha
  simp only[JY]
  lia
theorem xY (_hd:t.dummies= #[])(b:t.place.size<=t.mask):∃j,j<t.mask+1/\j∉t.place:=by
 by_cases q:∀j,j<t.mask+1->j∈t.place
 ·exfalso
  have:=rG (l:=List.range (t.mask+1)) (m:=t.place.toList) List.nodup_range λj a=>Kx.mpr (q j (J8.mp a))
  simp at this
  lia
 ·simp only[Classical.not_forall] at q
  let⟨j,h1,h2⟩:=q
  show⟨j,h1,h2⟩
theorem probe_new (c:t.mask=7\/t.mask=31)(b:t.dummies= #[])(f:t.place.size<=t.mask)(a:∀i,i<t.place.size->hashAt i≠h):∃j,t.probe hashAt h (t.probeStart h)>.empty j none:=by
 let⟨j,d,g⟩:=xY b f
 let⟨n,k,e⟩:=vV (h:=h) c d
 have:=sj (h:=h) b a n 0 (Nat.zero_add<|Fw<|e<|wV b g)
 show this _ (by unfold turns;lia)
noncomputable def GV (o:Array (Option Nat)):Nat:=o.toList.countP Option.isSome
structure Ow (o:Array (Option Nat)) (k:Nat):Prop where
 sz:o.size=32
 ct:GV o=k
 lt:∀(j v:Nat),o[j]?>some v->v<k
theorem BB {o:Array (Option Nat)}(w:Ow o k)(d:k<32):∃j,j<32/\o.getD j (some 0)=none:=by
 by_cases q:∀j,j<32->o.getD j (some 0)≠none
 ·exfalso
  have:o.toList.countP Option.isSome=↑o.toList:=by
   show List.countP_eq_length.mpr λv hv=>?_
   let⟨j,b,e⟩:=List.mem_iff_getElem.mp hv
   let a:j<o.size:=by simpa using b
   have:=q j (by rw[<-w.sz];show a)
   rw[Ko,Kb a] at this
   let c:o[j]=v:=by simpa using e
   rw[c] at this
   cases v with
   |none=>show(this Z).elim
   |some _=>rfl
  let h1:=w.ct
  unfold GV at h1
  rw[this,J4,w.sz] at h1
  lia
 ·simp only[Classical.not_forall,Classical.not_not] at q
  let⟨j,h1,h2⟩:=q
  show⟨j,h1,h2⟩
theorem yf {o:Array (Option Nat)}:∀(f i p:Nat),(∃n,n<f/\∃j,o.getD j (some 0)=none/\j=(Nat.rec (motive:=λ_=>Nat×Nat) (i,p) (λ_ q=>leap 31 q.1 q.2) n).1)->∃j,layClean.free 31 o f i p>j/\o.getD j (some 0)=none:=by
 intro f
 induction f with
 |zero=>intro i p ⟨n,c,_⟩;lia
 |succ f ih=>
  intro i p ⟨n,c,j,b,e⟩
  unfold layClean.free
  cases q:(List.range (runEnd 31 i+1 - i)).find? λk=>(o.getD (i+k) (some 0)).isNone with
  |some k=>
   show⟨i+k,Z,by have:=List.find?_some q;simpa using this⟩
  |none=>
   dsimp only
   cases n with
   |zero=>
    exfalso
    let e:j=i:=e
    have:=List.find?_eq_none.mp q 0 (J8.mpr (by unfold runEnd;split<;>lia))
    rw[K9,<-e,b] at this
    show this Z
   |succ n=>
    show ih _ _ ⟨n,(),j,b,e.trans ?_⟩
    let a:∀n,(Nat.rec (motive:=λ_=>Nat×Nat) (i,p) (λ_ q=>leap 31 q.1 q.2) (n+1):Nat×Nat)=Nat.rec (motive:=λ_=>Nat×Nat) ((leap 31 i p).1,(leap 31 i p).2) (λ_ q=>leap 31 q.1 q.2) n:=by
     intro n
     induction n with
     |zero=>rfl
     |succ n ih=>change leap 31 _ _=leap 31 _ _;rw[<-ih]
    rw[a]
noncomputable def GC:Nq:={mask:=31,place:= #[],dummies:= #[],finger:=0,led:=true,moves:=0,plain:=true}
theorem vy (h:Int):∀n,(Nat.rec (motive:=λ_=>Nat×Nat) (bits h%32,bits h) (λ_ q=>leap 31 q.1 q.2) n:Nat×Nat)=((jq GC h n).i,(jq GC h n).perturb)
 |0=>rfl
 |n+1=>by change leap 31 _ _=_;rw[vy h n];rfl
theorem AW {o:Array (Option Nat)}(w:Ow o k)(c:k<32)(h:Int):∃j,layClean.free 31 o (turns 31) (bits h%(31+1)) (bits h)>j/\j<32/\o[j]?>none:=by
 let⟨j,b,e⟩:=BB w c
 let⟨n,d,q⟩:=vV (t:=GC) (h:=h) (.inr Z) (j:=j) b
 let⟨a,h1,h2⟩:=yf (o:=o) (turns 31) (bits h%32) (bits h) ⟨n,by unfold turns;have:GC.mask=31:=rfl;lia,j,e,vy<|q.symm⟩
 show⟨a,h1,?_⟩
 rw[Ko] at h2
 cases z:o[a]? with
 |none=>rw[z] at h2;cases h2
 |some v=>
  rw[z] at h2
  let lt:=(L_.mp z).1
  rw[w.sz] at lt
  show⟨lt,congrArg some h2⟩
theorem Eh {o:Array (Option Nat)}{k j:Nat}(w:Ow o k)(b:j<32)(e:o[j]?>none):Ow (o.setIfInBounds j (some k)) (k+1) where
 sz:=by simpa using w.sz
 ct:=by
  let h1:=w.ct
  unfold GV at h1|-
  let⟨l,a⟩:=L_.mp e
  rw[Array.toList_setIfInBounds,List.countP_set (by simpa using l),h1]
  simp[a]
 lt:=λi v q=>by
  rw[Array.getElem?_setIfInBounds] at q
  split at q
  ·split at q
   ·injection q with q;injection q with q;lia
   ·cases q
  ·have:=w.lt i v q;lia
theorem rm:∀(hs:-Int) (o:Array (Option Nat)) (k:Nat),Ow o k->k+↑hs<=32->∃o',(hs.foldl (init:=some (o,k)) λa h=>do
  let (owner,k)<-a
  let j<-layClean.free 31 owner (turns 31) (bits h%(31+1)) (bits h)
  pure (owner.setIfInBounds j (some k),k+1))>(o',k+↑hs)/\Ow o' (k+↑hs)
 |[],o,k,w,_=>⟨o,Z,w⟩
 |h::hs,o,k,w,l=>by
  simp only[JY] at l
  let⟨j,e,b,f⟩:=AW w () h
  let⟨o',h1,h2⟩:=rm hs _ _ (Eh w b f) ()
  show⟨o',?_,by rw[JY,show k+(↑hs+1)=k+1+↑hs by lia];show h2⟩
  rw[List.foldl_cons,JY,show k+(↑hs+1)=k+1+↑hs by lia,<-h1]
  congr 1
  change(layClean.free 31 o (turns 31) (bits h%(31+1)) (bits h)>>=_)=_
  rw[e]
  rfl
theorem laid_some (c g:Nat)(i f:Bool)(d:Array Int)(n:d.size<=32):∃t b,laid 31 c g i f d>(t,b)/\t.mask=31/\t.dummies= #[]/\t.place.size=d.size/\b.size=d.size/\∀k∈b,k<d.size:=by
 let⟨o,h1,w⟩:=rm d.toList (Array.replicate 32 none) 0 ⟨by simp,by decide+kernel,λj v e=>by
  rw[Array.getElem?_replicate] at e
  split at e<;>simp at e⟩ (by simpa using n)
 let p:layClean 31 d>o:=by
  unfold layClean
  rw[<-Array.foldl_toList]
  rw[show(31:Nat)+1=32 from Z] at h1|-
  rw[h1]
  rfl
 let cl:↑((List.range (31+1)).filterMap λj=>(o.getD j none).map (j, ·))=d.size:=by
  rw[List.length_filterMap_eq_countP]
  let m:o.toList=(List.range 32).map (λj=>o.getD j none):=by
   show Lu λj=>?_
   rw[Jn,Array.getElem?_toList]
   by_cases hj:j<32
   ·rw[LX hj]
    have:j<o.size:=w.sz<|hj
    simp[Kb this]
   ·have:¬j<o.size:=w.sz<|hj
    rw[LR ()]
    rw[LO (by simpa using hj)]
    rfl
  let h2:=w.ct
  unfold GV at h2
  rw[m,List.countP_map] at h2
  simp only[Nat.zero_add,J4] at h2
  rw[<-h2]
  congr 1
  funext j
  simp
 show⟨_,_,by unfold laid;rw[p];rfl,Z,Z,?_,?_,?_⟩
 ·simpa using cl
 ·simpa using cl
 ·intro k l
  simp only[List.mem_toArray,Jh,KW] at l
  let⟨⟨j,r⟩,⟨h,a,e⟩,rfl⟩:=l
  cases q:o.getD h none with
  |none=>rw[q] at e;cases e
  |some v=>
   rw[q] at e
   simp at e
   let⟨rfl,rfl⟩:=e
   rw[Ko] at q
   have:o[h]?>some v:=by
    cases z:o[h]? with
    |none=>rw[z] at q;cases q
    |some u=>rw[z] at q;show congrArg some q
   have:=w.lt _ _ this
   simpa using this
end TabA
theorem lj {a:Type}(xs:Array a)(p:Nat)(x:a):(Nq.insertAt xs p x).size=xs.size+1:=by
 have:=(Nq.insertAt_perm xs p x).length_eq
 simpa using this
theorem uI {a:Type}{xs:Array a}{x y:a}(h:y∈Nq.insertAt xs p x):y=x\/y∈xs:=by
 have:=(Nq.insertAt_perm xs p x).mem_iff.mp (Kx.mpr h)
 rw[Array.toList_push] at this
 rcases Jz.mp this with z|z
 ·show .inr (Kx.mp z)
 ·show .inl (Jg.mp z)
structure SI (t:Nq) (es:Array (Int×N7)) (n:Nat) (f:Nat->Int):Prop where
 dm:t.dummies= #[]
 ms:t.mask=7/\n<5\/t.mask=31/\n<=18
 pl:t.place.size=n
 sz:es.size=n
 hm:∀e∈es,∃j,j<n/\e.1=f j
theorem SI.fits {t:Nq}{a:Array (Int×N7)}{f:Nat->Int}(I:SI t a n f):t.fits a.size=true:=by
 unfold Nq.fits Nq.fill
 rw[I.pl,I.sz,I.dm]
 simp
 rcases I.ms with q|q<;>lia
def SO (h:Ng) (S:N8) (n:Nat) (f:Nat->Int):Prop:=∃o ep es t,h.get? S>o/\o.ExactSet/\o.data=.set es ep t/\SI t es n f
theorem zA{b:Array (Int×N7)}{t t2:Nq}{Q:Unit->N_->Prop}(c:s.heap.get? a>o)(d:o.data=.set b ep t)(hf:t.fits b.size=true)(f:Nq.sizeAbove wanted<=N9)
  (e:t.relaid (b.map (·.1)) wanted>(t2,order)) (hz:(order.filterMap (b[·]?)).size=b.size) (g:b.size<1000) (h:Q Unit.unit {s with heap:=s.heap.update a (Nv.putSet (order.filterMap (b[·]?)) t2)}):
  Na (Nd prog w) A (setRelay a wanted) Q E s:=by
 show Ja (wpAny_setState_of c d hf ?_)
 dsimp only
 rw[N0 (),e]
 show Ja ?_
 change Na _ _ (if ((order.filterMap (b[·]?)).size !=b.size)=true then _ else _) _ _ _
 rw[N0 (by simp[hz])]
 show Jc ?_
 dsimp only
 show wpAny_storeSet_of c d h (by have:N9=2^24:=rfl;lia)
set_option tactic.hygienic true in
theorem uF{C:Array (Int×N7)}{f:Nat->Int}{t:Nq}{Q:Bool->N_->Prop}(hr:(Nm (NW prog w)).room A)(W:pQ s.heap k b)(D:s.heap.get? a>o)(y:o.data=.set C ep t)(I:SI t C n f)(hn:n<18)(hf:f n=c_ k)(hh:∀j,j<n->f j≠f n)
  (h:∀h' P F Z0,Ng.SameBut a s.heap h'->h'.get? a=some {o with data:=.set F P Z0}->SI Z0 F (n+1) f->Q true {s with heap:=h',toks:=s.toks+(Nm (NW prog w)).draws k}):
  Na (Nd prog w) A (setAdd a (.ref b)) Q E s:=by
 let hm:t.mask=7\/t.mask=31:=I.ms.imp (·.1) (·.1)
 let⟨j,hp⟩:=TabA.probe_new (t:=t) (hashAt:=Iq C) (h:=c_ k) hm I.dm (by rw[I.pl];rcases I.ms with q|q<;>lia) (λi hi e=>by
  rw[I.pl,<-I.sz] at hi
  unfold Iq at e
  rw[Kb hi] at e
  let⟨j,R,N⟩:=I.hm _ (Ls hi)
  show hh j R (N.symm.trans (Eq.trans e hf.symm)))
 let hg:¬t.gaveWay=true:=by unfold Nq.gaveWay;rcases hm with q|q<;>simp[q]
 let Y:(t.put j).1.dummies= #[]:=by
  unfold Nq.put
  dsimp only
  rw[I.dm]
  split
  ·rename_i q;unfold Nq.has at q;simp at q
  ·rfl
 let J:(t.put j).1.mask=t.mask:=rfl
 let L:(t.put j).1.place.size=n+1:=by
  change(Nq.insertAt t.place _ j).size=_
  rw[lj,I.pl]
 let M:(t.put j).1.fill=n+1:=by unfold Nq.fill;rw[L,Y];rfl
 obtain⟨es1,O⟩:∃es1,Nq.insertAt C (t.put j).2 (c_ k,N7.ref b)=es1:=⟨_,Z⟩
 let x:es1.size=n+1:=by rw[<-O,lj,I.sz]
 let m:(t.put j).1.fits es1.size=true:=by
  unfold Nq.fits
  rw[x,L,M,J]
  simp
  rcases I.ms with q|q<;>lia
 let d:∀e∈es1,∃j,j<n+1/\e.1=f j:=λe H=>by
  rw[<-O] at H
  rcases uI H with rfl|z
  ·show⟨n,J9 _,hf.symm⟩
  ·let⟨j,R,N⟩:=I.hm _ z
   show⟨j,(),N⟩
 show Jy (Ja ((Nm (NW prog w)).pyHash hr (C1 W) ?_))
 show Jy ?_
 show Ja (wpAny_setState_of (s:={s with toks:=s.toks+(Nm (NW prog w)).draws k}) D y I.fits ?_)
 dsimp only
 show Ja ?_
 show Ja (wpAny_setState_of (s:={s with toks:=s.toks+(Nm (NW prog w)).draws k}) D y I.fits ?_)
 dsimp only
 rw[N0 hg]
 split
 ·rename_i met hm
  let em:met=.empty j none:=Option.some.inj (hm.symm.trans hp)
  subst em
  show Jc ?_
  show Ja (wpAny_setState_of (s:={s with toks:=s.toks+(Nm (NW prog w)).draws k}) D y I.fits ?_)
  let g:Na (Nd prog w) A (storeSet a (Nq.insertAt C (t.put j).2 (c_ k,.ref b)) (t.put j).1>>=λ_=>if (!false&&(t.put j).1.tooFull)=true then (setRelay a (Nq.grown (C.size+1))>>=λ_=>pure true) else pure true) Q E {s with toks:=s.toks+(Nm (NW prog w)).draws k}:=by
   rw[O,I.sz]
   let p:N9=2^24:=rfl
   show Ja (wpAny_storeSet_of (s:={s with toks:=s.toks+(Nm (NW prog w)).draws k}) D y ?_ ())
   let B:=Kg (Nv.putSet es1 (t.put j).1) D (by rw[putSet_of _ _ y];rfl)
   rw[putSet_of _ _ y] at B
   by_cases hfull:(t.put j).1.tooFull=true
   ·rw[N1 (by simpa using hfull)]
    let l:n=4:=by
     unfold Nq.tooFull at hfull
     rw[M,J] at hfull
     simp only[ge_iff_le,decide_eq_true_eq] at hfull
     rcases I.ms with q|q<;>rw[q.1] at hfull<;>lia
    let⟨K,u,e2,a1,a2,T,S,U⟩:=TabA.laid_some (t.put j).1.finger ((t.put j).1.movedTo 31) (t.put j).1.led (t.put j).1.plain (es1.map (·.1)) (by rw[Array.size_map,x];lia)
    rw[Array.size_map,x] at T S U
    let X:(u.filterMap (es1[·]?)).size=es1.size:=by
     rw[<-J4,Array.toList_filterMap,List.length_filterMap_eq_countP,x]
     rw[List.countP_eq_length.mpr,J4,S]
     intro i hi
     rw[Kb (x<|U i (Kx.mp hi))]
     rfl
    show Ja (zA (s:={s with heap:=_,toks:=s.toks+(Nm (NW prog w)).draws k}) (t2:=K) (order:=u) B Z m (by rw[l];decide+kernel) (l<|e2) X () ?_)
    show Jc (h _ (ep+1+1) _ _ ((Ng.SameBut.update ..).trans (Ng.SameBut.update ..)) (Kg (Nv.putSet (u.filterMap (es1[·]?)) K) B (by rw[putSet_of _ _ Z];rfl)) ⟨a2,.inr ⟨a1,()⟩,T,X.trans x,λe H=>?_⟩)
    let⟨i,_,q⟩:=Array.mem_filterMap.mp H
    show d _ (Array.mem_of_getElem? q)
   ·rw[N0 (by simpa using hfull)]
    show Jc (h _ _ _ _ (Ng.SameBut.update ..) B ⟨Y,?_,L,x,d⟩)
    rw[J]
    rcases I.ms with q|q
    ·show .inl ⟨q.1,?_⟩
     unfold Nq.tooFull at hfull
     rw[M,J,q.1] at hfull
     simp only[ge_iff_le,decide_eq_true_eq] at hfull
     lia
    ·show .inr ⟨q.1,()⟩
  let⟨ob,r,c,B,g2,g3,g4⟩:=W
  split
  ·show Ja (y0 (s:={s with toks:=_}) B g2 g3 (λv hv=>g4.allInts v (by simpa using hv)) ?_)
   show g
  ·show Ja (Jc ?_)
   show g
 ·rename_i hm
  show(hm _ hp).elim
section
variable {R:Result->N_->Prop} {I:N8} {fp wr:-N8} {G:Array NU->Array NU->Prop} {n:Nat} {P:Nat->N7->Prop} {St:Nat->N_->Prop}
theorem uq (W:WalksS prog w A.in1 I fp wr G n P St)(S:N8)(E:S∉fp)(p:(Nm (NW prog w)).room A.in1)(r:Nat->N8)(key:Nat->-Int)(x:∀i v,P i v->v=.ref (r i))
  (B:∀i,i<n->r i≠S/\r i∉wr) (Z0:n<=18) (N:∀i j,i<n->j<i->c_ (key j)≠c_ (key i)):
  ∀(k i:Nat) (s:N_),n - i=k->i<=n->St i s->(∀j,j<n->pQ s.heap (key j) (r j))->SO s.heap S i (λi=>c_ (key i))->
   (∀s',Moved (S::wr) G s s'->SO s'.heap S n (λi=>c_ (key i))->R (.ok (.ret .none)) s')->
   NL (Nd prog w) A (.builtin "set.update.loop" ⟨[.ref S,.ref I],[]⟩) R s:=by
 let g:S∉wr:=λh=>E (W.sub _ h)
 let more:∀b∈wr,b∈S::wr:=λb hb=>JC _ hb
 let a:∀{h h':Ng} {k b},pQ h k b->(∀o,h.get? b>o->h'.get? b>o)->pQ h' k b:=λ⟨o,L,c,h1,h2⟩ f=>⟨o,L,c,f o h1,h2⟩
 intro k
 induction k with
 |zero=>
  intro i s T hi u ht J H
  obtain rfl:i=n:=by lia
  show Nt F.entry_set_update_loop ?_
  rw[Nu.under_plainId F.plain_set_update_loop _]
  change Na _ A.in1 (NH (.ref I)>>=_) _ _ s
  show Ja (W.done s _ _ u λs' hm=>Jc (H s' (hm.mono more) ?_))
  let⟨o,ep,es,t,h1,h2⟩:=J
  show⟨o,ep,es,t,hm.heap S _ g h1,h2⟩
 |succ k ih=>
  intro i s T hi u ht J H
  let d:i<n:=by lia
  show Nt F.entry_set_update_loop ?_
  rw[Nu.under_plainId F.plain_set_update_loop _]
  change Na _ A.in1 (NH (.ref I)>>=_) _ _ s
  show Ja (W.item i s _ _ d u λv s' Y D hm=>?_)
  obtain rfl:=x i v Y
  let⟨o,ep,es,t,h1,h2,U,M⟩:=J
  let l:∀j,j<n->pQ s'.heap (key j) (r j):=λj m=>a (ht j m) λo q=>hm.heap _ o (B j m).2 q
  change Na _ A.in1 (holding [N7.ref (r i)] (setAdd S (.ref (r i)))>>=_) _ _ s'
  show Ja (Jy ?_)
  show uF (s:=s') p (l i d) (hm.heap S _ g h1) U M () Z (λj m=>N i j d m) λh' O Q t' sb hg X=>?_
  ·show Jc ⟨Ny F.plain_set_update_loop _,ih (i+1) _ () d (W.frame _ s' _ _ D (KU _ _) λb hb o e=>?_) (λj m=>a (l j m) λo q=>?_) ⟨_,_,_,_,hg,h2,Z,X⟩ λK y C=>?_⟩
   ·rw[sb.2 b (λz=>E (z▸hb))];show e
   ·rw[sb.2 _ (B j m).1];show q
   ·show H K (Moved.trans W.gtrans ((hm.mono more).then_heap (KU _ _) λb o hb e=>?_) y) C
    rw[sb.2 b (λz=>hb (z<|JA))];show e
end
set_option maxHeartbeats 3200000 in
theorem mq {l:N8}{as:-N8}{Q:N7->N_->Prop}(hh:A.handled=none)(hl:s.heap.IsList l (as.map N7.ref).toArray)
  (P:(Nm (NW prog w)).room A.in1.in1.in1) (key:Nat->-Int) (N:∀j,j<↑as->pQ s.heap (key j) (as.getD j 0))
  (hn:↑as<=18) (hd:∀i j,i<↑as->j<i->c_ (key j)≠c_ (key i))
  (h:∀(h':Ng) (W:Nat),SO h' (~~~s) ↑as (λi=>c_ (key i))->(∀b o,b<~~~s->s.heap.get? b>o->h'.get? b>o)->
   Q (.ref (~~~s)) {s with heap:=h',toks:=W}):Na (Nd prog w) A (call (.type "set") [.ref l]) Q E s:=by
 let⟨c0,K,I⟩:=F.called_set.mro
 let made:=F.called_set.made
 let sub:=F.called_set.sub
 let nt:=F.called_set.notType
 let cc:=F.called_set.canCreate
 let ck:=F.typeCall_set_1 (.ref l)
 show wpAny_call (codeAny_of_tree ?_)
 change Na _ _ (callAny (.type "set") ⟨[.ref l],[]⟩) _ _ _
 show Jc ⟨Code.quiet_builtin _ (by decide+kernel),Nt F.entry_type_call ?_⟩
 rw[Nu.under_plain (weight_type_call_type "set" [.ref l] []) Z]
 repeat (any_goals (first|assumption|wp_step))
 show NS (code_set_new_1 (.ref l) (E:=E) (Q₁:=λv M=>∃L:Bool,v=.ref (~~~s)/\M={s with heap:=s.heap.push (qi L)}) λL=>⟨L,Z,Z⟩) λr M hr=>?_
 match r,hr with
 | .error e,hr=>show hr
 | .ok (.ret v),⟨L,ev,es⟩=>
  subst ev es
  let hS:(s.heap.push (qi L)).get? (~~~s)>qi L:=Jp _ Z
  let hT:N_.TypeIs {s with heap:=s.heap.push (qi L)} (.ref (~~~s)) "set" :=⟨_,hS,Z⟩
  let li:=F.called_set.init.lookup
  let bi:=F.called_set.init.bind (.ref (~~~s))
  repeat (any_goals (first|assumption|wp_step))
  show NS (codeAny_call_builtin (R:=wants (λr O=>r=.none/\∃h' W,O={s with heap:=h',toks:=W}/\SO h' (~~~s) ↑as (λi=>c_ (key i))/\
   ∀b o,b<~~~s->s.heap.get? b>o->h'.get? b>o) E) F.called_set.init.plain F.entry_set_init (check_set_init_1 hT ?_)) λT O S=>?_
  ·let lt:l<~~~s:=by let⟨o,ho,_⟩:=hl;show Jj ho
   let⟨⟨oc,od,J,n⟩,H,f,nl,k⟩:=id hl
   simp only at f k
   subst f k
   let m:(s.heap.push (qi L)).get? l>⟨.type "list",od,.seq (as.map N7.ref).toArray nl,n⟩:=Ji _ H
   let n1:=F.sub_list_set
   let n2:=F.sub_list_frozenset
   let n3:(N7.type "list" ==N7.type "dict")=false:=by decide
   let g:(s.heap.push (qi L)).IsList l (as.map N7.ref).toArray:=⟨_,m,Z,nl,Z⟩
   unfold Nc.«set.__init__» noKeywords Nc.Frozenset.updateFrom
   generalize Y:pyIter=PI
   wp_walk
   subst Y
   show Kw g (Ja (wpAny_runValue ?_))
   let a:(s.heap.push (qi L)).objs.size= ~~~s+1:=Kc ..
   let u:A.in1.in1.in1.handled=none:=by simp[hh]
   let p:l≠(s.heap.push (qi L)).objs.size:=a<|Jm (K2 lt)
   let nS: ~~~s∉[(s.heap.push (qi L)).objs.size,l]:=by
    rw[a]
    intro z
    rcases Jk.mp z with z|z
    ·show absurd z (Jm (J9 _))
    ·show absurd (Jg.mp z) (Kv lt)
   let y:∀j,j<↑as->as.getD j 0<~~~s:=λj U=>by let⟨o,_,_,h1,_⟩:=N j U;show Jj h1
   show uq ((Walks.list u _ l p (as.map N7.ref).toArray).toS) (~~~s) nS P (λi=>as.getD i 0) key (λi v hv=>?_) (λi hi=>?_) (by simpa using hn) (λi j hi U=>hd i j (by simpa using hi) U)
    ((as.map N7.ref).toArray.size - 0) 0 _ () (Ju _) ⟨⟨_,Jp _ Z,Z,Z⟩,(g.push _)⟩ (λj U=>?_) ?_ λs' hm Z0=>?_
   ·let d:(as.map N7.ref).toArray[i]?>v:=hv
    rw[LN,Jn] at d
    let⟨x,hx,rfl⟩:=JH.mp d
    change _=N7.ref (as.getD i 0)
    rw[JP,hx];rfl
   ·let C:i<↑as:=by simpa using hi
    have:=y i C
    show⟨Jm this,λz=>?_⟩
    let X:=Jg.mp z
    rw[a] at X
    show absurd X (Jm (K2 this))
   ·let⟨o,B,c,q1,q2⟩:=N j (by simpa using U)
    show⟨o,B,c,Ji _ (Ji _ q1),q2⟩
   ·show⟨_,0,_,_,Ji _ hS,⟨Z,Z,Z⟩,Z,Z,.inl ⟨Z,by decide⟩,Z,Z,λe he=>by simp at he⟩
   ·let⟨h',g',d',D,q⟩:=s'
    obtain rfl:g'=s.gens:=hm.gens
    obtain rfl:d'=s.drawn:=hm.drawn
    obtain rfl:q=s.os:=hm.os
    show Jc ?_
    change Na _ _ (ret N7.none) _ _ _
    show Jc ⟨Z,h',D,Z,by simpa using Z0,λb o hb e=>hm.heap b o (λz=>?_) (Ji _ (Ji _ e))⟩
    rcases Jk.mp z with z|z
    ·show absurd z (Jm hb)
    ·let X:=Jg.mp z
     rw[a] at X
     show absurd X (Jm (K2 hb))
  ·match T,S with
   | .error e,z=>show z
   | .ok (.ret v),⟨e1,h',W,e2,z1,z2⟩=>
    subst e1 e2
    repeat (any_goals (first|assumption|wp_step))
    show h h' W z1 z2
   | .ok .next,z=>show z.elim
   | .ok .brk,z=>show z.elim
   | .ok .cont,z=>show z.elim
 | .ok .next,hr=>show hr.elim
 | .ok .brk,hr=>show hr.elim
 | .ok .cont,hr=>show hr.elim
theorem xj (w:X.calm=true){k:Nat}(L:aR k X.A):cJ X (.type "set") (λxs H Q=>∃(l:N8) (as:-N8) (cs:-(-Int)),xs=[.ref l]/\aM X.K H l (as.map V.ref)/\bG H as cs/\↑cs<=18/\(cs.map c_).Nodup/\∀p,H p=none->Q (.ref p) (Oc H p (Hf p ↑cs))):=by
 intro O9 s σ H xs R Q I r h
 let⟨l,as,cs,rfl,E,ht,g,v,q⟩:=h
 let⟨u,rfl,B⟩:=dZ r
 cases B
 let⟨m,C,M,P⟩:=I.list E
 obtain rfl:=eP C
 let T:=L.units
 let len:↑as=↑cs:=Nb.length ht
 let d:∀j,j<↑as->pQ s.heap (cs.getD j []) (as.getD j 0):=λj n=>by
  let⟨c,h1,h2⟩:=ht.at (i:=j) (a:=as.getD j 0) (by rw[JP,JI n];rfl)
  rw[JP,h1]
  show AG I.hok h2
 show mq (I.ok.hd w) M.isList (show X.A.units+1+1+1<NF by lia) (λi=>cs.getD i []) d () (λi j hi n z=>?_) λh' D J N=>?_
 ·have:=L8.mp v j i (by simp;lia) (by simp;lia) n
  simp only[JP,JI (show i<↑cs by lia),JI (show j<↑cs by lia),Lv] at z
  rw[List.getElem_map,List.getElem_map] at this
  show this z
 let⟨o,ep,es,t,h1,h2,O,z⟩:=J
 show⟨.ref (~~~s),_,I.laid (a:= ~~~s) (o:=Hf (~~~s) ↑cs) (t':=D) (λb u e=>N b u (Jj e) e) (Jd _) ⟨⟨o,_,ep,_,h1,h2,O,z.fits,z.sz.trans len⟩,⟨o,h1⟩,?_⟩,Z,q _ (I.hok.fresh (Jd _))⟩
 rintro U S ⟨o',es,f,t,F,x⟩ y
 show⟨o',es,f,t,y _ F,x⟩
noncomputable def FR (k:-Int×-Int):Int:=reduceHash (Nc.Tuple.tupleHashOf [c_ k.1,c_ k.2])
abbrev Gc:=(-Int×-Int)×N8
def G9 (x:Gc):NE:=⟨FR x.1,.ref x.2,.bool true⟩
noncomputable def dP (a:N8) (xs:-Gc):HO:=.ext λh=>(a==NR)=false/\∃o es ep,h.get? a>o/\o.ExactDict/\o.data=.dict es ep/\es.toList=xs.map G9
def Dw (X:Cx) (body:-Nn) (t:(V->St->Hp->Prop)->St->Hp->Prop):Prop:=∀(O9:-(N8×Nv)) (s:N_) (σ:St) (H:Hp) (G:V->St->Hp->Prop),aG X O9 σ H s->t G σ H->
 Na (Nd X.prog X.w) X.A (execs body X.env) (λb s'=>∃u v a H',b=.ret u/\aG X O9 a H' s'/\aY v u/\G v a H') (λe s'=>X.xe e s') s
theorem BE(c:PE X e te):Dw X [.Return (some e) pos] (λG σ H=>te σ H λv H'=>G v σ H'):=by
 intro O9 s σ H G I h
 show wpAny_execs_cons (wpAny_Return_some (cz (c O9 s σ H _ I h) λv s1 a=>?_))
 let⟨x,H1,I1,b,d⟩:=a
 show⟨v,x,σ,H1,Z,I1,b,d⟩
theorem Af{st:Nn}{df:-Nn}{g:(V->St->Hp->Prop)->St->Hp->Prop}(h1:PS X st t)(c:Dw X df g):Dw X (st::df) (λG σ H=>t {nx:=λa H1=>g G a H1,rt:=λ_ _=>False} σ H):=by
 intro O9 s σ H G I h
 show wpAny_execs_cons (cz (h1 O9 s σ H _ I h) λf s1 q=>?_)
 cases f with
 |next=>
  let⟨b,H',I',q⟩:=q
  show c O9 s1 b H' G I' q
 |ret u=>
  let⟨_,_,_,_,_,q⟩:=q
  show False.elim q
 |brk=>
  let⟨_,_,_,q⟩:=q
  show False.elim q
 |cont=>
  let⟨_,_,_,q⟩:=q
  show False.elim q
theorem Un.own {fs:-N8}{H':Hp}{h h':Ng}{c:N8}{x:HO}(u:Un fs [] H H' h h')(f:h.get? c=none)(a:H' c=none):Un fs [] H (Oc H' c x) h h' where
 keep:=u.keep
 slot:=u.slot
 free:=λb o e n d=>by rw[aj (λz=>by rw[z,f] at e;cases e)];show u.free b o e n d
 there:=u.there
 tups:=λb xs e=>by let z:=u.tups b xs e;rw[aj (aq z a)];show z
 frzs:=λb o y e=>by let z:=u.frzs b o y e;rw[aj (aq z a)];show z
 tbls:=λb ps e=>by let⟨more,z⟩:=u.tbls b ps e;show⟨more,aj (aq z a)<|z⟩
theorem Dw.nox{st:-Nn}{t:(V->St->Hp->Prop)->St->Hp->Prop}(h:Dw X.nox st t):Dw X st t:=λO9 s σ H G I c=>
 J3 (h O9 s σ H G (I.wish _) c) (λ_ _ a=>by let⟨u,v,b,H',e,I',r,q⟩:=a;show⟨u,v,b,H',e,I'.unwish,r,q⟩) λ_ _ z=>False.elim z
noncomputable def fY (K:Je) (x:Nh):N8×N8:=(Ly K x).getD (0,0)
structure Aq (P:Ni) (w:Nr) (K:Je) (mg:Nh->Option N7) (Oa:Ng) (C:N8) (x:Nh) (k:Nat) (ps:-Nh) (sp:Sp):Prop where
 ex:∃f fd,fq P w K mg Oa kf k f fd ps sp/\Mk K C f/\mg x>.ref C/\c6 K fd ps []/\c6 K fd ps [N7.none]/\c6 K fd ps [N7.none,N7.none]
theorem zH{d:Array (Option N7)}(e:fd.defaults=.ref T)(c:K.lookup T>⟨oc,od,.seq items n,d⟩)
  (m:Nat) (b:↑ps=m+↑ds) (h:∀a:-N7,↑a=m->∃k,bindArgs fd ⟨a,[]⟩=(seqItems? fd.defaults>>=k)/\k (some items)=pure (ps.zip (a++ds))):c6 K fd ps ds:=λs a g f=>by
 let⟨k,h1,h2⟩:=h a (by rw[b,Jo] at f;lia)
 show PySem.W.binds_K g e c Z h1 h2
theorem BF {P:Ni}{k:Nat}{f:N8}{name qual:Nh}{params:Arguments}{body:-Nn}{scope:NT}{Y kV p pm j ct oc:N7}{U od:Option N8}
  {L:Array (Option N7)} {N ps:-Nh} {sp:Sp} {i1 a1:Nat} {y1:Nh} (lk:K.lookup f>⟨oc,od,.func (JK name qual params body scope Y kV p pm U j ct),L⟩) (D:Kd K j qual=true) (S:ei N ps scope)
  (len:∀vs H Q E,sp vs H Q E->↑vs=↑ps)
  (F:N[i1]?>y1) (R:scope.names.lookup y1>.cell) (M:∀n,(cellsFrom (n+1) scope.names []).lookup y1>(n+a1)) (p1:0<a1)
  (l:∀(A:Nu) (i:-O0) (s:N_) (H:Hp) (vs:-V) (Q:VK) (E:XK),aR k (A.deeper (envOfC qual scope (~~~s) f j))->sp vs H Q E->
   ∃g,Dw (lY kf P w K mg Oa N qual scope f j A i s H E) body g/\g (λv σ H'=>∃O,σ[i1]?>some O/\∀C B,H' (~~~s+a1)=none->H (~~~s+a1)=none->
    C.data=.cell (some B)->aY O B->Q v (Oc H' (~~~s+a1) (iq (~~~s+a1) C))) (start N vs) H):
  fq P w K mg Oa kf (k+1) f (JK name qual params body scope Y kV p pm U j ct) ps sp:=by
 show⟨len,λA i s H Z0 us vs Q E hr m hb r z=>?_⟩
 let hl:=len _ _ _ _ z
 let X:K.In s.heap:=m.mod.kin.keeps λb o e=>(m.bs b o e).1
 let d:s.heap.NoLimit:=m.mod.nolimit.keeps λb o e=>(m.bs b o e).1
 let a:∀y∈ps.zip us,scope.names.lookup y.1>.local\/(scope.names.lookup y.1>.cell/\((cellsFrom (~~~s+1) scope.names []).lookup y.1).isSome=true):=λ⟨n,v⟩ hy=>by
  rcases S.par n (Lo hy).1 with q|q
  ·show .inl q
  ·show .inr ⟨q,PySem.W.cellsFrom_some _ _ _ (.inl q)⟩
 show codeAny_call_function hr.depth (X _ _ lk) Z S.co S.gen Z (PySem.W.codeRec_of X D) (hb _ _ _ _ ?_)
 show wpAny_newFunctionEnv_cells S.kind a λenv he s1 x=>?_
 subst he
 show⟨d.keeps x.toInCall.keep,codeAny_func ?_⟩
 let⟨g,hg,hq⟩:=l A i s H vs Q E (hr.deeper _) z
 let I:aG (lY kf P w K mg Oa N qual scope f j A i s H E) [] (start N vs) H s1:=nW S hr.hd m hl r x
 show J3 (hg [] s1 (start N vs) H _ I hq) (λfl s' hs=>?_) λe s' hs=>hs
 let⟨u,v,a4,H',rfl,J,rv,O,h,q⟩:=hs
 let⟨C,B,g1,d1,r1,T,_,_⟩:=J.ownCell (y:=y1) (c:= ~~~s+a1) F h R (M _) (show ~~~s<~~~s+a1 by lia)
 let f1:s.heap.get? (~~~s+a1)=none:=Ku (KU _ _)
 show⟨v,_,J.os,J.bare,J.Oa.own f1 T,Cq J.hok T g1,rv,q C B T (m.hok.none_of f1) d1 r1⟩
section
variable {P:Ni}
theorem zi.okG1 {x qual:Nh}{st:Nn}{f:N8}{r:NN}{N ps:-Nh}{k:Nat}{sp:Sp}{j:N7}{i1 a1:Nat}{y1:Nh}(F:zi K x qual st f r)(o:r.code=j)(S:ei N ps (aK st))(len:∀vs H Q E,sp vs H Q E->↑vs=↑ps)
  (u:N[i1]?>y1) (p:(aK st).names.lookup y1>.cell) (l:∀n,(cellsFrom (n+1) (aK st).names []).lookup y1>(n+a1)) (C:0<a1)
  (i:∀(A:Nu) (e:-O0) (s:N_) (H:Hp) (vs:-V) (Q:VK) (E:XK),aR k (A.deeper (envOfC qual (aK st) (~~~s) f j))->sp vs H Q E->
   ∃g,Dw (lY kf P w K mg Oa N qual (aK st) f j A e s H E).nox (bP st) g/\g (λv σ H'=>∃y,σ[i1]?>some y/\∀B z,H' (~~~s+a1)=none->H (~~~s+a1)=none->
    B.data=.cell (some z)->aY y z->Q v (Oc H' (~~~s+a1) (iq (~~~s+a1) B))) (start N vs) H):fq P w K mg Oa kf (k+1) f r ps sp:=by
 let⟨O,J,kV,d,M,I,a,L,c,rfl,D,b⟩:=F.ex
 cases(show a=j from o)
 show BF D b S len u p l C λA e s H vs Q E hr m=>?_
 let⟨t,h,q⟩:=i A e s H vs Q E hr m
 show⟨t,h.nox,q⟩
end
theorem iQ (d:X.calm=true):cJ X (.builtin "sum") (λxs H Q=>∃(p:N8) (ns:-Int),xs=[.ref p]/\aM X.K H p (ns.map V.int)/\Q (.int ns.sum) H):=by
 intro O9 s σ H xs m Q I r h
 let⟨p,ns,rfl,hp,q⟩:=h
 let⟨u,rfl,k⟩:=dZ r
 cases k
 let⟨b,l,g,o⟩:=I.list hp
 let hi:O7 b ns:=by simpa using jy l
 let⟨zs,e⟩:=hi.allInts.items
 let a:ns=zs.toList.map (·.1):=by rw[<-hi.numsOf,<-nums_intItems,<-e]
 let c:=g.isList
 rw[e] at c
 show sum_intListG (I.ok.hd d) c λh' n j i=>?_
 let f:preSum (numAt zs) zs.size=ns.sum:=by
  rw[preSum_eq,LY (by simp),a]
 rw[f]
 show⟨.int _,H,I.kept i,⟨j,Z⟩,q⟩
def o7 (K:Je) (a:Bool):R2:=λx y H Q=>∃(b p:N8) (as:-N8) (c:-Int) (cs:-(-Int)),x=.ref b/\y=.ref p/\H b>.tup (c.map V.int)/\bh K H p (as.map V.ref)/\bG H as cs/\Q (.bl (if a then !decide (c∈cs) else decide (c∈cs))) H
theorem um(d:aR k X.A):fZ X (Nk .NotIn) (o7 X.K true):=by
 intro O9 s σ H x y v u Q I g f h
 let⟨b,p,as,c,cs,rfl,rfl,hb,hp,ht,q⟩:=h
 cases g
 cases f
 let⟨a,j,e,l⟩:=I.tuple hp
 cases eP j
 show SeqAt.notIn_tupleAt (tD H c) e (λw i=>lG d I hb ht w (by simpa using i)) ⟨.bl _,H,I,Z,?_⟩
 rw[show(as.map N7.ref).toArray.any (tD H c)=(as.map N7.ref).any (tD H c) by simp,lL ht]
 show q
theorem i9 {a:N8}{xs:-V}{S:SV}{F:St->Hp->Prop}(b:Nat->St->Hp->Prop)(h0:b 0 σ H)(c:∀i σ H,i<=↑xs->b i σ H->bh K H a xs)(d:∀i x σ H,xs[i]?>x->b i σ H->S (b (i+1)) x σ H)(e:∀σ H,b ↑xs σ H->F σ H):A9 (G0 K a) σ H S F:=by
 show jF ↑xs b h0 (λi σ H hi p=>⟨⟨xs,xs[i],c i σ H (JX hi) p,by simp[hi]⟩,?_⟩) λσ H p=>⟨⟨xs,c _ σ H (Jd _) p,Jd _⟩,e σ H p⟩
 rintro x _ ⟨rfl,y⟩
 show d i x σ _ (y xs (c i σ _ (JX hi) p)) p
structure jV (P:Ni) (w:Nr) (K:Je) (mg:Nh->Option N7) (Oa:Ng) (C:N8) (x:Nh) (k:Nat) (ps:-Nh) (sp:Sp) (n:Nat):Prop where
 ex:∃f fd,fq P w K mg Oa kf k f fd ps sp/\Mk K C f/\mg x>.ref C/\∀j,j<=n->∃ds,a8 (List.replicate j (.int 0)) ds/\c6 K fd ps ds
section
variable {C:N8} {k n:Nat} {ps:-Nh} {sp:Sp} {x:Nh} {p pos:O2} {e:Nw} {es:-Nw} {t:TA} (G:jV X.prog X.w X.K X.mg X.Oa C x k ps sp n) (hr:aR (k+1) X.A) (hg:Gl X x) (ha:PA X (e::es) t) (hdb:(x==("__debug__" :Nh))=false:=by decide)
  (he:Nf (e::es) X.env=(false,eval e X.env)::Nf es X.env:=by rfl) (hpl:(NG pos (Nf es X.env)).any (·.1)=false:=by rfl)
include G hr hg ha hdb he hpl
theorem AJ (j:Nat)(a:j<=n):PE X (.Call (.Name x p) (e::es) [] pos) (oj C sp (List.replicate j (.int 0)) E0 t):=by
 let⟨f,fd,F,M,hm,hb⟩:=G.ex
 let⟨ds,r,b⟩:=hb j a
 show vw M F hr hg hm b r oF ha hdb he hpl
end
namespace TabB
open SetTable
abbrev HZ:=Nat->Option Int
section
variable {m:Nat} {f:HZ} {h:Int}
noncomputable def start (m:Nat) (h:Int):Probe:={j:=bits h%(m+1),more:=runEnd m (bits h%(m+1)) - bits h%(m+1),i:=bits h%(m+1),perturb:=bits h,dummy:=none}
end
noncomputable def fo (o:Array (Option Nat)) (a:Array Int):HZ:=λj=>(o.getD j none).bind λk=>a[k]?
end TabB
theorem cq {c:Type}:∀{b:-c},↑b=n+1->∃a r,b=a::r/\↑r=n
 |[],h=>by cases h
 |a::r,h=>⟨a,r,Z,Nat.succ.inj h⟩
theorem jT {a:Type}{us:-a}(h:↑us=0):us=[]:=List.eq_nil_of_length_eq_zero h
theorem Ip {d:Type}{us:-d}(h:↑us=2):∃a b,us=[a,b]:=by
 let⟨a,f,rfl,c⟩:=cq h
 let⟨b,e,rfl,h1⟩:=cq c
 cases jT h1
 show⟨a,b,Z⟩
theorem Hj {f:Type}{us:-f}(h:↑us=4):∃b c a d,us=[b,c,a,d]:=by
 let⟨b,l,rfl,e⟩:=cq h
 let⟨c,j,rfl,h1⟩:=cq e
 let⟨a,i,rfl,h2⟩:=cq h1
 let⟨d,k,rfl,g⟩:=cq h2
 cases jT g
 show⟨b,c,a,d,Z⟩
theorem Hb {g:Type}{us:-g}(h:↑us=5):∃b d a e c,us=[b,d,a,e,c]:=by
 let⟨b,o,rfl,f⟩:=cq h
 let⟨d,l,rfl,h1⟩:=cq f
 let⟨a,k,rfl,h2⟩:=cq h1
 let⟨e,n,rfl,i⟩:=cq h2
 let⟨c,m,rfl,j⟩:=cq i
 cases jT j
 show⟨b,d,a,e,c,Z⟩
theorem Ie {i:Type}{us:-i}(h:↑us=6):∃c e b f d a,us=[c,e,b,f,d,a]:=by
 let⟨c,r,rfl,g⟩:=cq h
 let⟨e,n,rfl,h1⟩:=cq g
 let⟨b,m,rfl,h2⟩:=cq h1
 let⟨f,q,rfl,j⟩:=cq h2
 let⟨d,o,rfl,l⟩:=cq j
 let⟨a,p,rfl,k⟩:=cq l
 cases jT k
 show⟨c,e,b,f,d,a,Z⟩
section
variable {P:Ni} {h:Ng} {x q:Nh} {f C:N8} {st:Nn} {k:Nat} {ps N:-Nh} {sp:Sp} {fd:NN}
noncomputable def Al (p:-N7->Prop):Nat->Prop
 |0=>p []
 |n+1=>∀a,Al (λl=>p (a::l)) n
theorem al {p:-N7->Prop}(h:↑us=n)(g:Al p n):p us:=by
 subst h
 induction us generalizing p with
 |nil=>show g
 |cons a l ih=>show ih (p:=λl=>p (a::l)) (g a)
def Bd (x q:Nh) (st:Nn) (ps:-Nh):Prop:=∀(kV b f:N7) (e:Option N8) (a d:N7),Al (λc=>bindArgs (JK x q (cn st) (bP st) (aK st) .none kV b f e a d) ⟨c,[]⟩=pure (ps.zip c)) ↑ps
def mK (P:Ni) (w:Nr) (K:Je) (a:Nh->Option N7) (Oa:Ng) (k:Nat) (x q:Nh) (st:Nn) (ps:-Nh) (sp:Sp):Prop:=Bd x q st ps/\∀{f fd},zi K x q st f fd->fq P w K a Oa kf k f fd ps sp
abbrev jo (P:Ni) (w:Nr) (K:Je) (mg:Nh->Option N7) (Oa:Ng) (k:Nat) (x:Nh) (st:Nn) (ps:-Nh) (sp:Sp):Prop:=mK P w K mg Oa k x x st ps sp
theorem rd (N:-Nh)(c:N.Nodup->∀{f:N8} {b:N7} {A:Nu} {a:-O0} {s:N_} (H:Hp) (vs:-V) (Q:VK) (E:XK),aR k (A.deeper (envOfC q (aK st) (~~~s) f b))->sp vs H Q E->
   ∃t,sM (lY kf P w K mg Oa N q (aK st) f b A a s H E).nox (bP st) t/\t {nx:=λ_ H'=>Q .non H',rt:=Q} (start N vs) H)
  (S:ei N ps (aK st):=by constructor<;>decide+kernel) (len:∀vs H Q E,sp vs H Q E->↑vs=↑ps:=by intro _ _ _ _ h;cases h;subst_vars;rfl)
  (d:Bd x q st ps:=by(repeat intro _);show Z):mK P w K mg Oa (k+1) x q st ps sp:=⟨d,λF=>F.ok S len λ_ _ _ _=>c S.nd⟩
def uz (K:Je) (f:N8) (x q:Nh) (st:Nn):Prop:=∃(h:N7) (b:Option N8) (kV i e:N7) (d:Option N8) (a c:N7) (g:Array (Option N7)),K.lookup f>⟨h,b,.func (JK x q (cn st) (bP st) (aK st) .none kV i e d a c),g⟩/\Kd K a q=true/\J5 K (.ref f)=true
theorem fnat{kV:N7}{a:Array (Option N7)}(l:K.lookup f>⟨oc,od,.func (JK x q (cn st) (bP st) (aK st) .none kV dc pm an cd ct),a⟩)(c:Kd K cd q=true)(k:J5 K (.ref f)=true):uz K f x q st:=⟨_,_,_,_,_,_,_,_,_,l,c,k⟩
def gM (K:Je) (x:Nh) (st:Nn):Prop:=∃f,PySem.W.nsIn K Nj x>some (.ref f)/\uz K f x x st
def mr (K:Je) (C:N8) (x q:Nh) (st:Nn):Prop:=∃f,JS K (.ref C) x>some (.ref f)/\KL K (.ref f)=true/\uz K f x q st
theorem fng (a:PySem.W.nsIn K Nj x>some (.ref f))(l:uz K f x x st):gM K x st:=⟨f,a,l⟩
theorem meg (a:JS K (.ref C) x>some (.ref f))(i:KL K (.ref f)=true)(l:uz K f x q st):mr K C x q st:=⟨f,a,i,l⟩
structure ClG (K:Je) (C:N8) (x:Nh):Prop where
 n:PySem.W.nsIn K Nj x>some (.ref C)
 pg:Lm K C Nh.empty=true
 hd:LJ K C=true
 po:PySem.W.plainOver K C=true
 sa:JS K (.ref C) "__setattr__" >some (.builtin "object.__setattr__")
 mi:PySem.W.makesIn K C=true
 kc:J5 K (.ref C)=true
theorem ClG.cl (g:ClG K C x):nQ K C:=⟨g.pg,g.hd,g.po,g.sa⟩
theorem uz.go (l:uz K f x q st)(r:mK P w K mg Oa k x q st ps sp):∃fd,fq P w K mg Oa kf k f fd ps sp/\J5 K (.ref f)=true/\c6 K fd ps []:=by
 let⟨_,_,_,_,_,_,_,_,_,l,c,kp⟩:=l
 let F:=qx (st:=st) l c kp
 show⟨_,r.2 F,kp,F.binds λa b c d e g i h=>al h (r.1 a b c d e g)⟩
theorem gM.go (X:K.In h)(G:h.Ns Nj mg)(l:gM K x st)(r:mK P w K mg Oa k x x st ps sp):aT P w K mg Oa x k ps sp:=by
 let⟨f,a,l⟩:=l
 let⟨fd,o,kp,b⟩:=l.go r
 show⟨f,fd,o,K_ X G a,kp,b⟩
theorem mr.go (l:mr K C x q st)(r:mK P w K mg Oa k x q st ps sp):bU P w K mg Oa C x k ps sp:=by
 let⟨f,a,i,l⟩:=l
 let⟨fd,o,kp,b⟩:=l.go r
 show⟨f,fd,o,⟨a,i,kp⟩,b⟩
theorem mr.init (X:K.In h)(G:h.Ns Nj mg){n:Nh}(c:ClG K C n)(l:mr K C "__init__" q st)(r:mK P w K mg Oa k "__init__" q st ps sp):h8 P w K mg Oa C n k ps sp:=by
 let⟨f,a,i,l⟩:=l
 let⟨fd,o,kp,b⟩:=l.go r
 show⟨f,fd,o,⟨c.mi,a,i,c.kc⟩,K_ X G c.n,b⟩
theorem gM.law (X:K.In h)(G:h.Ns Nj mg)(l:gM K x st)(hf:mg x>.ref f):∃fd,zi K x x st f fd/\∃kV g d b e ct,fd=JK x x (cn st) (bP st) (aK st) .none kV g d b e ct:=by
 let⟨f,a,_,_,_,_,_,_,_,_,_,l,c,k⟩:=l
 cases hf.symm.trans (K_ X G a)
 show⟨_,qx l c k,_,_,_,_,_,_,Z⟩
end
section
variable {x:Nh} {pos pos' p:O2} {e a b tg iter elt:Nw} {es ifs:-Nw} {te ta tb:TE} {t:TA} {r:R2} {k j:Nat} {ps:-Nh} {sp:Sp} {id:String} {rl:-V->Hp->VK->Prop} {wi:TI} {g:TG} {ts:TS} {tt:TT} {body:-Nn} {scope:NT}
def ns:Nw->Bool
 | .Starred .. =>false
 |_=>true
theorem tP(h:ns e=true):Nf (e::es) env=(false,eval e env)::Nf es env:=by
 cases e<;>first|rfl|cases h
theorem DQ(h:es.all ns=true):(NG pos (Nf es env)).any (·.1)=false:=by
 induction es with
 |nil=>rfl
 |cons e l ih=>
  rw[List.all_cons,Jv] at h
  rw[tP h.1]
  show ih h.2
theorem b2(h:(m&&n)=true):m=true/\n=true:=by simpa using h
noncomputable def cb (X:Cx) (x:Nh) (a:-Nw):Bool:=decide (X.env.kindOf x>.globalImplicit)&&(!(x==("__debug__" :Nh))&&a.all ns)
theorem zY (h:cb X x es=true):Gl X x/\(x==("__debug__" :Nh))=false/\es.all ns=true:=by simpa[cb,Gl] using h
noncomputable def vb (X:Cx) (i:Nat) (x:Nh):Bool:=decide (X.N[i]?>x)&&(!(x==("__debug__" :Nh))&&(!(x==("__classdict__" :Nh))&&(decide (X.env.scope.names.lookup x>.local)||(decide (X.env.scope.names.lookup x>.cell)||decide (X.env.scope.names.lookup x>.free)))))
theorem ao (i:Nat)(h:vb X i x=true:=by show Eq.refl true):PE X (.Name x pos) (cR i):=by
 simp only[vb,Jv,Bool.or_eq_true,decide_eq_true_eq,Bool.not_eq_true'] at h
 show z_ h.1 h.2.2.2 h.2.1 h.2.2.1
noncomputable def sb (X:Cx) (i:Nat) (x:Nh):Bool:=decide (X.N[i]?>x)&&((decide (X.env.scope.names.lookup x>.local)||decide (X.env.scope.names.lookup x>.cell))&&(X.fn x||decide (X.env.scope.names.lookup x>.local)))
theorem zX (h:sb X i x=true):X.N[i]?>x/\Fb X.env.scope x/\(X.fn x=true\/X.env.scope.names.lookup x>.local):=by
 simp only[sb,Jv,Bool.or_eq_true,decide_eq_true_eq] at h
 show h
theorem bp (i:Nat)(a:X.N.Nodup)(h:sb X i x=true:=by show Eq.refl true):PG X (.Name x pos) (eM i):=let ⟨hi,hx,hf⟩:=zX h;BU a hi hx hf
theorem eU (i:Nat)(h:(decide X.N.Nodup&&sb X i x)=true:=by show Eq.refl true):PG X (.Name x pos) (eM i):=let ⟨n,h⟩:=b2 h;bp i (N4 n) h
theorem bo (i:Nat)(b:X.N.Nodup)(c:PE X e te)(h:sb X i x=true:=by show Eq.refl true)(a:swapsWith e (some (.Name x pos')) pos.line X.env=pure false:=by rfl):PS X (.Assign [.Name x pos'] e pos) (lu te (eM i)):=let ⟨hi,hx,hf⟩:=zX h;EZ b hi hx c a hf
theorem aP (f:EJ X r)(d:PE X a ta)(c:PE X b tb)(e:vx b:=by show λ_ _=>rfl):PE X (.Subscript a b pos) (gb r ta tb):=FB f d c e
theorem bq (C:aT X.prog X.w X.K X.mg X.Oa x k ps sp)(c:aR j X.A)(a:PA X (e::es) t)(b:k<=j:=by first|decide|show Jd _)(h:cb X x (e::es)=true:=by show Eq.refl true):PE X (.Call (.Name x p) (e::es) [] pos) (jP sp [] E0 t):=let ⟨g,d,s⟩:=zY h;let ⟨u,v⟩:=b2 s;yO C (c.mono b) g a d (tP u) (DQ v)
theorem bz (a:cJ X (.builtin id) rl)(c:X.mg x=none)(b:PA X (e::es) t)(hv:NC x>.builtin id:=by decide+kernel)(h:(!(x==("__name__" :Nh))&&cb X x (e::es))=true:=by show Eq.refl true):PE X (.Call (.Name x p) (e::es) [] pos) (BI rl t):=let ⟨n,h⟩:=b2 h;let ⟨g,d,s⟩:=zY h;let ⟨u,v⟩:=b2 s;za a g c hv b (by simpa using n) d (tP u) (DQ v)
theorem iw(a:cJ X (.type T) rl)(c:X.mg x=none)(b:PA X (e::es) t)(hv:NC x>.type T:=by decide+kernel)(h:(!(x==("__name__" :Nh))&&cb X x (e::es))=true:=by show Eq.refl true):PE X (.Call (.Name x p) (e::es) [] pos) (BI rl t):=let ⟨n,h⟩:=b2 h;let ⟨g,d,s⟩:=zY h;let ⟨u,v⟩:=b2 s;oU a g c hv b (by simpa using n) d (tP u) (DQ v)
theorem bS(d:fZ X (Nk op) r)(f:PE X a ta)(c:PE X b tb)(e:behindInMarks op b=false:=by show zB _):PT X (.Compare a [op] [b] pos) (k9 (gb r ta tb)):=e7 d f c e
theorem je(d:fZ X (Nk op) r)(f:PE X a ta)(c:PE X b tb)(e:behindInMarks op b=false:=by show zB _):PE X (.Compare a [op] [b] pos) (gb r ta tb):=lE d f c e
theorem uN (b:X.mg "range" =none)(d:PA X [a] t)(c:Gl X "range" :=by rfl)(e:Nf [a] X.env=[(false,eval a X.env)]:=by rfl):PI X tg (.Call (.Name "range" p) [a] [] pos) (vT t):=yh c b d e
theorem bH{st:Nn}(a:PT X c tt)(h:PS X st ts):PS X (.If c [st] [] pos) (mG tt ts qJ):=sP a (a9 h) pd
theorem bc {s u:Nn}{a:TS}(h:PS X s ts)(h':PS X u a):sM X [s,u] (gr ts a):=ak h (a9 h')
theorem aE (b:PE X a ta)(h:ns a=true:=by show Eq.refl true):PA X [a] (bX ta fE):=av b cO (tP h)
theorem aC (d:PE X a ta)(c:PE X b tb)(h:(ns a&&ns b)=true:=by show Eq.refl true):PA X [a,b] (bX ta (bX tb fE)):=let ⟨h,i⟩:=b2 h;av d (av c cO (tP i)) (tP h)
theorem dU (f:PI X tg iter wi)(c:PG X tg g)(a:sM X body ts)(e:NO (Nd X.prog X.w) X.A X.env X.xe:=by show NO.never)(b:X.calm=true:=by rfl)(d:∀x,NK iter X.env x=pure x:=by intro _;rfl):PS X (.For tg iter body [] pos) (nM wi g ts):=EN e b f c a d
noncomputable def kb (X:Cx) (scope:NT) (ys:-Nh) (a:-Nat):Bool:=X.calm&&(decide (scope.kind=.function)&&((scope.names.all λy=>y.2 !=.cell)&&((scope.names.all λy=>y.2 !=.local||scope.names.lookup y.1==some .local)&&((scope.names.all λy=>y.2 !=.free||X.env.kindOf y.1==some .cell)&&((ys.all λy=>scope.names.lookup y==some .free)&&decide (a.map (λj=>X.N[j]?)=ys.map some))))))
theorem Dx (ls:-Nh){ys:-Nh}{ix:-Nat}(h:kb X scope ys ix=true):X.calm=true/\fA X scope ls ys ix:=by
 let⟨a,h⟩:=b2 h
 let⟨b,h⟩:=b2 h
 let⟨c,h⟩:=b2 h
 let⟨d,h⟩:=b2 h
 let⟨e,h⟩:=b2 h
 let⟨f,h⟩:=b2 h
 show⟨a,N4 b,c,d,e,f,N4 h⟩
theorem il (ls ys:-Nh)(a:-Nat)(d:PI X tg iter wi)(b:∀{cl C s H fp},PG (cL X (ls++ys) scope cl C s H fp) tg g)(ht:∀{cl C s H fp},PF (cL X (ls++ys) scope cl C s H fp) ifs tt)(e:∀{cl C s H fp},PE (cL X (ls++ys) scope cl C s H fp) elt te)(k:kb X scope ys a=true:=by show Eq.refl true)(f:∀x,NK iter X.env x=pure x:=by intro _;rfl):PE X (.ListComp elt [⟨tg,iter,ifs,0⟩] scope pos) (HS wi ↑ls a g tt te):=let ⟨c,o⟩:=Dx ls k;FQ c o d (λ_ _ _ _ _=>b) (λ_ _ _ _ _=>ht) (λ_ _ _ _ _=>e) f
theorem Bf (i:Nat)(ls ys:-Nh)(e:-Nat)(j:X.N.Nodup)(l:PI X tg iter wi)(f:∀{cl C s H fp},PG (cL X (ls++ys) scope cl C s H fp) tg g)(ht:∀{cl C s H fp},PF (cL X (ls++ys) scope cl C s H fp) ifs tt)(m:∀{cl C s H fp},PE (cL X (ls++ys) scope cl C s H fp) elt te)(k:kb X scope ys e=true:=by show Eq.refl true)(h:sb X i x=true:=by show Eq.refl true)(q:∀x,NK iter X.env x=pure x:=by intro _;rfl)(n:swapsWith (.ListComp elt [⟨tg,iter,ifs,0⟩] scope pos) (some (.Name x p)) pos'.line X.env=pure true:=by rfl):PS X (.Assign [.Name x p] (.ListComp elt [⟨tg,iter,ifs,0⟩] scope pos) pos') (y8 wi ↑ls e g tt te i):=let ⟨a,b,c⟩:=zX h;let ⟨d,o⟩:=Dx ls k;yo d j a b o l (λ_ _ _ _ _=>f) (λ_ _ _ _ _=>ht) (λ_ _ _ _ _=>m) q n c
end
section
open PySem.SeqAt PySem.MeetsSeq PySem.MeetsSeq2 PySem.MeetsSeq3 PySem.SeqRoads2
open PySem.AutoSeq1 (wpAny_loadPart')
end
section
variable {s1:N_} {H1:Hp} {z TI TO i1 i2 l1 l2 S:N8} {its1 its2:-N7} {xs ys:-V} {R:Result->N_->Prop}
end
section
variable {s1:N_} {H1:Hp} {z TI TO i1 i2 l1 l2 S:N8} {its1 its2:-N7} {xs ys:-V} {R:Result->N_->Prop}
end
theorem tS(a:X.prog=P)(b:X.w=w):cJ X (.type "dict") (DE P w):=by subst a b;show gE
theorem gp (a:X.K=K){k:Nat}(b:aR k X.A):fZ X (Nk .NotIn) (o7 K true):=by subst a;show um b
section
variable {K:Type} [DecidableEq K] {knd:HeapKind prog w K}
theorem BD{f e:-(K×N8×N7)}(l:knd.room A.in1)(i:A.units<NF)(k:(a==NR)=false)(j:(b==NR)=false)
  (d:s.heap.DictOfH knd a f) (g:s.heap.DictOfH knd b e) (c:↑f=↑e->ie A.in1 s e f r) (h:Q (.bool (!(↑f==↑e&&r))) s):
  Na (Nd prog w) A (Nk .NotEq (.ref a) (.ref b)) Q E s:=by
 show wpAny_richCompare_same_room (op:=.NotEq) d.typeIs g.typeIs PySem.F.slot_dict_ne (JN PySem.F.slot_dict_ne d.typeIs PySem.F.entry_dict_ne ?_ (PySem.F.args_dict_ne_2 _ _)) i
 change Na _ _ (Nc.Dict.dictSlotArgs "__ne__" ⟨[.ref a,.ref b],[]⟩>>=_) _ _ s
 show Ja ?_
 unfold Nc.Dict.dictSlotArgs
 show Ja (KB d.typeIs ?_)
 change Na _ _ (pure (N7.ref a,N7.ref b)) _ _ s
 show Jc (Ja (KC (T:= "dict") g.typeIs PySem.F.sub_dict_dict ?_))
 simp only[Bool.not_true,Kq,if_false]
 show Ja (Jc (Ja (Jc (Ja (nV l k j d g c ?_)))))
 show Jc ⟨_,Z,(λx=>by cases x),?_⟩
 first|show h|simpa using h
end
section
theorem CQ(a:Gl X x)(b:X.mg x=none)(hv:NC x>u)(r:aY v u)(d:x≠ "__name__" :=by decide)(c:(x==("__debug__" :Nh))=false:=by decide):PE X (.Name x pos) (tC v):=
 λ_ _ _ H _ I h=>iJ I a b hv ⟨v,H,I,r,h⟩ d c
variable {a b:Nw} {ta tb:TE} {pos:O2}
variable {tA tB':TT} {df:-Nw}
end
section
variable {st:Nn} {df:-Nn} {t u:TS} {e:Nw} {te:TE} {pos:O2}
def FF:TS:=λD _ H=>D.rt .non H
theorem CF:PS X (.Return none pos) FF:=λ_ _ σ H _ I h=>wpAny_Return_none ⟨.non,σ,H,I,Z,h⟩
end
section
variable {Q:N7->N_->Prop} {c:N7} {b:Bool}
inductive ly (K:Je) (H:Hp):V->N7->Prop where
 |non:ly K H .non (.type "NoneType")
 |bl (x:Bool):ly K H (.bl x) (.type "bool")
 |int (i:Int):ly K H (.int i) (.type "int")
 |str (x:Nh):ly K H (.str x) (.type "str")
 |flt (x:UInt64):ly K H (.flt x) (.type "float")
 |lst {a:N8} {xs:-V} (e:H a>.lst xs):ly K H (.ref a) (.type "list")
 |frz {a:N8} {o:Nv} {xs:-V} (e:H a>.frz o (.lst xs)):ly K H (.ref a) (.type "list")
 |tup {a:N8} {xs:-V} (e:H a>.tup xs):ly K H (.ref a) (.type "tuple")
 |dT {a:N8} {kvs:-(-dh×V)} (e:H a>.dT kvs):ly K H (.ref a) (.type "dict")
 |ins {a C dx:N8} {fs:-(Nh×V)} (e:H a>.ins C dx fs) (cl:nQ K C) (ha:JS K (.ref C) "__class__" >some (.builtin "object.__class__"))
   (hn:LS K (.builtin "object.__class__") "__get__" >some (.builtin "getset_descriptor.__get__")) (htk:PySem.W.takesIn K (.builtin "object.__class__")>true)
   (hm:PySem.W.mroIn K C (.type "object")>true):ly K H (.ref a) (.ref C)
theorem om(I:aG X O9 σ H s)(d:aY x u)(ty:ly X.K H x t)(e:Lh X.K t c>b)(h:∀f,Q (.bool b) {s with toks:=f}):
  Na (Nd X.prog X.w) A (call (.builtin "isinstance") [u,c]) Q E s:=by
 cases ty with
 |non=>cases(show u=N7.none from d);show Kr PySem.W.kitx_none I.kIn True.intro e (λz=>nomatch z) h
 |bl y=>cases(show u=N7.bool y from d);show Kr PySem.W.kitx_bool I.kIn True.intro e (λz=>nomatch z) h
 |int i=>let⟨t,q⟩:=(show∃t,u=N7.int i t from d);cases q;show Kr PySem.W.kitx_int I.kIn True.intro e (λz=>nomatch z) h
 |str y=>let⟨t,q⟩:=(show∃t,u=N7.str y t from d);cases q;show Kr PySem.W.kitx_str I.kIn True.intro e (λz=>nomatch z) h
 |flt y=>let⟨t,q⟩:=(show∃t,u=N7.float y t from d);cases q;show Kr PySem.W.kitx_float I.kIn True.intro e (λz=>nomatch z) h
 | @lst a xs ea=>
  cases(show u=N7.ref a from d)
  let⟨_,_,n,_,h1⟩:=(show bN X.prog X.w H s.heap a (.lst xs) from I.hok a _ ea)
  show Kr PySem.W.kitx_list I.kIn ⟨_,h1,Z⟩ e (λz=>nomatch z) h
 | @frz a ob xs ea=>
  cases(show u=N7.ref a from d)
  let⟨_,_,_,n,_,h1⟩:=(show bN X.prog X.w H s.heap a (.frz ob (.lst xs)) from I.hok a _ ea)
  show Kr PySem.W.kitx_list I.kIn ⟨_,h1,Z⟩ e (λz=>nomatch z) h
 | @tup a xs ea=>
  cases(show u=N7.ref a from d)
  let⟨_,_,_,p⟩:=(show bN X.prog X.w H s.heap a (.tup xs) from I.hok a _ ea)
  let⟨o,h1,h2,_⟩:=p
  show Kr PySem.W.kitx_tuple I.kIn ⟨o,h1,h2⟩ e (λz=>nomatch z) h
 | @dT a kvs ea=>
  cases(show u=N7.ref a from d)
  let⟨_,_,xs,_,o,es,ep,h1,h2,_⟩:=(show bN X.prog X.w H s.heap a (.dT kvs) from I.hok a _ ea)
  show Kr PySem.W.kitx_dict I.kIn ⟨o,h1,h2.1⟩ e (λz=>nomatch z) h
 | @ins a C dx fs ea cl ha hn htk hm=>
  cases(show u=N7.ref a from d)
  let⟨mA,O,_⟩:=lR I.hok ea
  let⟨g,J,_⟩:=O.look
  show Kr (PySem.W.kitx_own (cl.get _) cl.hd ha hn htk hm) I.kIn J e (λz=>nomatch z) h
end
end L2
namespace HT
open PySem PyProof.Rows
theorem cat_tup(ht:IsTup s.heap t vs.toArray)(p:IsTup s.heap b ws.toArray)(hv:vs≠[])
  (h1:ws=[]->Q (.ref t) s) (q:ws≠[]->Q (.ref (~~~s)) {s with heap:=s.heap.push {cls:=.type "tuple",data:=.seq (vs++ws).toArray}})
  (hsz:↑vs+↑ws<=N9):Na (Nd prog w) A (binaryOp .Add (.ref t) (.ref b)) Q E s:=by
 let⟨⟨cls,dd,data,l⟩,j,k,n,o⟩:=id ht
 let⟨⟨i,c,h,d⟩,a,g,m,f⟩:=id p
 simp only at k o g f
 subst k o g f
 let e:vs.toArray++ws.toArray=(vs++ws).toArray:=by simp
 by_cases hw:ws=[]
 ·show concat_meets ⟨_,j,Z⟩ ⟨_,a,Z⟩ noFill_tuple_add seq_tuple_add PySem.F.slot_tuple_add PySem.F.entry_tuple_add (PySem.F.args_tuple_add_2 _ _)
   (tuple_addW1 t b vs.toArray ws.toArray n m dd c l d (by simpa using hv) (by simp[hw])) ⟨j,a,h1 hw⟩
 ·show concat_meets ⟨_,j,Z⟩ ⟨_,a,Z⟩ noFill_tuple_add seq_tuple_add PySem.F.slot_tuple_add PySem.F.entry_tuple_add (PySem.F.args_tuple_add_2 _ _)
   (tuple_addW2 t b vs.toArray ws.toArray n m dd c l d (by simpa using hv) (by simpa using hw) (JD<|JD<|hsz)) ⟨j,a,?_⟩
  rw[e]
  show q hw
theorem EO (n d:Nat)(a:d<=n)(o:Option Int):sIx n d o<=n:=by
 cases o with
 |none=>show a
 |some v=>
  change(if v<0 then (v+(n:Int)).toNat else min v.toNat n)<=n
  by_cases hv:v<0
  ·rw[N1 hv];lia
  ·rw[N0 hv];show Nat.min_le_right _ _
theorem vW (v:Int)(n d:Nat):(if v<0 then max (v+(n:Int)) 0 else min v (n:Int))=((sIx n d (some v):Nat):Int):=by
 change(if v<0 then max (v+(n:Int)) 0 else min v (n:Int))=(((if v<0 then (v+(n:Int)).toNat else min v.toNat n):Nat):Int)
 by_cases hv:v<0
 ·simp only[N1 hv];lia
 ·simp only[N0 hv];lia
theorem uu (a b:Option Int)(n:Nat):Nc.Slice.sliceAdjust a b 1 (n:Int)=(((sIx n 0 a:Nat):Int),((sIx n n b:Nat):Int)):=by
 let h1:¬((1:Int)<0):=by lia
 unfold Nc.Slice.sliceAdjust
 simp only[h1,if_false]
 show Prod.ext ?_ ?_
 ·cases a with
  |none=>rfl
  |some v=>show vW v n 0
 ·cases b with
  |none=>rfl
  |some v=>show vW v n n
theorem uU (i j:Nat):Nc.Slice.slicePlaces (i:Int) (j:Int) 1=j - i:=by
 unfold Nc.Slice.slicePlaces
 let h1:(0:Int)<1:=by lia
 simp only[h1,if_true,Int.ediv_one]
 split<;>lia
theorem mH{Q:Option Int->N_->Prop}(p:IsPart v o)(h:Q o s):Na (Nd prog w) A (Nc.Slice.slicePartIndex v) Q E s:=by
 cases p with
 |none=>show slicePart_none h
 |int i t=>show slicePart_int h
theorem ku {i:N8}{f g:N7}{d e:Option Int}{n:Nat}{Q:Int×Int×Nat->N_->Prop}(k:s.heap.IsSliceOf i f g .none)(pl:IsPart f d)(j:IsPart g e)
  (h:Q (((sIx n 0 d:Nat):Int),1,sIx n n e - sIx n 0 d) s):Na (Nd prog w) A (Nc.Slice.sliceApplied (.ref i) (pure (n:Int))) Q E s:=by
 let⟨os,a,c,b⟩:=id k
 unfold Nc.Slice.sliceApplied Nc.Slice.sliceFields
 show Ja (Ja (J6 a b (x:=f) Z (Ja (J6 a b (x:=g) Z (Ja (J6 a b (x:=.none) Z (Jc ?_)))))))
 show Ja (slicePart_none ?_)
 change Na _ _ (if ((1:Int)==0)=true then _ else _) _ _ s
 rw[N0 (by decide)]
 show Ja (mH pl (Ja (mH j (Ja (Jc ?_)))))
 change Na _ _ (match Nc.Slice.sliceAdjust d e 1 (n:Int) with|(d,e)=>pure (d,(1:Int),Nc.Slice.slicePlaces d e 1)) _ _ s
 rw[uu d e n]
 change Na _ _ (pure (((sIx n 0 d:Nat):Int),(1:Int),Nc.Slice.slicePlaces ((sIx n 0 d:Nat):Int) ((sIx n n e:Nat):Int) 1)) _ _ s
 rw[uU]
 show Jc h
theorem AQ (xs:Array N7)(i k:Nat):((List.range k).filterMap λ(m:Nat)=>xs[((i:Int)+(m:Int)*1).toNat]?).toArray=((xs.toList.drop i).take k).toArray:=by
 let e:(λ(m:Nat)=>xs[((i:Int)+(m:Int)*1).toNat]?)=λm=>xs[i+m]?:=by
  funext m
  have:((i:Int)+(m:Int)*1).toNat=i+m:=by lia
  rw[this]
 rw[e]
 have:=pick_run xs i k
 rw[List.filterMap_map] at this
 let a:((λx=>xs[x]?)∘λx=>i+x)=λm=>xs[i+m]?:=rfl
 rw[a] at this
 rw[this]
theorem getItem_tuple_cut {t j:N8}{items:Array N7}{l k:N7}{g i:Option Int}{Q:N7->N_->Prop}(ht:IsTup s.heap t items)(n:s.heap.IsSliceOf j l k .none)(pl:IsPart l g)(p:IsPart k i)
  (o:¬(sIx items.size 0 g=0/\sIx items.size items.size i=items.size))
  (h:Q (.ref (~~~s)) {s with heap:=s.heap.push {cls:=.type "tuple",data:=.seq ((items.toList.drop (sIx items.size 0 g)).take (sIx items.size items.size i - sIx items.size 0 g)).toArray}})
  (hsz:items.size<=N9):Na (Nd prog w) A (getItem (.ref t) (.ref j)) Q E s:=by
 let a:sizeOk (.seq ((items.toList.drop (sIx items.size 0 g)).take (sIx items.size items.size i - sIx items.size 0 g)).toArray):=by
  change((items.toList.drop (sIx items.size 0 g)).take (sIx items.size items.size i - sIx items.size 0 g)).toArray.size<=N9
  rw[JD,JT,KA,J4]
  lia
 let r:sIx items.size items.size i<=items.size:=EO _ _ (Jd _) i
 let⟨os,c,d,f⟩:=id n
 let e:s.TypeIs (.ref j) "slice" :=⟨os,c,d⟩
 unfold getItem
 try with_reducible show Jy ?_
 first|show Ja (Jc ?_)|skip
 show Ja (wpAny_sequenceKey ht.typeIs (by decide) ?_)
 show Ja (KF (name:=Nh.ofString "__getitem__") ht.typeIs PyProof.Rows.slot_tuple_getitem
  (JN PyProof.Rows.slot_tuple_getitem ht.typeIs entry_tuple_getitem ?_ (args_tuple_getitem _ _)))
 change Na _ _ (Nc.Tuple.tupleItemsOf (.ref t)>>=_) _ _ s
 show Ja (tupleItemsOf_ ht ?_)
 show Ja (K7 e ?_)
 rw[N1 (by decide)]
 show Ja (ku n pl p ?_)
 let b:¬((((sIx items.size 0 g:Nat):Int)==0&&(1:Int)==1&&(sIx items.size items.size i - sIx items.size 0 g)==items.size)=true):=by
  intro q
  rw[Jv,Jv] at q
  let u:((sIx items.size 0 g:Nat):Int)=0:=eq_of_beq q.1.1
  let v:sIx items.size items.size i - sIx items.size 0 g=items.size:=eq_of_beq q.2
  show o ⟨(),()⟩
 change Na _ _ (if (((sIx items.size 0 g:Nat):Int)==0&&(1:Int)==1&&(sIx items.size items.size i - sIx items.size 0 g)==items.size)=true then _ else _) _ _ s
 rw[N0 b,AQ]
 first
  |show Ja (m:=Nc.Tuple.tupleExact _) (Kj (Jc ⟨_,rfl,Jc h⟩) a)
  |show Ja (m:=Nc.Tuple.tupleExact _) (Kj (Ja (Jc (Jc ⟨_,rfl,Jc h⟩))) a)
  |show Ja (Ja (m:=Nc.Tuple.tupleExact _) (Kj (Jc (Jc ⟨_,rfl,Jc h⟩)) a))
  |show Ja (Ja (m:=Nc.Tuple.tupleExact _) (Kj (Jc ⟨_,rfl,Jc h⟩) a))
end HT
namespace L2
open PySem PySem.Spec PyProof.Rows
variable {X:Cx} {O9:-(N8×Nv)} {σ:St} {H:Hp} {s:N_} {prog:Ni} {w:Nr} {A:Nu} {E:N7->N_->Prop} {K:Je} {mg:Nh->Option N7} {Oa:Ng}
section
variable {e:Nw} {te:TE} {lo hi:Option Nw} {tl th:TO} {pos p2:O2}
noncomputable def Gn (K:Je):V->Option Int->Option Int->Hp->VK->Prop:=λx lo hi H Q=>∃a xs,x=.ref a/\bh K H a xs/\
 ¬(HT.sIx ↑xs 0 lo=0/\HT.sIx ↑xs ↑xs hi=↑xs)/\∀p,H p=none->Q (.ref p) (Oc H p (.tup (gh xs lo hi)))
theorem kB:GN X (Gn X.K):=by
 intro O9 s σ H x v p n lo hi m Q I g hs f j h
 let⟨a,xs,rfl,k,i,q⟩:=h
 cases g
 let⟨d,r,ht,e⟩:=I.tuple k
 let c:d.toArray.size=↑xs:=JD<|r.length.symm
 show⟨"tuple",_,PyProof.Rows.slot_tuple_getitem.lookup,ht.typeIs,?_⟩
 show HT.getItem_tuple_cut ht hs f j (c<|i) ?_ (c<|e)
 rw[c]
 show⟨.ref (~~~s),_,I.laid (t':=s.toks) (o:=.tup (gh xs lo hi)) (λb l q=>Ji _ q) (Jd _) ?_,Z,q _ (I.hok.fresh (Jd _))⟩
 show⟨Jt (kX xs lo hi) e,_,(r.drop (HT.sIx ↑xs 0 lo)).take (HT.sIx ↑xs ↑xs hi - HT.sIx ↑xs 0 lo),IsTup.new _ _⟩
def v7 (K:Je):R2:=λx y H Q=>∃a b xs ys,x=.ref a/\y=.ref b/\bh K H a xs/\bh K H b ys/\xs≠[]/\↑xs+↑ys<=N9/\
 (ys=[]->Q (.ref a) H)/\(ys≠[]->∀p,H p=none->Q (.ref p) (Oc H p (.tup (xs++ys))))
theorem a8.nil_iff(r:a8 xs us):us=[]↔xs=[]:=by
 cases r with
 |nil=>simp
 |cons _ _=>simp
theorem fc:fZ X (binaryOp .Add) (v7 X.K):=by
 intro O9 s σ H x y v u Q I l k h
 let⟨a,b,xs,ys,rfl,rfl,ha,hb,n,g,i,m⟩:=h
 cases l
 cases k
 let⟨d,f,j,_⟩:=I.tuple ha
 let⟨c,e,p2,_⟩:=I.tuple hb
 show HT.cat_tup j p2 (λz=>n (f.nil_iff.mp z)) (λz=>⟨.ref a,H,I,Z,i (e.nil_iff.mp z)⟩) (λz=>?_) (by rw[<-↑f,<-↑e];show g)
 show⟨.ref (~~~s),_,I.laid (t':=s.toks) (o:=.tup (xs++ys)) (λb p q=>Ji _ q) (Jd _) ?_,Z,m (λw=>z (e.nil_iff.mpr w)) _ (I.hok.fresh (Jd _))⟩
 show⟨Jo<|g,_,f.append e,IsTup.new _ _⟩
end
theorem a8.eraseIdx:∀{xs:-V} {a:-N7} (i:Nat),a8 xs a->a8 (xs.eraseIdx i) (a.eraseIdx i)
 |_,_,_,.nil=> .nil
 |_,_,0,.cons _ t=>t
 |_,_,i+1,.cons r t=> .cons r (a8.eraseIdx i t)
theorem o6 {a:Type}:∀(l:-a) (i:Nat),↑(l.eraseIdx i)<=↑l
 |[],_=>Jd _
 |_::_,0=>Nat.le_succ _
 |_::r,i+1=>KS (o6 r i)
noncomputable def Et:V->-V->Hp->VK->Prop:=λx vs H Q=>∃l xs i k y,x=.ref l/\vs=[.int i]/\H l>.lst xs/\ -2^63<=i/\i<2^63/\seqIndex? i ↑xs>k/\xs[k]?>y/\Q y (Oc H l (.lst (xs.eraseIdx k)))
theorem yr:HI X "list.pop" Et:=by
 intro O9 s σ H x vs v A Q I d j h
 let⟨l,xs,i,k,y,rfl,rfl,c,h1,h2,p,o,q⟩:=h
 cases d
 let⟨u,rfl,f⟩:=j.one
 let⟨t,rfl⟩:=f
 let⟨z,a,n,r,m,e⟩:=I.lstM c
 let⟨w,g,b⟩:=r.get o
 show call_meets F.slot_list_pop ⟨_,e,Z⟩ F.entry_list_pop (F.args_list_pop_2 _ _)
  (MeetsSeq.list_pop_at l a.toArray n i t k w (fitsIndex_both h1 h2) (by rw[JD,<-m];show p) (by rw[<-Array.getElem?_toList];show g) (by rw[JD];lia)) ⟨e,?_⟩
 show⟨y,_,I.lset (its':=a.eraseIdx k) c e ?_ (r.eraseIdx k) ?_,b,q⟩
 ·change a.toArray.eraseIdxIfInBounds k=(a.eraseIdx k).toArray
  rw[List.eraseIdxIfInBounds_toArray]
 ·have:=o6 xs k
  lia
noncomputable def Ec:V->-V->Hp->VK->Prop:=λx vs H Q=>∃l xs,x=.ref l/\vs=[]/\H l>.lst xs/\Q .non (Oc H l (.lst []))
theorem zT:HI X "list.clear" Ec:=by
 intro O9 s σ H x vs v i Q I d f h
 let⟨l,xs,rfl,rfl,c,q⟩:=h
 cases d
 let b:=f.zero
 subst b
 let⟨z,a,n,r,g,e⟩:=I.lstM c
 show call_meets F.slot_list_clear ⟨_,e,Z⟩ F.entry_list_clear (F.args_list_clear_1 _) (AutoSeq1.list_clear_list_0 l a.toArray n (by rw[JD];lia)) ⟨e,?_⟩
 show⟨.non,_,I.lset (its':=[]) (ys:=[]) c e Z .nil (Ju _),Z,q⟩
theorem pv (i:Nat){x:Nh}{a:O2}(d:X.N[i]?>x:=by rfl)(hv:Hh X.env.scope x:=by first|show Or.inl rfl|show Or.inr (Or.inl Z)|show Or.inr (Or.inr Z))(c:(x==("__debug__" :Nh))=false:=by decide)
  (b:(x==("__classdict__" :Nh))=false:=by decide):PE X (.Name x a) (cR i):=z_ d hv c b
theorem si:fZ X (Nk .IsNot) (λx y H Q=>∃a b,x=.bl a/\y=.bl b/\Q (.bl (a !=b)) H):=by
 intro O9 s σ H x y v u Q I d c h
 let⟨a,b,rfl,rfl,q⟩:=h
 cases d
 cases c
 show isnot_bool (jA I q Z)
inductive DN:V->N7->Prop where
 |ty (n:String):DN (.ty n) (.type n)
 |ref (C:N8):DN (.ref C) (.ref C)
theorem gj:cJ X (.builtin "isinstance") (λxs H Q=>∃x y c t b,xs=[x,y]/\DN y c/\ly X.K H x t/\Lh X.K t c>b/\Q (.bl b) H):=by
 intro O9 s σ H xs j Q I r h
 let⟨x,y,c,t,b,rfl,g,ty,e,q⟩:=h
 let⟨u,a,rfl,f,d⟩:=gF r
 cases g with
 |ty n=>
  cases(show a=N7.type n from d)
  show om I f ty e λi=>⟨.bl b,H,I.tok _,Z,q⟩
 |ref C=>
  cases(show a=N7.ref C from d)
  show om I f ty e λi=>⟨.bl b,H,I.tok _,Z,q⟩
theorem BC:NC "bool" >.type "bool":=by decide+kernel
def B6 (K:Je):R2:=λx y H Q=>∃d e,Dp K H x d/\Dp K H y e/\d.depth<=60/\Q (.bl (Nl.eqv d e)) H
def G1 (K:Je):R2:=λx y H Q=>∃d e,Dp K H x d/\Dp K H y e/\d.depth<=60/\Q (.bl (!Nl.eqv d e)) H
theorem uP(c:aR k X.A):fZ X (Nk .Eq) (B6 X.K):=by
 intro O9 s σ H x y v u Q I g f h
 let⟨d,e,h1,h2,i,q⟩:=h
 let⟨as,b⟩:=h1.reads I g
 let⟨bs,a⟩:=h2.reads I f
 have:=c.units
 show SeqAt.compareEq_reads b a h1.lay h2.lay () ⟨.bl _,H,I,Z,q⟩
theorem ze(c:aR k X.A):fZ X (Nk .NotEq) (G1 X.K):=by
 intro O9 s σ H x y v u Q I g f h
 let⟨d,e,h1,h2,i,q⟩:=h
 let⟨as,b⟩:=h1.reads I g
 let⟨bs,a⟩:=h2.reads I f
 have:=c.units
 show SeqAt.compareNe_reads b a h1.lay h2.lay () ⟨.bl _,H,I,Z,q⟩
section
variable {tg:Nw}
theorem yb (bs:-Bool):(List.range ↑bs).any (λi=>bs.getD i false)=bs.any id:=by
 let e:(List.range ↑bs).map (λi=>bs.getD i false)=bs:=by
  apply Lu
  intro i
  by_cases hi:i<↑bs
  ·simp[hi]
  ·simp[hi]
 conv=>rhs;rw[<-e]
 rw[La]
 rfl
theorem gA (f:X.calm=true):cJ X (.builtin "any") (λxs H Q=>∃(p:N8) (bs:-Bool),xs=[.ref p]/\aM X.K H p (bs.map V.bl)/\Q (.bl (bs.any id)) H):=by
 intro O9 s σ H xs x Q I r h
 let⟨p,bs,rfl,hp,q⟩:=h
 let⟨u,rfl,l⟩:=dZ r
 cases l
 let⟨c,m,d,y⟩:=I.list hp
 cases oh m
 let j:(bs.map N7.bool).toArray.size=↑bs:=by simp
 show call_any_walk (Kw d.isList ?_)
 let a:p≠~~~s:=by
  let⟨o,g,_⟩:=d.isList
  show Jm (Jj g)
 show⟨~~~s,_,_,_,_,_,λi=>bs.getD i false,Z,Walks.list (A:=X.A.in1) (prog:=X.prog) (w:=X.w) (show X.A.in1.handled=none from I.ok.hd f) (~~~s) p a (bs.map N7.bool).toArray,⟨⟨_,Jp _ Z,Z,Z⟩,?_⟩,λi v s' Q' E' hv hq=>?_,λh' n k=>?_⟩
 ·show d.isList.at λo e=>Ji _ e
 ·let hi:(bs.map N7.bool).toArray[i]?>v:=hv
  rw[LN,Jn] at hi
  cases e:bs[i]? with
  |none=>rw[e] at hi;cases hi
  |some b=>
   rw[e] at hi
   cases hi
   show Kl ?_
   have:bs.getD i false=b:=by simp[JP,e]
   rw[<-this];show hq
 ·rw[j,yb]
  show⟨.bl _,H,I.kept (t':=n) λb o e=>k b o ?_ (Ji _ e),Z,q⟩
  intro hb
  have:b= ~~~s:=by simpa using hb
  show absurd (Jj e) (this<|JU _)
end
section
open AutoSeq1 (wpAny_loadPart')
theorem iO (e:X.K=K):cJ X (.builtin "len") (λxs H Q=>∃x n,xs=[x]/\B_ K x H n/\Q (.int n) H):=by subst e;show aO
end
section
variable {d:N8} {o:Nv} {es:Array NE} {ep:Nat}
theorem xh(b:s.heap.get? d>o)(c:o.ExactDict)(a:o.data=.dict es ep)(hz:es.size<=N9)
  (h:∀h',(∃o' ep',h'.get? d>o'/\o'.ExactDict/\o'.data=.dict #[] ep')->Ng.SameBut d s.heap h'->Q .none {s with heap:=h'}):Na (Nd prog w) A (call (.builtin "dict.clear") [.ref d]) Q E s:=by
 let e:s.TypeIs (.ref d) "dict" :=⟨o,b,c.1⟩
 show JN F.slot_dict_clear e F.entry_dict_clear ?_ (F.args_dict_clear_1 _)
 unfold Nc.«dict.clear» Nc.Dict.noArgs
 show Ja (Ja (KB e ?_))
 change Na _ _ (pure d) _ _ s
 show Jc (Ja (JW b a (Ja ?_)))
 unfold bearsInstanceDictMark
 show Ja (wpAny_load b (Jc ?_))
 show Ja (wpAny_updateDictKeys (hz:=hz) b a ?_)
 let new:∃o' ep',(s.heap.update d (Nv.mapDictKeys λ_=> #[])).get? d>o'/\o'.ExactDict/\o'.data=.dict #[] ep':=
  ⟨_,ep+1,Kg _ b (Nv.isFreed_of_dict (Nv.data_mapDictKeys a _)),c.mapDictKeys _,Nv.data_mapDictKeys a _⟩
 split
 ·show Ja (wpAny_letGo (Jc ⟨.none,Z,h _ new (Ng.SameBut.update ..)⟩))
 ·show Ja (Jc (Jc ⟨.none,Z,h _ new (Ng.SameBut.update ..)⟩))
end
noncomputable def B2:V->-V->Hp->VK->Prop:=λx vs H Q=>∃a b,x=.ref a/\vs=[]/\H a>.dT b/\Q .non (Oc H a (.dT []))
theorem yg:Do X "dict.clear" B2:=by
 intro O9 s σ H x vs v u Q I k m h
 let⟨a,f,rfl,rfl,ha,q⟩:=h
 cases(show v=N7.ref a from k)
 cases m
 let⟨z,n,xs,d,o,es,ep,j,i,c,l,_⟩:=u9 I.hok ha
 let y:=size_of_entries l
 let r:=Nb.length d
 show xh j i c () λh' ⟨o',g,h1,h2,p⟩ sb=>?_
 show⟨.non,_,I.write (t':=s.toks) (x:=a) (e:=a) (o:=.dT []) (ha<|True.intro) (.inl Z) (λb w hb q=>(sb.2 b hb).trans q) ⟨o',h1⟩ ?_,Z,q⟩
 show⟨Ju _,n,[],.nil,o',#[],g,h1,h2,p,Z,Ka⟩
theorem gI:∀{xs:-V} {a:-N7} (_:a8 xs a) (i:Nat) (hi:i<↑a),aY (xs.getD i .non) a[i]
 |_,_,.nil,i,hi=>absurd hi (K1 _)
 |_,_,.cons r _,0,_=>r
 |_,_,.cons _ t,i+1,hi=>by simpa using gI t i (by simpa using hi)
theorem jO (n:Nat):((List.range n).all λ_=>true)=true:=by simp
section
variable {d:N8} {es:Array NE} {ep:Nat}
theorem AN (m:(d==NR)=false):PySem.W.KdlSrc prog w "dict" d d es.size (λi v=>∃hi:i<es.size,v=es[i].key) (λh=>∃o,h.get? d>o/\o.ExactDict/\o.data=.dict es ep) where
 type:=λ_ ⟨o,a,f,_⟩=>⟨o,a,f.1⟩
 there:=λ_ ⟨o,a,_⟩=>⟨Jj a,Jj a⟩
 keep:=λ_ _ ⟨o,a,x⟩ j=>⟨o,j d (.inl Z) o a,x⟩
 notList:=by decide
 notTuple:=by decide
 hint:=λ_ _ _ _ ⟨o,a,f,_⟩ hq=>PySem.W.kdl_hint_dict ⟨o,a,f.1⟩ hq
 iter:=λA s l ⟨o,a,f,c⟩=>⟨_,λi h=>h.IsKeyIter (~~~s) d i es.size ep/\∃o,h.get? d>o/\o.data=.dict es ep,(λ_ _ hq=>vP m a f c hq),{
   sub:=λb hb=>by simp at hb;simp[hb]
   frame:=λ_ _ _ ⟨st,o,h1,h2⟩ j=>⟨my st λo e=>j _ (by simp) o e,o,j d (by simp) o h1,h2⟩
   item:=λi s' Q E hi ⟨st,o,h1,h2⟩ g=>vf st h1 h2 hi λh' k sb=>g _ h' s'.toks ⟨hi,Z⟩ ⟨k,o,(sb.2 d (Jm (Jj a))).trans h1,h2⟩ λb o hb e=>(sb.2 b (λz=>hb (by simp[z]))).trans e
   done:=λs' Q E ⟨st,o,h1,h2⟩ g=>zE l st h1 h2 (Jd _) λh' n=>g h' s'.toks λb o hb e=>n b o (λz=>hb (by simp[z])) e
   self:=λi s' Q E ⟨st,_⟩ g=>wpAny_pyIter_keyiter st g},⟨⟨_,Jp _ Z,Z,Z⟩,o,Ji _ a,c⟩⟩
end
theorem xc {Q:N7->N_->Prop}{m:Nh->Option N7}(I:aG X O9 σ H s){as:-N8}{cs:-(-Int)}(ht:bG H as cs)(ad:∀c∈cs,c≠[])(h2:2<=↑as)(Y:↑as<64)(hm:s.heap.Ns X.env.locals m)
  {D:N8} {M tk:Nat} {h':Ng} (F':Fr (Att.noObjs s.heap) X.env.locals h' m) (N':News (Att.noObjs s.heap) X.env.locals h' ((D,O8 "list" #[] M)::gO (Att.noObjs s.heap) s.heap X.env.locals)) (hD:∀q∈gO (Att.noObjs s.heap) s.heap X.env.locals,q.1<D)
  (q:∀bs ds s',H D=none->bG H bs ds->ds.Perm cs->ds.Pairwise (λc d=>HT.lexLt d c=false)->aG X O9 σ (Oc H D (.lst (bs.map V.ref))) s'->Q (.ref D) s'):
  Na (Nd X.prog X.w) A (keyKind' (as.map N7.ref).toArray) (λκ s'=>(Lw ↑(as.map N7.ref)).kasWp (PySem.W.kas_ask X.prog X.w A κ (as.map N7.ref)) (λp ac=>PySem.W.KasFin (Att.noObjs s.heap) X.env.locals m D M (p.toList.map λi=>(as.map N7.ref).getD i N7.none) (λR=>Q (.ref D) R) ac) s') (λ_ _=>False) {s with heap:=h',toks:=tk}:=by
 let o:↑as=↑cs:=ht.length
 let U:∀b u,b≠X.env.locals->s.heap.get? b>u->h'.get? b>u:=λb u hb e=>(N' (b,u) (JC _ (dA hb (Att.noObjs_get _ _) e))).1
 let g:s.heap.get? D=none:=by
  cases e:s.heap.get? D with
  |none=>rfl
  |some u=>show absurd (hD (D,u) (dA (N' (D,_) JA).2.1 (Att.noObjs_get _ _) e)) (JU _)
 let⟨fs,kt,J,r⟩:=sq I U ht ad
 show PySem.W.kat_kind (s:={s with heap:=h',toks:=tk}) (T:=.type "int") kt () (λv hv=>?_) Z ?_
 ·let⟨i,t,rfl⟩:=r v hv
  show .now
 let hl:↑(as.map N7.ref)=↑as:=Jb ..
 let⟨s1,L,R⟩:=v5 (O:=sD) (key:=λi=>cs.getD i []) (N:=↑as) ()
 rw[hl]
 show Ad (lt:=dX (O:=sD) λi=>cs.getD i []) (I:=λs'=>s'={s with heap:=h',toks:=tk}) (λi j C s' hi K hs hC=>?_) s1 Z λs' hs=>?_
 ·subst hs
  let⟨ci,M,g1⟩:=ht.at (i:=i) (a:=as[i]) (by simp[hi])
  let⟨cj,e2,S⟩:=ht.at (i:=j) (a:=as[j]) (by simp[K])
  let v1:(as.map N7.ref).getD i N7.none=.ref as[i]:=by simp[hi]
  let v2:(as.map N7.ref).getD j N7.none=.ref as[j]:=by simp[K]
  let l:as[i]≠X.env.locals:=λz=>by rw[z,I.free] at g1;cases g1
  let n:as[j]≠X.env.locals:=λz=>by rw[z,I.free] at S;cases S
  let⟨_,F,k,o1,B,_,n1,w⟩:=(show bN X.prog X.w H s.heap as[i] (.tup (ci.map V.int)) from I.hok _ _ g1)
  let⟨_,E,h,o2,x,_,n2,y⟩:=(show bN X.prog X.w H s.heap as[j] (.tup (cj.map V.int)) from I.hok _ _ S)
  unfold PySem.W.kas_ask
  rw[v1,v2]
  show PySem.W.kat_lt (U _ _ l B) w (U _ _ n x) y ?_
  let l1:=↑k
  let l2:=↑h
  rw[Jb] at l1 l2
  show iB F E ci cj 0 k h (by simp[l1,l2]) ?_
  have:=hC _ Z
  simp only[dX,JP,M,e2,Lv] at this
  show this
 ·subst hs
  show PySem.W.KasFin.intro (s:={s with heap:=h',toks:=tk}) F' N' (.head λp hp=>Jm (hD p hp)) λZ0 c F2 N2=>?_
  let f:∀i∈(gf (dX (O:=sD) λi=>cs.getD i []) (Lw ↑as)).toList,i<↑as:=λi hi=>by
   have:=(L7.mp L).mem_iff.mp hi
   simpa using this
  generalize hE:gf (dX (O:=sD) λi=>cs.getD i []) (Lw ↑as)=P at L R f N2
  let hb:(P.toList.map λi=>(as.map N7.ref).getD i N7.none)=(P.toList.map λi=>as.getD i 0).map N7.ref:=by
   rw[JF]
   show K4 λi hi=>?_
   have:=f i hi
   simp[this]
  let I':aG X O9 σ (Oc H D (.lst ((P.toList.map λi=>as.getD i 0).map V.ref))) {s with heap:=Z0,toks:=tk}:=by
   show I.laidN (λb u hb e=>?_) (λm' ah=>?_) g ?_
   ·show(N2 (b,u) (JC _ (dA hb (Att.noObjs_get _ _) e))).1
   ·have:m'=m:=qm ah hm
    rw[this];show F2.ns
   ·let e:=(N2 (D,_) JA).1
    rw[hb] at e
    show⟨?_,_,_,eY _,e⟩
    rw[Jb,Jb,J4,L.size]
    show Jt (JX Y) (by decide)
  show q _ _ _ (I.hok.none_of g) (Nb.pick 0 [] ht _ f) (oC [] cs (by rw[<-o];show L)) ?_ I'
  rw[L8]
  intro i j hi K aa
  simp only[Jb,J4] at hi K
  have:=R i j (JX aa) (by rw[L.size] at K;show K)
  simp only[List.getElem_map,Array.getElem_toList]
  unfold kA at this
  simp only[Ko,Kb hi,Kb K,Lv] at this
  show this
theorem ql:∀{cs:-(-Int)} {vs:-N7},↑vs=↑cs->(∀(i:Nat) (v:N7) (c:-Int),vs[i]?>v->cs[i]?>c->∃a,v=.ref a/\H a>.tup (c.map V.int))->∃as:-N8,vs=as.map N7.ref/\bG H as cs
 |[],[],_,_=>⟨[],Z,.nil⟩
 |[],_::_,h,_=>by simp at h
 |_::_,[],h,_=>by simp at h
 |c::cs,v::vs,h,f=>by
  let⟨a,rfl,ha⟩:=f 0 v c Z Z
  let⟨as,rfl,ht⟩:=ql (cs:=cs) (vs:=vs) (by simpa using h) λi v c h1 h2=>f (i+1) v c (by simpa using h1) (by simpa using h2)
  show⟨a::as,Z,.cons ha ht⟩
theorem pT (L:X.calm=true):cJ X (.builtin "sorted") (λxs H Q=>∃(p:N8) (F:-(-dh×V)) (cs:-(-Int)),xs=[.ref p]/\H p>.dT F/\F.map (·.1)=cs.map (λc=>c.map Sum.inl)/\(∀c∈cs,c≠[])/\2<=↑cs/\↑cs<64/\
  ∀l bs ds,H l=none->bG H bs ds->ds.Perm cs->ds.Pairwise (λc d=>HT.lexLt d c=false)->Q (.ref l) (Oc H l (.lst (bs.map V.ref)))):=by
 intro O9 s σ H xs us Q I r h
 let⟨p,F,cs,rfl,e,N,g,h2,C,q⟩:=h
 let⟨u,rfl,rx⟩:=dZ r
 cases rx
 let⟨o,I1,B⟩:=I.freeze e trivial
 let⟨U,A,R,es,ep,w,hz,f⟩:=iL I1.hok af trivial
 let k:↑F=↑cs:=by have:=congrArg List.length N;simpa using this
 let b:es.size=↑cs:=by rw[<-k];show hz
 let⟨m,hm,_⟩:=id I.loc
 show PySem.W.kdu_sorted (AN U) (I.ok.hd L) (Att.fr_all hm) mj ⟨o,A,R,w⟩ (by rw[b,NP];lia) λD h' Z0 vs F' N' P J hP=>?_
 obtain⟨as,rfl,ht⟩:∃as:-N8,vs=as.map N7.ref/\bG H as cs:=by
  show ql (by rw[J,b]) λi v c hv M=>?_
  let⟨hi,rfl⟩:=hP i v hv
  let⟨x,y,n,r1,r2⟩:=f i hi
  let⟨kk,a,h1,h2,K⟩:=n
  let O:(F.map (·.1))[i]?>kk:=by rw[Jn,h1];rfl
  rw[N,Jn,M] at O
  let h5:=Option.some.inj O
  subst h2
  show⟨a,r1,?_⟩
  let j:a≠p:=λz=>by rw[z,af] at K;cases K
  rw[aj j,<-h5,cC] at K
  show K
 let E:↑as=↑cs:=ht.length
 show PySem.W.kat_lsort (s:={s with heap:=h',toks:=Z0}) (vs:=as.map N7.ref) F' N' (.head λp hp=>Jm (P p hp)) (by simp) (by rw[Jb];lia) (by rw[Jb];lia) λe1 Y F2 N2=>?_
 show xc I ht g () () hm F2 N2 P (λbs ds s' hn T S t3 I'=>?_)
 show⟨.ref D,_,I',Z,q D bs ds hn T S t3⟩
noncomputable def tH {a:Type} [DecidableEq a] (b:-(a×N8×N7)) (k:a):-(a×N8×N7):=b.filter λx=>decide (x.1≠k)
noncomputable def lz {a:Type} [DecidableEq a] (b:-(a×V)) (k:a):-(a×V):=b.filter λx=>decide (x.1≠k)
theorem oX {a:Type} [DecidableEq a]{k:a}{p:N8×N7}:∀{zs:-(a×N8×N7)} {j:Nat},(zs.map (·.1)).Nodup->zs[j]?>(k,p)->zs.eraseIdx j=tH zs k
 |[],_,_,h=>by simp at h
 |x::zs,0,hn,h=>by
  simp only[List.getElem?_cons_zero,Option.some.injEq] at h
  subst h
  rw[Jq,JE] at hn
  rw[List.eraseIdx_cons_zero,tH,K6 (by simp)]
  symm
  show List.filter_eq_self.mpr λy b=>?_
  show N3 λe=>hn.1 ?_
  rw[<-e]
  show Jh.mpr ⟨y,b,Z⟩
 |x::zs,j+1,hn,h=>by
  simp only[List.getElem?_cons_succ] at h
  rw[Jq,JE] at hn
  let hm:k∈zs.map (·.1):=Jh.mpr ⟨(k,p),Jl h,Z⟩
  rw[List.eraseIdx_cons_succ,oX hn.2 h,tH,tH,K5 (by simpa using λe:x.1=k=>hn.1 (e▸hm))]
theorem fi {b c:Type}(f:b->c):∀(l:-b) (j:Nat),(l.map f).eraseIdx j=(l.eraseIdx j).map f
 |[],_=>by simp
 |_::_,0=>by simp
 |a::l,j+1=>by rw[Jq,List.eraseIdx_cons_succ,List.eraseIdx_cons_succ,Jq,fi f l j]
section
variable {κ:Type} [DecidableEq κ] {knd:HeapKind prog w κ}
theorem pL{m:-(κ×N8×N7)}{k:κ}{p:N8×N7}{Q:Option NE->N_->Prop}(u:knd.room A)(r:knd.is s.heap k b)(z:s.heap.DictOfH knd d m)(g:atKey m k>p)
  (h:∀h' e,e.val=p.2->h'.DictOfH knd d (tH m k)->Ng.SameBut d s.heap h'->Q (some e) {s with heap:=h',toks:=s.toks+knd.draws k})
  (hsz:↑m<=N9):Na (Nd prog w) A (Nc.Dict.takeOut d (.ref b)) Q E s:=by
 let⟨C,D,ep,f,y,c,i,a,l⟩:=z
 unfold Nc.Dict.takeOut
 try with_reducible show Jy ?_
 show Ja (knd.pyHash u r ?_)
 show Ja (wpAny_dictFind_heap (s:={s with toks:=s.toks+knd.draws k}) u r f c i a l (λo=>?_) λj q n=>?_)
 ·rw[atKey_none_of_get o] at g;cases g
 ·let v:=atKey_of_get l n
  rw[v] at g
  obtain rfl:=Option.some.inj g
  show Ja (JW (s:={s with toks:=s.toks+knd.draws k}) f c ?_)
  rw[entry_at i j,n]
  show Ja (wpAny_updateDictKeys (hz:=by let e:=size_of_entries i;lia) (s:={s with toks:=s.toks+knd.draws k}) f c
   (Jc (h _ _ Z ⟨_,_,ep+1,Kg _ f (Nv.isFreed_of_dict (Nv.data_mapDictKeys c _)),y.mapDictKeys _,Nv.data_mapDictKeys c _,?_,?_,?_⟩ (Ng.SameBut.update ..))))
  ·rw[Array.toList_eraseIdxIfInBounds,i,fi,oX l n]
  ·intro x B
   show knd.keeps (a x (Ke.mp B|>.1)) f c (Ng.SameBut.update ..)
  ·show l.sublist (List.Sublist.map _ List.filter_sublist)
end
theorem KT.del:∀{a:-(-dh×V)} {xs:-(-dh×N8×N7)},KT H a xs->KT H (lz a k) (tH xs k)
 |_,_,.nil=> .nil
 |p::a,q::xs,.cons r t=>by
  unfold lz tH
  by_cases e:p.1=k
  ·rw[K6 (by simpa using e),K6 (by simpa[<-r.1] using e)]
   show KT.del t
  ·rw[K5 (by simpa using e),K5 (by simpa[<-r.1] using e)]
   show .cons r (KT.del t)
noncomputable def Fi:V->-V->Hp->VK->Prop:=λx vs H Q=>∃a b c k v,x=.ref a/\vs=[.ref b]/\H a>.dT c/\H b>.tup (k.map kV)/\bg c k>v/\Q v (Oc H a (.dT (lz c k)))
theorem pX(T:aR j X.A):Do X "dict.pop" Fi:=by
 intro O9 s σ H x vs v Z0 Q I D K h
 let⟨a,b,g,k,y,rfl,rfl,n,U,hv,q⟩:=h
 cases D
 let⟨u1,rfl,R⟩:=dZ K
 cases R
 let⟨z,L,xs,f,dd⟩:=u9 I.hok n
 let W:↑xs<=N9:=by rw[<-Nb.length f];show z
 let M:↑(lz g k)<=N9:=Jt (LC ..) z
 let J:X.A.units+1<NF:=aR.one T
 let d:=f.val k
 rw[hv] at d
 cases ep:atKey xs k with
 |none=>rw[ep] at d;show d.elim
 |some p=>
  rw[ep] at d
  show JN LZ dd.typeIs PySem.F.entry_dict_pop ?_ (PySem.F.args_dict_pop_2 _ _)
  unfold Nc.«dict.pop»
  show Ja ?_
  unfold Nc.Dict.keyAndDefault
  show Ja (KB dd.typeIs ?_)
  change Na _ _ (pure (a,N7.ref b,none)) _ _ s
  show Jc ?_
  let⟨od,es,m,go,Y,N,u,gi,gn⟩:=id dd
  let O:es.isEmpty=false:=by
   cases q:es.isEmpty with
   |false=>rfl
   |true=>
    have:es= #[]:=by simpa using q
    rw[this] at u
    have:xs=[]:=by
     cases xs with
     |nil=>rfl
     |cons _ _=>cases u
    rw[this] at ep
    cases ep
  show Ja (JW go N (Ja (Jc ?_)))
  rw[O]
  simp only[Kq,if_false]
  show Ja (pL (NB J) (gU I.hok U) dd ep (λh' e r o hs=>?_) W)
  simp only[Option.isNone_some,Kq,if_false]
  show Ja (wpAny_letGo (Jc ⟨e.val,Z,?_⟩))
  let⟨w,i,l,hq,C,S,P,_,E⟩:=o
  show⟨y,_,pO (ob:=.dT (lz g k)) I (n<|True.intro) hs ⟨w,hq⟩ ⟨M,L,_,(KT.del (k:=k) f).keeps λc ys B=>?_,w,i,l,hq,C,S,P,E⟩,?_,q⟩
  ·rw[aj (bu B n (λz=>nomatch z))]
   show B
  ·rw[r];show d
theorem Bo(e:X.K=K)(a:aR k X.A):fZ X (Nk .Eq) (B6 K):=by subst e;show uP a
theorem mD (a:X.K=K):fZ X (binaryOp .Add) (v7 K):=by subst a;show fc
section
variable {C:N8} {k:Nat} {ps:-Nh} {sp:Sp} {x:Nh} {p pos:O2} {e:Nw} {es:-Nw} {t:TA} (G:Aq X.prog X.w X.K X.mg X.Oa C x k ps sp) (hr:aR (k+1) X.A) (hg:Gl X x) (ha:PA X (e::es) t) (hdb:(x==("__debug__" :Nh))=false:=by decide)
  (he:Nf (e::es) X.env=(false,eval e X.env)::Nf es X.env:=by rfl) (hpl:(NG pos (Nf es X.env)).any (·.1)=false:=by rfl)
include G hr hg ha hdb he hpl
end
theorem wF {e:Nw}{f:Nh}{a:O2}{ta:TE}(c:X.K=K)(d:PE X e ta)(b:NV e f X.env (eval e X.env)=eval e X.env):PE X (.Attribute e f a) (DG K ta f):=by subst c;show bI d b
theorem yU {T id:String}{name:Nh}{r:V->-V->Hp->VK->Prop}{o e:Nw}{g:-Nw}{k:TE}{t:TA}{c a:O2}(u:X.K=K)(l:PlainAttrs T)(h:Slot T name id)(j:typeOf (.builtin id)=pure (.type "method_descriptor"))(p:Do X id r)(m:PE X o k)(n:PA X (e::g) t)
  (f:NV o name X.env (eval o X.env)=eval o X.env:=by rfl)
  (i:((NG a (Nf (e::g) X.env)).all (λx=>!x.1)&&(backToKw a (keywordEach [] X.env)).all (λx=>x.1.isSome)
   &&decide (↑(e::g)+↑([]:-Keyword)+(if ([]:-Keyword).isEmpty then 0 else 1)<30))=true:=by rfl)
  (d:(c.endLine==a.line)=true:=by rfl) (q:Nf (e::g) X.env=(false,eval e X.env)::Nf g X.env:=by rfl) (b:(NG a (Nf g X.env)).any (·.1)=false:=by rfl):
  PE X (.Call (.Attribute o name c) (e::g) [] a) (yl K T r k t):=by subst u;show bR l h j p m n f i d q b
theorem CK(d:aR k X.A):fZ X (Nk .In) (o7 X.K false):=by
 intro O9 s σ H x y v u Q I g f h
 let⟨b,p,as,c,cs,rfl,rfl,hb,hp,ht,q⟩:=h
 cases g
 cases f
 let⟨a,j,e,l⟩:=I.tuple hp
 cases eP j
 show SeqAt.in_tupleAt (tD H c) e (λw i=>lG d I hb ht w (by simpa using i)) ⟨.bl _,H,I,Z,?_⟩
 rw[show(as.map N7.ref).toArray.any (tD H c)=(as.map N7.ref).any (tD H c) by simp,lL ht]
 show q
theorem qI (a:X.K=K){k:Nat}(b:aR k X.A):fZ X (Nk .In) (o7 K false):=by subst a;show CK b
section
open PySem.SeqAt
open PySem.AutoSeq1 (wpAny_loadPart')
open PySem.MeetsSeq PySem.MeetsSeq2 PySem.MeetsSeq3
theorem BM (l:N8)(xs:Array N7)(n:Nat)(v:N7)(e:N7->Bool)(j:Nat)(o:j<xs.size)(hit:e xs[j]=true)(hz:xs.size<=N9)(k:Nat):
  ∀i:Nat,j - i=k->i<=j->(∀m (hm:m<xs.size),i<=m->m<j->e xs[m]=false)->Meets (Nc.«list.remove.loop» ⟨[.ref l,v,NJ i],[]⟩)
   (λA R s=>s.heap.get? l=some {cls:=.type "list",dict:=none,data:=.seq xs n,slots:= #[]}/\(∀y,y∈xs->EqAt A.in1 s y v (e y))/\
    R (.ok (.ret .none)) {s with heap:=s.heap.update l (Nv.mapSeq λys=>ys.eraseIdxIfInBounds j)}):=by
 induction k with
 |zero=>
  intro i r z g p w A R s h
  let⟨x,u,B,t0,C⟩:=s
  let⟨d,f,q⟩:=h
  obtain rfl:i=j:=by lia
  wp_walk using (NA d)
  rw[show xs[((i:Nat):Int).toNat]?=some xs[i] by simp[o]]
  show Ja (f xs[i] (Ls o) p w _ _ ?_)
  rw[hit]
  let c:(xs.eraseIdxIfInBounds i).size<=N9+1:=Jt (size_erased xs _) (Nat.le_succ_of_le hz)
  wp_walk using (wpAny_updateSeq d Z (hz:=hz) (_hz':=c)),(NA d)
  simpa using q
 |succ k ih=>
  intro i r z g p w A R s h
  let⟨x,u,B,t0,C⟩:=s
  let⟨d,f,q⟩:=h
  let lt:i<xs.size:=by lia
  wp_walk using (NA d)
  rw[show xs[((i:Nat):Int).toNat]?=some xs[i] by simp[lt]]
  show Ja (f xs[i] (Ls lt) p w _ _ ?_)
  rw[g i lt (Jd _) ()]
  wp_walk
  rw[show((i:Int)+1)=((i+1:Nat):Int) by lia]
  show⟨Ny plain_remove_loop _,Nt entry_remove_loop (by
   rw[Nu.under_plainId]
   ·show ih (i+1) () () (λm hm a b=>g m hm () b) p w A R _ ⟨d,f,q⟩
   ·show plain_remove_loop)⟩
theorem Cw (l:N8)(xs:Array N7)(n:Nat)(v:N7)(e:N7->Bool)(j:Nat)(c:j<xs.size)(hit:e xs[j]=true)(hz:xs.size<=N9)(d:∀m (hm:m<xs.size),m<j->e xs[m]=false):
  Meets (Nc.«list.remove» ⟨[.ref l,v],[]⟩)
   (λA R s=>s.heap.get? l=some {cls:=.type "list",dict:=none,data:=.seq xs n,slots:= #[]}/\(∀y,y∈xs->EqAt A.in1 s y v (e y))/\
    R (.ok (.ret .none)) {s with heap:=s.heap.update l (Nv.mapSeq λys=>ys.eraseIdxIfInBounds j)}):=by
 intro p w A R s h
 let⟨g,o,i,t0,k⟩:=s
 let⟨a,f,q⟩:=h
 wp_walk using (NA a)
 show⟨Ny plain_remove_loop _,Nt entry_remove_loop (by
  rw[Nu.under_plainId]
  ·show BM l xs n v e j c hit hz _ 0 Z (Ju _) (λm hm _ b=>d m hm b) p w A R _ ⟨a,f,q⟩
  ·show plain_remove_loop)⟩
end
theorem sJ {a:Type} [DecidableEq a]{c:a}:∀{cs:-a},c∈cs->∃j:Nat,cs[j]?>c/\∀m:Nat,m<j->cs[m]?≠some c
 |[],h=>nomatch h
 |d::cs,h=>by
  by_cases e:d=c
  ·show⟨0,by rw[e];rfl,λm hm=>absurd hm (K1 _)⟩
  ·let⟨j,h1,h2⟩:=sJ (cs:=cs) ((Jk.mp h).resolve_left λz=>e z.symm)
   show⟨j+1,h1,λm hm=>?_⟩
   cases m with
   |zero=>show λz=>e (Option.some.inj z)
   |succ m=>show h2 m ()
section
variable {C:N8} {k n:Nat} {ps:-Nh} {sp:Sp} {x:Nh} {p pos:O2} {e:Nw} {es:-Nw} {t:TA} (G:jV X.prog X.w X.K X.mg X.Oa C x k ps sp n) (hr:aR (k+1) X.A) (hg:Gl X x) (ha:PA X (e::es) t) (hdb:(x==("__debug__" :Nh))=false:=by decide)
  (he:Nf (e::es) X.env=(false,eval e X.env)::Nf es X.env:=by rfl) (hpl:(NG pos (Nf es X.env)).any (·.1)=false:=by rfl)
include G hr hg ha hdb he hpl
theorem v9:PE X (.Call (.Name x p) (e::es) [] pos) (oj C sp [] E0 t):=AJ G hr hg ha hdb he hpl 0 (Ju _)
theorem CW (h1:1<=n:=by decide):PE X (.Call (.Name x p) (e::es) [] pos) (oj C sp [.int 0] E0 t):=AJ G hr hg ha hdb he hpl 1 h1
end
theorem B9(h0:c6 K fd ps [])(h1:c6 K fd ps [.int 0 t0]):∀j,j<=1->∃ds,a8 (List.replicate j (.int 0)) ds/\c6 K fd ps ds
 |0,_=>⟨_,.nil,h0⟩
 |1,_=>⟨_,.cons ⟨_,Z⟩ .nil,h1⟩
theorem pE (K:X.calm=true):cJ X (.builtin "sorted") (λxs H Q=>∃(p:N8) (J:-(-dh×V)) (cs:-(-Int)),xs=[.ref p]/\H p>.dT J/\J.map (·.1)=cs.map (λc=>c.map Sum.inl)/\(∀c∈cs,c≠[])/\↑cs<64/\
  ∀l bs ds,H l=none->bG H bs ds->ds.Perm cs->ds.Pairwise (λc d=>HT.lexLt d c=false)->Q (.ref l) (Oc H l (.lst (bs.map V.ref)))):=by
 intro O9 s σ H xs us Q I r h
 let⟨p,J,cs,rfl,e,O,n,A,q⟩:=h
 by_cases h2:2<=↑cs
 ·show pT K O9 s σ H _ us Q I r ⟨p,J,cs,Z,e,O,n,h2,A,q⟩
 let⟨u,rfl,rx⟩:=dZ r
 cases rx
 let⟨o,I1,_⟩:=I.freeze e trivial
 let⟨hS,E,Y,es,ep,C,hz,j⟩:=iL I1.hok af trivial
 let g:es.size=↑cs:=by
  have:=congrArg List.length O
  rw[Jb,Jb] at this
  rw[<-this];show hz
 let⟨m,hm,_⟩:=id I.loc
 show PySem.W.kdu_sorted (AN hS) (I.ok.hd K) (Att.fr_all hm) mj ⟨o,E,Y,C⟩ (by rw[g,NP];lia) λD h' T vs F' N' hD L hP=>?_
 obtain⟨as,rfl,ht⟩:∃as:-N8,vs=as.map N7.ref/\bG H as cs:=by
  show ql (by rw[L,g]) λi v c hv P=>?_
  let⟨hi,rfl⟩:=hP i v hv
  let⟨x,y,⟨kk,a,h1,h2,N⟩,r1,r2⟩:=j i hi
  let U:(J.map (·.1))[i]?>kk:=by rw[Jn,h1];rfl
  rw[O,Jn,P] at U
  subst h2
  show⟨a,r1,?_⟩
  rw[aj (λz=>by rw[z,af] at N;cases N),<-Option.some.inj U,cC] at N
  show N
 let F:↑as=↑cs:=Nb.length ht
 let k0:∀b u,b≠X.env.locals->s.heap.get? b>u->h'.get? b>u:=λb u hb e=>(N' (b,u) (JC _ (dA hb (Att.noObjs_get _ _) e))).1
 let M:=N' (D,_) JA
 let f:s.heap.get? D=none:=by
  cases e:s.heap.get? D with
  |none=>rfl
  |some u=>show absurd (hD (D,u) (dA M.2.1 (Att.noObjs_get _ _) e)) (JU _)
 let S:h'.get? D>PyProof.Rows.seqObj "list" (as.map N7.ref).toArray 0:=M.1
 show JN PyProof.Rows.slot_list_sort ⟨_,M.1,Z⟩ PyProof.Rows.entry_list_sort (sg (s:={s with heap:=h',toks:=T}) S (by rw[Jb];lia) ⟨_,Z,?_⟩) (PyProof.Rows.args_list_sort _)
 let⟨e1,k⟩:=sortedHeap_at (out:=(as.map N7.ref).toArray) S
 let kp:∀b u,b≠D->h'.get? b>u->(PyProof.Rows.sortedHeap h' D (as.map N7.ref) (as.map N7.ref).toArray).get? b>u:=λb u hb e=>(sortedHeap_old hb (Jj e)).trans e
 let I':aG X O9 σ (Oc H D (.lst (as.map V.ref))) {s with heap:=PyProof.Rows.sortedHeap h' D (as.map N7.ref) (as.map N7.ref).toArray,toks:=T}:=by
  show I.laidN (λb u hb e=>?_) (λZ0 R=>?_) f ?_
  ·show kp b u (λz=>by rw[z,f] at e;cases e) (k0 b u hb e)
  ·rw[show Z0=m from qm R hm]
   let⟨oL,B,w,e',r'⟩:=F'.ns
   show⟨oL,B,w,kp _ _ M.2.1.symm e',r'⟩
  ·show⟨by rw[Jb,F,NP];lia,_,_,eY _,k⟩
 show⟨.ref D,_,I',Z,q D as cs (I.hok.none_of f) ht (List.Perm.refl _) ?_⟩
 match cs,h2 with
 |[],_=>show .nil
 |[_],_=>show List.pairwise_singleton _ _
 |_::_::_,hl=>simp only[JY] at hl;lia
theorem xG{d:-(Bool×(N7->Sem Unit))}{Q:Unit->N_->Prop}(n:A.handled=none)(f:s.heap.IsList l #[x,y])(r:↑d=2)(q:d.findIdx? (·.1)=none)
  (h:∀h',K8 (~~~s) s.heap h'->Na (Nd prog w) A (assignInOrder (d.map (·.2)) [x,y]) Q E {s with heap:=h'}):Na (Nd prog w) A (unpack (.ref l) d) Q E s:=by
 let k:l≠~~~s:=by
  let⟨o,j,_⟩:=f
  show Jm (Jj j)
 let a:∀{h h':Ng},Ng.SameBut (~~~s) h h'->h.IsList l #[x,y]->h'.IsList l #[x,y]:=λb z=>z.at λo e=>b.extBut _ _ k e
 unfold unpack
 rw[r,q]
 show Ja (Jy ?_)
 unfold unpackItems
 show Ja ?_
 unfold notIterableAtAll
 show Ja (KN f.typeIs PySem.F.slot_list_iter.lookup (Jc ?_))
 simp only[Kq,if_false]
 let c:(s.heap.push {cls:=.type "list_iterator",data:=.fields #[.ref l,.int 0 0]}).IsList l #[x,y]:=f.at λo e=>Ji _ e
 show Ja (Jy (Kw f ?_))
 show Ja (Jy ?_)
 change Na _ _ (NH (.ref (~~~s))>>=_) _ _ _
 show Ja (KZ (i:=0) (x:=x) ⟨_,Jp _ Z,Z,Z⟩ c Z λh1 i1 g=>?_)
 show Ja (Jy ?_)
 change Na _ _ (NH (.ref (~~~s))>>=_) _ _ _
 show Ja (KZ (i:=1) (x:=y) i1 (a g c) Z λh2 i2 b2=>?_)
 show Ja (Jy ?_)
 show Jc (Jc (Jc ?_))
 rw[N0 (by simp)]
 show Ja (Jy (wpAny_pyNext_list_end n (i:=2) i2 (a b2 (a g c)) Z λm p=>?_))
 simp only[Option.isSome_none,Kq,if_false]
 show Jc (h m λb o hb e=>p b o hb (b2.extBut b o hb (g.extBut b o hb (Ji _ e))))
section
variable {pos:O2}
def Fj (K:Je) (t:C7):TG:=λv σ H Q=>∃a x y,v=.ref a/\aM K H a [x,y]/\t [x,y] σ H Q
theorem Bw(g:X.calm=true)(h:EY X es t)
  (w:↑(NY es X.env)=2:=by rfl) (d:(NY es X.env).findIdx? (·.1)=none:=by rfl):PG X (.Tuple es k pos) (Fj X.K t):=by
 intro O9 s σ H v u Q I r f
 let⟨a,x,y,j,hq,f⟩:=f
 subst j
 cases r
 let⟨c,p,m,B⟩:=I.list hq
 let⟨z,A,rfl,l,i⟩:=gF p
 rw[assign_Tuple]
 show Ja (wpAny_standAt (xG (I.ok.hd g) m.isList w d λh' q=>?_))
 let n:aG X O9 σ H {s with heap:=h'}:=I.kept (t':=s.toks) λb o e=>q b o (Jm (Jj e)) e
 show h O9 _ σ H [x,y] _ Q n (.cons l (.cons i .nil)) f
end
def Fq (P:N8) (c:O2) (qual:Nh) (mk:N8->N7->Nv):TE:=λ_ H Q=>∃ps,H P>.tbl ps/\TriplesOk ps.toList/\
 ((codeAmong c ps.toList=none/\∀f a e d HH,H f=none->H a=none->f≠a->kh e a qual->(∀b x,H b>x->b≠P->HH b>x)->HH P>.tbl (ps++ #[NJ c.line,NJ c.col,.ref a])->HH a>iq a e->HH f>iq f (mk a d)->Q (.ref f) HH)\/
  ∃a,codeAmong c ps.toList>.ref a/\∀f d,H f=none->Q (.ref f) (Oc H f (iq f (mk a d))))
theorem CA{k:-(Nh×N8)}(m:defaultsOf params X.env=([],[]))(p:closureFor scope X.env=pure k)(l:X.env.code=.ref c)
  (B:LA X.K c P=true) (C:X.Oa.BuiltinsAt X.mg P) (A:Nj≠P):
  PE X (.Lambda params body scope pos) (Fq P pos (X.env.qual++ "<lambda>") λc' j=>Kk "<lambda>" (X.env.qual++ "<lambda>") params body scope k ((X.mg "__name__").getD .none) c' j):=by
 intro O9 s σ H Q I h
 let⟨ps,w,h1,h⟩:=h
 rcases h with ⟨h2,q⟩|⟨c',F,q⟩
 ·show E8 m p l B C A O9 s σ H Q I ⟨ps,w,h1,h2,λf c' S j y z D n=>?_⟩
  let i:P≠c':=aq w z
  let g:P≠f:=aq w y
  show q f c' S j _ y z D n (λb x e hb=>?_) ?_ ?_ af
  ·rw[aj (aq e y),aj (aq e z),aj hb];show e
  ·rw[aj g,aj i,af]
  ·rw[aj D.symm,af]
 ·let d:s.heap.get? P>PySem.W.tabObj ps:=I.hok P _ w
  show PySem.W.kla_eval m (PySem.W.kla_makeFunctionHit p I.ok.glob (I.mod.glob.keeps I.bk) l (PySem.W.codeHd_of_K I.kIn B) d h1 F
   (by let⟨R,o,h1,h2,N,J,O,r⟩:=C;show⟨R,o,h1,h2,N,J,I.bk _ _ O,r⟩) λj h' L M v=>?_)
  let E:=I.laid (a:=h'.objs.size) (o:=iq h'.objs.size (Kk "<lambda>" (X.env.qual++ "<lambda>") params body scope k ((X.mg "__name__").getD .none) c' j)) (t':=L) (h':=h'.push (Kk "<lambda>" (X.env.qual++ "<lambda>") params body scope k ((X.mg "__name__").getD .none) c' j))
   (λb u e=>Ji _ (M b u e)) v (lV (Jp _ Z))
  show⟨.ref h'.objs.size,_,E,Z,q _ j (I.hok.none_of (Ku v))⟩
theorem zp {a b:N8}{c d:-Int}(I:aG X O9 σ H s)(h1:H a>.tup (d.map V.int))(f:H b>.tup (c.map V.int))(k:A.units+60<NF):SeqAt.EqAt A s (.ref a) (.ref b) (decide (d=c)):=by
 let⟨j,h⟩:=(Dp.ints (K:=X.K) (ns:=d) (bh.of h1)).reads I (u:=.ref a) Z
 let⟨i,g⟩:=(Dp.ints (K:=X.K) (ns:=c) (bh.of f)).reads I (u:=.ref b) Z
 let e:=dB d
 rw[<-gB]
 show SeqAt.eqAt_reads _ _ _ _ _ _ _ _ h g (Dp.ints (K:=X.K) (H:=H) (bh.of h1)).lay (Dp.ints (K:=X.K) (H:=H) (bh.of f)).lay ()
def lZ (H:Hp) (a:N8) (c:-Int×-Int):Prop:=∃x y,H a>.tup [.ref x,.ref y]/\H x>.tup (c.1.map V.int)/\H y>.tup (c.2.map V.int)
theorem lZ.one{c d:-Int×-Int}(h:lZ H a c)(g:lZ H a d):c=d:=by
 let⟨x,y,j,i,k⟩:=h
 let⟨m,l,f,b,e⟩:=g
 rw[j] at f;cases f
 rw[i] at b;injection b with b;injection b with b
 rw[k] at e;injection e with e;injection e with e
 show Prod.ext (fI b) (fI e)
theorem Ei{c d:-Int×-Int}(I:aG X O9 σ H s)(h1:lZ H a d)(f:lZ H b c)(J:A.units+62<NF):SeqAt.EqAt A s (.ref a) (.ref b) (decide (d=c)):=by
 by_cases ne:a=b
 ·subst ne
  rw[N3 (h1.one f)]
  show SeqAt.EqAt.same _
 let⟨x,y,n,m,v⟩:=h1
 let⟨i,g,r,u,C⟩:=f
 let⟨i1,o,q,_⟩:=I.tuple (bh.of n)
 let⟨i2,k,p2,_⟩:=I.tuple (bh.of r)
 let⟨K,E,rfl,p,w⟩:=gF o
 let⟨D,F,rfl,B,l⟩:=gF k
 cases p;cases w;cases B;cases l
 let z:=SeqAt.RcAt.tuples (A:=A) (e:=λj=>if j=0 then decide (d.1=c.1) else decide (d.2=c.2)) q p2 () (λj h1 f=>by
  have:j<2:=h1
  have:j=0\/j=1:=by lia
  rcases this with rfl|rfl
  ·show zp (A:=A.in1) I m u (by change A.units+1+60<NF;lia)
  ·show zp (A:=A.in1) I v C (by change A.units+1+60<NF;lia))
 let e:((List.range (min #[N7.ref x,N7.ref y].size #[N7.ref i,N7.ref g].size)).all (λj=>if j=0 then decide (d.1=c.1) else decide (d.2=c.2))&& #[N7.ref x,N7.ref y].size== #[N7.ref i,N7.ref g].size)=decide (d=c):=by
  change((List.range 2).all _&&true)=_
  rw[Bool.and_true,KJ,decide_eq_true_iff]
  constructor
  ·intro h
   let h:=JV.mp h
   show Prod.ext (N4 (h 0 (by simp))) (N4 (h 1 (by simp)))
  ·rintro rfl
   simp
 rw[<-e]
 show SeqAt.EqAt.of_refs ne z
noncomputable def G2 (H:Hp) (c:-Int×-Int) (u:N7):Bool:=match u with
 | .ref a=> @decide (lZ H a c) (Classical.propDecidable _)
 |_=>false
theorem z0 {c d:-Int×-Int}(h:lZ H a d):G2 H c (.ref a)=decide (d=c):=by
 change @decide (lZ H a c) (Classical.propDecidable _)=decide (d=c)
 by_cases e:d=c
 ·subst e
  rw[N3 (rfl:d=d)]
  show @N3 _ (Classical.propDecidable _) h
 ·rw[N5 e]
  show @N5 _ (Classical.propDecidable _) λz=>e (h.one z)
noncomputable def FI:V->-V->Hp->VK->Prop:=λx vs H Q=>∃l b as c cs,x=.ref l/\vs=[.ref b]/\lZ H b c/\H l>.lst (as.map V.ref)/\Nb (lZ H) as cs/\c∈cs/\
 ∀j:Nat,cs[j]?>c->Q .non (Oc H l (.lst ((as.eraseIdx j).map V.ref)))
theorem pW {d c:Type}{R:d->c->Prop}{as:-d}{bs:-c}(h:Nb R as bs):∀{i:Nat} {b:c},bs[i]?>b->∃a,as[i]?>a/\R a b:=by
 induction h with
 |nil=>intro i b e;cases e
 |cons r t ih=>
  intro i b e
  cases i with
  |zero=>cases e;show⟨_,Z,r⟩
  |succ i=>show ih e
theorem uk(N:aR k X.A):Do X "list.remove" FI:=by
 intro O9 s σ H x vs v P Q I K M h
 let⟨l,b,as,c,cs,rfl,rfl,hb,hp,ht,E,q⟩:=h
 cases K
 let⟨u,rfl,L⟩:=dZ M
 cases L
 let⟨z,o,n,r,S,e⟩:=I.lstM hp
 cases eP r
 let⟨j,w,O⟩:=sJ E
 let⟨a,ha,g⟩:=pW ht w
 let R:=N.units
 let J:j<↑as:=(Js.mp ha).1
 let len:↑as=↑cs:=Nb.length ht
 let C:∀m (hm:m<(as.map N7.ref).toArray.size) (d:-Int×-Int),cs[m]?>d->G2 H c (as.map N7.ref).toArray[m]=decide (d=c):=λm hm d p=>by
  let⟨a,ha,g⟩:=pW ht p
  have:(as.map N7.ref).toArray[m]=.ref a:=by
   have:=Js.mp ha
   simp[this.2]
  rw[this]
  show z0 g
 let D:j<(as.map N7.ref).toArray.size:=by simp;show J
 show call_meets PySem.F.slot_list_remove ⟨_,e,Z⟩ PySem.F.entry_list_remove (PySem.F.args_list_remove_2 _ _)
  (Cw l (as.map N7.ref).toArray n (.ref b) (G2 H c) j D (by rw[C j D c w];simp) (by simp at z|-;show z) (λm hm lt=>?_)) ⟨e,λy B=>?_,?_⟩
 ·let f:m<↑cs:=by simp at hm;lia
  rw[C m hm cs[m] (JI f)]
  show N5 λz=>O m lt (by rw[JI f,z])
 ·let B:y∈as.map N7.ref:=by simpa using B
  let⟨a,ha,rfl⟩:=Jh.mp B
  let⟨i,hi⟩:=KG.mp ha
  let⟨d,_,p⟩:=gC ht hi
  rw[z0 p]
  show Ei I p hb (by change X.A.units+1+62<NF;lia)
 ·show⟨.non,_,I.lset (its':=(as.eraseIdx j).map N7.ref) hp e ?_ ?_ ?_,Z,q j w⟩
  ·apply Array.ext'
   rw[Array.toList_eraseIdxIfInBounds,fi]
  ·show eY _
  ·rw[Jb]
   rw[Jb] at z
   show Jt (List.length_eraseIdx_le ..) z
def Ig (K:Je) (H:Hp) (v c:V):Prop:=FO K H v c\/∃a b xs,v=.ref a/\c=.ref b/\a≠b/\aM K H a xs/\aM K H b xs/\∀x∈xs,jX x=true
theorem ml(I:aG X O9 σ H s)(a:a8 xs i1)(d:a8 xs i2)(ok:∀x∈xs,jX x=true)(j:Nat)(h1:j<i1.toArray.size)(g:j<i2.toArray.size):SeqAt.EqAt A s i1.toArray[j] i2.toArray[j] true:=by
 let b:j<↑i1:=by simpa using h1
 let h:j<↑i2:=by simpa using g
 let c:j<↑xs:=↑a<|b
 let f:=gI a j b
 let e:=gI d j h
 have:=vQ (A:=A) (s:=s) (ok _ (JP<|JI c<|List.getElem_mem c)) f e
 simpa using this
theorem Ez(I:aG X O9 σ H s)(h:Ig X.K H v v')(r:aY v u)(c:aY v' u')(i:A.units+62<NF):SeqAt.EqAt A s u u' true:=by
 rcases h with h|⟨a,b,xs,rfl,rfl,k,h1,h2,ok⟩
 ·show Cp I h r c i
 ·cases(show u=N7.ref a from r)
  cases(show u'=N7.ref b from c)
  let⟨i1,f,g,_⟩:=I.list h1
  let⟨i2,d,p2,_⟩:=I.list h2
  let l1:=↑f
  let l2:=↑d
  let z:=SeqAt.RcAt.lists (A:=A) (e:=λ_=>true) g.isList p2.isList (by simp;lia) () (λj h1 h2=>ml I f d ok j h1 h2)
  rw[jO] at z
  show SeqAt.EqAt.of_refs k z
def Gj (K:Je):R2:=λx y H Q=>∃a b xs ys,x=.ref a/\y=.ref b/\aM K H a xs/\aM K H b ys/\↑xs=↑ys/\(∀i,i<↑xs->Ig K H (xs.getD i .non) (ys.getD i .non))/\Q (.bl false) H
theorem Cv(o:aR k X.A):fZ X (Nk .NotEq) (Gj X.K):=by
 intro O9 s σ H x y v u Q I m g h
 let⟨a,b,xs,ys,rfl,rfl,r,p,z,hs,q⟩:=h
 cases(show v=N7.ref a from m)
 cases(show u=N7.ref b from g)
 let B:=o.units
 let⟨i1,f,l,_⟩:=I.list r
 let⟨i2,d,p2,_⟩:=I.list p
 let l1:=↑f
 let l2:=↑d
 let c:i1.toArray.size=i2.toArray.size:=by simp;lia
 show SeqAt.RcNeAt.lists (e:=λ_=>true) l.isList p2.isList c () (λj h1 h2=>?_) X.prog X.w X.xe _ ?_
 ·let n:j<↑i1:=by simpa using h1
  let i:j<↑i2:=by simpa using h2
  show Ez (A:=X.A.in1) I (hs j ()) (by simpa using gI f j n) (by simpa using gI d j i) (show X.A.units+1+62<NF by lia)
 ·rw[jO];simp only[Bool.not_true];show⟨.bl false,H,I,Z,q⟩
def Gg (K:Je):R2:=λx y H Q=>∃a b xs,x=.ref a/\y=.ref b/\aM K H a xs/\aM K H b xs/\(∀x∈xs,jX x=true)/\Q (.bl false) H
theorem CL(f:aR k X.A):fZ X (Nk .NotEq) (Gg X.K):=by
 intro O9 s σ H x y v u Q I m l h
 let⟨a,b,xs,rfl,rfl,n,i,ok,q⟩:=h
 cases(show v=N7.ref a from m)
 cases(show u=N7.ref b from l)
 let o:=f.units
 let⟨i1,d,g,_⟩:=I.list n
 let⟨i2,c,p2,_⟩:=I.list i
 let l1:=↑d
 let l2:=↑c
 show SeqAt.RcNeAt.lists (e:=λ_=>true) g.isList p2.isList (by simp;lia) () (λj h1 h2=>ml I d c ok j h1 h2) X.prog X.w X.xe _ ?_
 rw[jO];simp only[Bool.not_true];show⟨.bl false,H,I,Z,q⟩
def FN (K:Je):R2:=λx y H Q=>FO K H x y/\Q (.bl false) H
theorem Cu(l:aR k X.A):fZ X (Nk .NotEq) (FN X.K):=by
 intro O9 s σ H x y v u Q I i g h
 let⟨⟨a,b,p,kb,rfl,rfl,B,ha,hb,z,C,j,hs⟩,q⟩:=h
 cases(show v=N7.ref a from i)
 cases(show u=N7.ref b from g)
 let w:=l.units
 let⟨_,n,o,c,f⟩:=ic I.hok ha
 let⟨_,m,vb,d,e⟩:=ic I.hok hb
 show BD (r:=true) (NB ()) () n m f e (λ_=>ie.all (yH I c d (show X.A.units+1+60<NF by lia) hs)) ?_
 rw[<-Nb.length c,<-Nb.length d,j,beq_self_eq_true]
 show⟨.bl false,H,I,Z,q⟩
theorem xu{j:-(Bool×(N7->Sem Unit))}{Q:Unit->N_->Prop}(B:A.handled=none)(k:s.heap.IsList l #[x,y,z,t])(I:↑j=4)(H:j.findIdx? (·.1)=none)
  (h:∀h',K8 (~~~s) s.heap h'->Na (Nd prog w) A (assignInOrder (j.map (·.2)) [x,y,z,t]) Q E {s with heap:=h'}):Na (Nd prog w) A (unpack (.ref l) j) Q E s:=by
 let u:l≠~~~s:=by
  let⟨o,r,_⟩:=k
  show Jm (Jj r)
 let a:∀{h h':Ng},Ng.SameBut (~~~s) h h'->h.IsList l #[x,y,z,t]->h'.IsList l #[x,y,z,t]:=λb z=>z.at λo e=>b.extBut _ _ u e
 unfold unpack
 rw[I,H]
 show Ja (Jy ?_)
 unfold unpackItems
 show Ja ?_
 unfold notIterableAtAll
 show Ja (KN k.typeIs PySem.F.slot_list_iter.lookup (Jc ?_))
 simp only[Kq,if_false]
 let c:(s.heap.push {cls:=.type "list_iterator",data:=.fields #[.ref l,.int 0 0]}).IsList l #[x,y,z,t]:=k.at λo e=>Ji _ e
 show Ja (Jy (Kw k ?_))
 show Ja (Jy ?_)
 change Na _ _ (NH (.ref (~~~s))>>=_) _ _ _
 show Ja (KZ (i:=0) (x:=x) ⟨_,Jp _ Z,Z,Z⟩ c Z λh1 i1 p=>?_)
 let g:=a p c
 show Ja (Jy ?_)
 change Na _ _ (NH (.ref (~~~s))>>=_) _ _ _
 show Ja (KZ (i:=1) (x:=y) i1 g Z λh2 i2 b2=>?_)
 let d:=a b2 g
 show Ja (Jy ?_)
 change Na _ _ (NH (.ref (~~~s))>>=_) _ _ _
 show Ja (KZ (i:=2) (x:=z) i2 d Z λJ v m=>?_)
 let f:=a m d
 show Ja (Jy ?_)
 change Na _ _ (NH (.ref (~~~s))>>=_) _ _ _
 show Ja (KZ (i:=3) (x:=t) v f Z λK D n=>?_)
 show Ja (Jy ?_)
 show Jc (Jc (Jc (Jc (Jc ?_))))
 rw[N0 (by simp)]
 show Ja (Jy (wpAny_pyNext_list_end B (i:=4) D (a n f) Z λC q=>?_))
 simp only[Option.isSome_none,Kq,if_false]
 show Jc (h C λb o hb e=>q b o hb (n.extBut b o hb (m.extBut b o hb (b2.extBut b o hb (p.extBut b o hb (Ji _ e))))))
section
variable {pos:O2}
def FJ (K:Je) (t:C7):TG:=λv σ H Q=>∃a x y z u,v=.ref a/\aM K H a [x,y,z,u]/\t [x,y,z,u] σ H Q
theorem v_(i:X.calm=true)(h:EY X es t)
  (C:↑(NY es X.env)=4:=by rfl) (d:(NY es X.env).findIdx? (·.1)=none:=by rfl):PG X (.Tuple es k pos) (FJ X.K t):=by
 intro O9 s σ H v u Q I r f
 let⟨a,x,y,z,g,l,hq,f⟩:=f
 subst l
 cases r
 let⟨c,A,n,D⟩:=I.list hq
 rcases A with _|⟨m,_|⟨j,_|⟨w,_|⟨p,_|_⟩⟩⟩⟩
 rw[assign_Tuple]
 show Ja (wpAny_standAt (xu (I.ok.hd i) n.isList C d λh' B=>?_))
 let q:aG X O9 σ H {s with heap:=h'}:=I.kept (t':=s.toks) λb o e=>B b o (Jm (Jj e)) e
 show h O9 _ σ H [x,y,z,g] _ Q q (.cons m (.cons j (.cons w (.cons p .nil)))) f
end
theorem Bg (e:X.K=K):GN X (Gn K):=by subst e;show kB
def HJ:R2:=λx y H Q=>∃a b,x=.bl a/\y=.bl b/\Q (.bl (!(a==b))) H
theorem AE:fZ X (Nk .NotEq) HJ:=by
 intro O9 s σ H x y v u Q I c d h
 let⟨a,b,rfl,rfl,q⟩:=h
 cases c
 cases d
 show SeqAt.RcNeAt.bool_bool a b X.prog X.w X.xe _ ⟨.bl _,H,I,Z,q⟩
def Hc:R2:=λx y H Q=>∃a b,x=.bl a/\y=.bl b/\Q (.bl (a==b)) H
theorem D7:fZ X (Nk .Eq) Hc:=by
 intro O9 s σ H x y v u Q I c d h
 let⟨a,b,rfl,rfl,q⟩:=h
 cases c
 cases d
 show SeqAt.RcAt.bool_bool a b X.prog X.w X.xe _ ⟨.bl _,H,I,Z,q⟩
def Gq (K:Je):R2:=λx y H Q=>∃a b xs,x=.ref a/\y=.ref b/\aM K H a xs/\aM K H b xs/\(∀x∈xs,jX x=true)/\Q (.bl true) H
theorem CM(f:aR k X.A):fZ X (Nk .Eq) (Gq X.K):=by
 intro O9 s σ H x y v u Q I m l h
 let⟨a,b,xs,rfl,rfl,n,i,ok,q⟩:=h
 cases(show v=N7.ref a from m)
 cases(show u=N7.ref b from l)
 let o:=f.units
 let⟨i1,d,g,_⟩:=I.list n
 let⟨i2,c,p2,_⟩:=I.list i
 let l1:=↑d
 let l2:=↑c
 show SeqAt.RcAt.lists (e:=λ_=>true) g.isList p2.isList (by simp;lia) () (λj h1 h2=>ml I d c ok j h1 h2) X.prog X.w X.xe _ ?_
 rw[jO];show⟨.bl true,H,I,Z,q⟩
end L2
namespace Wr
variable {α:Type} [DecidableEq α]
noncomputable def adj (W:-(α×α)) (x:α):-α:=W.filterMap λe=>if e.1=x then some e.2 else if e.2=x then some e.1 else none
structure Sim (W:-(α×α)):Prop where
 ne:∀e∈W,e.1≠e.2
 nd:∀x,(adj W x).Nodup
variable {W:-(α×α)} {a b:-α}
theorem mem_adj (S:Sim W){x y:α}:y∈adj W x↔(x,y)∈W\/(y,x)∈W:=by
 unfold adj
 rw[KW]
 constructor
 ·rintro⟨e,a,h⟩
  by_cases h1:e.1=x
  ·rw[N1 h1] at h
   cases h
   show .inl (by rw[<-h1];show a)
  ·rw[N0 h1] at h
   by_cases h2:e.2=x
   ·rw[N1 h2] at h
    cases h
    show .inr (by rw[<-h2];show a)
   ·rw[N0 h2] at h
    cases h
 ·rintro(h|h)
  ·show⟨_,h,N1 Z⟩
  ·show⟨_,h,?_⟩
   have:=S.ne _ h
   rw[N0 this,N1 Z]
theorem adj_symm (S:Sim W){x y:α}(h:y∈adj W x):x∈adj W y:=by
 rw[mem_adj S] at h|-
 show h.symm
theorem uW (S:Sim W){x y:α}(h:y∈adj W x):y≠x:=by
 rcases(mem_adj S).mp h with z|z
 ·show(S.ne _ z).symm
 ·show S.ne _ z
noncomputable def onw (W:-(α×α)) (p h:α):α:=
 match adj W h with
 |u::v::_=>if u=p then v else u
 |_=>h
noncomputable def tr (W:-(α×α)) (s:α):Nat->α
 |0=>s
 |1=>(adj W s).headD s
 |k+2=>onw W (tr W s k) (tr W s (k+1))
theorem two_of {l:-α}(h:↑l=2):∃u v,l=[u,v]:=by
 rcases l with _|⟨u,_|⟨v,_|⟨w,r⟩⟩⟩
 ·cases h
 ·cases h
 ·show⟨u,v,Z⟩
 ·cases h
structure OkTo (W:-(α×α)) (s:α) (n:Nat):Prop where
 d1:↑(adj W s)=1
 d2:∀i,0<i->i<n->↑(adj W (tr W s i))=2
theorem OkTo.le {s:α}(O:OkTo W s n)(h:m<=n):OkTo W s m:=⟨O.d1,λi a hi=>O.d2 i a (JM hi h)⟩
theorem tr_adj {s:α}(O:OkTo W s n){i:Nat}(b:i<n):tr W s (i+1)∈adj W (tr W s i):=by
 cases i with
 |zero=>
  let⟨a,_⟩:=O
  change(adj W s).headD s∈adj W s
  rcases e:adj W s with _|⟨u,r⟩
  ·rw[e] at a;cases a
  ·show JA
 |succ i=>
  let⟨u,v,e⟩:=two_of (O.d2 (i+1) (KH _) b)
  change onw W (tr W s i) (tr W s (i+1))∈_
  unfold onw
  rw[e]
  dsimp only
  split
  ·simp
  ·simp
theorem oK {s:α}(S:Sim W)(O:OkTo W s n){i:Nat}(a:i+1<n):tr W s (i+2)≠tr W s i:=by
 let⟨u,v,e⟩:=two_of (O.d2 (i+1) (KH _) a)
 let nd:=S.nd (tr W s (i+1))
 rw[e] at nd
 let b:u≠v:=λz=>by rw[z] at nd;simp at nd
 change onw W (tr W s i) (tr W s (i+1))≠_
 unfold onw
 rw[e]
 dsimp only
 by_cases h:u=tr W s i
 ·rw[N1 h,<-h];show b.symm
 ·rw[N0 h];show h
theorem uB {s:α}(S:Sim W)(O:OkTo W s n){i:Nat}(a:i+1<n){y:α}(h:y∈adj W (tr W s (i+1))):y=tr W s i\/y=tr W s (i+2):=by
 let⟨u,v,e⟩:=two_of (O.d2 (i+1) (KH _) a)
 let h1:=adj_symm S (tr_adj O (i:=i) ())
 let h2:=tr_adj O a
 let b:=oK S O a
 rw[e] at h h1 h2
 simp only[Jk,JJ,or_false] at h h1 h2
 rcases h with rfl|rfl<;>rcases h1 with h1|h1<;>rcases h2 with h2|h2<;>first|show .inl h1.symm|show .inr h2.symm|show absurd (h2.trans h1.symm) b
theorem zJ {s:α}(S:Sim W):∀{n:Nat},OkTo W s n->∀{i j:Nat},i<j->j<=n->tr W s i≠tr W s j:=by
 intro n O i j
 induction j using Nat.strongRecOn generalizing i with
 |ind j ih=>
  intro d b e
  obtain⟨j,rfl⟩:∃k,j=k+1:=⟨j - 1,()⟩
  let hp:=tr_adj O (i:=j) b
  let hb:=adj_symm S hp
  rw[<-e] at hb
  cases i with
  |zero=>
   let h1:=tr_adj O (i:=0) ()
   let a:=O.d1
   have:tr W s j=tr W s 1:=by
    change tr W s j∈adj W s at hb
    change tr W s 1∈adj W s at h1
    rcases e2:adj W s with _|⟨u,_|⟨v,r⟩⟩
    ·rw[e2] at a;cases a
    ·rw[e2] at hb h1
     rw[Jg.mp hb,Jg.mp h1]
    ·rw[e2] at a;cases a
   by_cases c:j=0
   ·subst c
    show uW S hp e.symm
   ·by_cases c2:j=1
    ·subst c2
     show oK S O (i:=0) () e.symm
    ·show ih j (J9 _) (i:=1) () () this.symm
  |succ i=>
   rcases uB S O (i:=i) () hb with z|z
   ·show ih j (J9 _) (i:=i) () () z.symm
   ·by_cases c:j=i+2
    ·subst c
     show oK S O (i:=i+1) () e.symm
    ·by_cases c2:j=i+1
     ·subst c2
      show uW S hp e.symm
     ·show ih j (J9 _) (i:=i+2) () () z.symm
theorem sub_len {xs ys:-α}(a:xs.Nodup)(h:∀x∈xs,x∈ys):↑xs<=↑ys:=by
 induction xs generalizing ys with
 |nil=>show Ju _
 |cons x r ih=>
  rw[JE] at a
  let c:=h x JA
  have:=ih (ys:=ys.erase x) a.2 λy b=>(List.mem_erase_of_ne (show y≠x from λz=>a.1 (by rw[<-z];show b))).mpr (h y (JC _ b))
  rw[List.length_erase_of_mem c] at this
  have:=LU c
  rw[JY]
  lia
theorem DV {xs ys:-α}(d:xs.Nodup)(h:∀x∈xs,x∈ys)(l:↑ys<=↑xs){y:α}(a:y∈ys):y∈xs:=by
 by_cases c:y∈xs
 ·show c
 ·have:=sub_len (xs:=y::xs) (ys:=ys) (JE.mpr ⟨c,d⟩) λx b=>by
   rcases Jk.mp b with rfl|z
   ·show a
   ·show h x z
  rw[JY] at this
  lia
theorem few (S:Sim W){s:α}{n:Nat}(O:OkTo W s n)(h1:1<=n):n+1<=2*↑W:=by
 let nd:((List.range (n+1)).map (tr W s)).Nodup:=by
  show List.pairwise_map.mpr (List.Pairwise.imp_of_mem (fun{i j} hi c h=>?_) List.pairwise_lt_range)
  show zJ S O h (by rw[J8] at c;lia)
 have:=sub_len nd (ys:=W.map (·.1)++W.map (·.2)) λx b=>by
  let⟨i,hi,rfl⟩:=Jh.mp b
  rw[J8] at hi
  let a:∃y,tr W s i∈adj W y:=by
   cases i with
   |zero=>show⟨_,adj_symm S (tr_adj O (i:=0) ())⟩
   |succ i=>show⟨_,tr_adj O ()⟩
  let⟨y,d⟩:=a
  rw[Jz]
  rcases(mem_adj S).mp d with z|z
  ·show .inr (JG (f:=(·.2)) z)
  ·show .inl (JG (f:=(·.1)) z)
 rw[Jb,Ks,Jo,Jb,Jb] at this
 lia
noncomputable def GD (W:-(α×α)) (s:α):Nat->Nat->Nat
 |0,k=>k
 |f+1,k=>if ↑(adj W (tr W s k))=2 then GD W s f (k+1) else k
def wl (W:-(α×α)) (s:α):Nat:=GD W s (2*↑W) 1
structure Wk (W:-(α×α)) (s:α) (n:Nat):Prop where
 n1:1<=n
 ok:OkTo W s n
 en:↑(adj W (tr W s n))≠2
theorem OkTo.one {s:α}(h:↑(adj W s)=1):OkTo W s 1:=⟨h,λi a hi=>by lia⟩
theorem OkTo.succ {s:α}(O:OkTo W s n)(h:↑(adj W (tr W s n))=2):OkTo W s (n+1):=⟨O.d1,λi a hi=>by
 by_cases c:i=n
 ·rw[c];show h
 ·show O.d2 i a ()⟩
theorem DM (S:Sim W){s:α}(f:Nat):∀k,1<=k->OkTo W s k->2*↑W+1<=f+k->Wk W s (GD W s f k):=by
 induction f with
 |zero=>
  intro k h1 O h
  have:=few S O h1
  lia
 |succ f ih=>
  intro k h1 O h
  unfold GD
  by_cases c:↑(adj W (tr W s k))=2
  ·rw[N1 c]
   show ih (k+1) () (O.succ c) ()
  ·rw[N0 c]
   show⟨h1,O,c⟩
theorem wl_ok (S:Sim W){s:α}(h:↑(adj W s)=1):Wk W s (wl W s):=DM S _ 1 (Jd _) (OkTo.one h) (Jd _)
theorem Wk.same {s:α}(A:Wk W s n)(B:Wk W s m):n=m:=by
 rcases Nat.lt_trichotomy n m with h|h|h
 ·show absurd (B.ok.d2 n A.n1 h) A.en
 ·show h
 ·show absurd (A.ok.d2 m B.n1 h) B.en
structure PV (W:-(α×α)) (a b:-α):Prop where
 p1:∀x,↑(adj W x)<=2
 p2:∀s∈a,↑(adj W s)=1
 p3:∀g∈b,↑(adj W g)<=1
 p4:∀s∈a,tr W s (wl W s)∈b
 p5:(a.map (wl W)).sum=↑W
structure LV (W:-(α×α)) (a b:-α):Prop where
 l2:∀s∈a,↑(adj W s)=1
 l3:∀s∈a,∀i,0<i->i<wl W s->tr W s i∉a/\tr W s i∉b
 l4:∀s∈a,tr W s (wl W s)∈b/\↑(adj W (tr W s (wl W s)))=1
 l5:(a.map (wl W)).sum=↑W
theorem PV.lv (S:Sim W)(P:PV W a b):LV W a b:=by
 show⟨P.p2,λs hs i e hi=>?_,λs hs=>⟨P.p4 s hs,?_⟩,P.p5⟩
 ·let d:=(wl_ok S (P.p2 s hs)).ok.d2 i e hi
  show⟨λz=>by have:=P.p2 _ z;lia,λz=>by have:=P.p3 _ z;lia⟩
 ·let w:=wl_ok S (P.p2 s hs)
  have:=P.p3 _ (P.p4 s hs)
  obtain⟨n,c⟩:∃n,wl W s=n+1:=⟨wl W s - 1,by have:=w.n1;lia⟩
  let h:=adj_symm S (tr_adj (c▸w.ok:OkTo W s (n+1)) (i:=n) (J9 _))
  rw[c] at this|-
  have:=LU h
  lia
section
variable (S:Sim W) (Q:LV W a b) (dj:∀s∈a,s∉b)
include S Q dj
theorem LV.bw {s r:α}(h:s∈a)(g:r∈a):∀{i j:Nat},i<wl W s->j<wl W r->¬(tr W s i=tr W r (j+1)/\tr W s (i+1)=tr W r j):=by
 let f:=wl_ok S (Q.l2 s h)
 let wr:=wl_ok S (Q.l2 r g)
 intro i
 induction i with
 |zero=>
  rintro j hi l ⟨e,k⟩
  by_cases c:j+1<wl W r
  ·show(Q.l3 r g (j+1) (KH _) c).1 (e▸h)
  ·have:j+1=wl W r:=by lia
   rw[this] at e
   show dj s h (show tr W s 0∈b by rw[e];show(Q.l4 r g).1)
 |succ i ih=>
  rintro j hi l ⟨e,k⟩
  let d:=f.ok.d2 (i+1) (KH _) hi
  let c:j+1<wl W r:=by
   by_cases c:j+1<wl W r
   ·show c
   ·have:j+1=wl W r:=by lia
    rw[e,this] at d
    show absurd d wr.en
  show ih (j:=j+1) () c ⟨?_,e⟩
  let hb:=adj_symm S (tr_adj f.ok (i:=i) ())
  rw[e] at hb
  rcases uB S wr.ok (i:=j) c hb with z|z
  ·rw[<-k] at z
   show absurd z.symm (oK S f.ok hi)
  ·show z
theorem LV.fw {s r:α}(e:s∈a)(d:r∈a):∀{i j:Nat},i<wl W s->j<wl W r->tr W s i=tr W r j->tr W s (i+1)=tr W r (j+1)->s=r/\i=j:=by
 let g:=wl_ok S (Q.l2 s e)
 let wr:=wl_ok S (Q.l2 r d)
 intro i
 induction i with
 |zero=>
  intro j hi c b f
  cases j with
  |zero=>show⟨b,Z⟩
  |succ j=>show absurd (b▸e) (Q.l3 r d (j+1) (KH _) c).1
 |succ i ih=>
  intro j hi c b f
  cases j with
  |zero=>show absurd (b.symm▸d:tr W s (i+1)∈a) (Q.l3 s e (i+1) (KH _) hi).1
  |succ j=>
   let hb:=adj_symm S (tr_adj g.ok (i:=i) ())
   rw[b] at hb
   rcases uB S wr.ok (i:=j) c hb with z|z
   ·let⟨h1,h2⟩:=ih (j:=j) () () z b
    show⟨h1,by rw[h2]⟩
   ·rw[<-f] at z
    show absurd z.symm (oK S g.ok hi)
end
noncomputable def zw (W:-(α×α)) (a:-α):-(α×α):=a.flatMap λs=>(List.range (wl W s)).flatMap λi=>[(tr W s i,tr W s (i+1)),(tr W s (i+1),tr W s i)]
theorem AU (W:-(α×α))(a:-α):↑(zw W a)=2*(a.map (wl W)).sum:=by
 unfold zw
 induction a with
 |nil=>rfl
 |cons s r ih=>
  rw[List.flatMap_cons,Jo,ih,Jq,List.sum_cons]
  have:∀n,↑((List.range n).flatMap λi=>[(tr W s i,tr W s (i+1)),(tr W s (i+1),tr W s i)])=2*n:=λn=>by
   induction n with
   |zero=>rfl
   |succ n ih=>rw[List.range_succ,List.flatMap_append,Jo,ih];simp;lia
  rw[this]
  lia
theorem LV.nd (S:Sim W)(Q:LV W a b)(l:∀s∈a,s∉b)(m:a.Nodup):(zw W a).Nodup:=by
 let c:∀s∈a,∀r∈a,∀i j,i<wl W s->j<wl W r->¬(s=r/\i=j)->∀x∈[(tr W s i,tr W s (i+1)),(tr W s (i+1),tr W s i)],∀y∈[(tr W r j,tr W r (j+1)),(tr W r (j+1),tr W r j)],x≠y:=by
  intro s hs r hr i j hi d k x g y f e
  subst e
  simp only[Jk,JJ,or_false] at g f
  rcases g with rfl|rfl<;>rcases f with h|h<;>(injection h with h1 h2)
  ·show k (Q.fw S l hs hr hi d h1 h2)
  ·show Q.bw S l hs hr hi d ⟨h1,h2⟩
  ·show Q.bw S l hr hs d hi ⟨h1.symm,h2.symm⟩
  ·show k (Q.fw S l hs hr hi d h2 h1)
 unfold zw
 show List.pairwise_flatMap.mpr ⟨λs hs=>List.pairwise_flatMap.mpr ⟨λi hi=>?_,?_⟩,?_⟩
 ·rw[J8] at hi
  let w:=wl_ok S (Q.l2 s hs)
  have:=uW S (tr_adj w.ok hi)
  show List.pairwise_cons.mpr ⟨λy f e=>?_,List.pairwise_singleton _ _⟩
  rw[Jg.mp f] at e
  injection e with e1 _
  show this e1.symm
 ·show List.Pairwise.imp_of_mem (fun{i j} hi d h=>?_) List.pairwise_lt_range
  rw[J8] at hi d
  show c s hs s hs i j hi d λz=>by lia
 ·show List.Pairwise.imp_of_mem (fun{s r} hs hr h=>?_) m
  intro x g y f
  let⟨i,hi,g⟩:=Li.mp g
  let⟨j,d,f⟩:=Li.mp f
  rw[J8] at hi d
  show c s hs r hr i j hi d (λz=>h z.1) x g y f
theorem LV.pv (S:Sim W)(Q:LV W a b)(o:∀s∈a,s∉b)(m:a.Nodup):PV W a b:=by
 let d:∀x y,y∈adj W x->∃s∈a,∃i,i<=wl W s/\tr W s i=x:=λx y n=>by
  let sub:∀e∈zw W a,e∈W++W.map λe=>(e.2,e.1):=λe k=>by
   let⟨s,hs,k⟩:=Li.mp k
   let⟨i,hi,k⟩:=Li.mp k
   rw[J8] at hi
   let h:=tr_adj (wl_ok S (Q.l2 s hs)).ok hi
   let l:∀u v,v∈adj W u->(u,v)∈W++W.map λe=>(e.2,e.1):=λu v h=>by
    rw[Jz]
    rcases(mem_adj S).mp h with z|z
    ·show .inl z
    ·show .inr (JG (f:=λe=>(e.2,e.1)) z)
   simp only[Jk,JJ,or_false] at k
   rcases k with rfl|rfl
   ·show l _ _ h
   ·show l _ _ (adj_symm S h)
  let j:(x,y)∈W++W.map λe=>(e.2,e.1):=by
   rw[Jz]
   rcases(mem_adj S).mp n with z|z
   ·show .inl z
   ·show .inr (JG (f:=λe=>(e.2,e.1)) z)
  have:=DV (Q.nd S o m) sub (by rw[AU,Q.l5,Jo,Jb];lia) j
  let⟨s,hs,k⟩:=Li.mp this
  let⟨i,hi,k⟩:=Li.mp k
  rw[J8] at hi
  simp only[Jk,JJ,or_false] at k
  rcases k with h|h<;>(injection h with h1 h2)
  ·show⟨s,hs,i,(),h1.symm⟩
  ·show⟨s,hs,i+1,(),h1.symm⟩
 let GJ:∀x,adj W x=[]\/(x∉a/\x∉b/\↑(adj W x)=2)\/↑(adj W x)=1:=λx=>by
  rcases e:adj W x with _|⟨y,r⟩
  ·show .inl Z
  ·let⟨s,hs,i,hi,rfl⟩:=d x y (e<|JA)
   rw[<-e]
   show .inr ?_
   by_cases c:i=wl W s
   ·rw[c];show .inr (Q.l4 s hs).2
   ·by_cases c2:i=0
    ·rw[c2];show .inr (Q.l2 s hs)
    ·have:=Q.l3 s hs i () ()
     show .inl ⟨this.1,this.2,(wl_ok S (Q.l2 s hs)).ok.d2 i () ()⟩
 show⟨λx=>?_,Q.l2,λg hg=>?_,λs hs=>(Q.l4 s hs).1,Q.l5⟩
 ·rcases GJ x with h|h|h
  ·rw[h];show Ju _
  ·lia
  ·lia
 ·rcases GJ g with h|h|h
  ·rw[h];show Ju _
  ·show absurd hg h.2.1
  ·lia
theorem adj_snoc (W:-(α×α))(e:α×α)(x:α):adj (W++[e]) x=adj W x++(if e.1=x then [e.2] else if e.2=x then [e.1] else []):=by
 unfold adj
 rw[List.filterMap_append]
 congr 1
 by_cases h1:e.1=x
 ·simp[h1]
 ·by_cases h2:e.2=x
  ·simp[h1,h2]
  ·simp[h1,h2]
theorem Sim.nil:Sim ([]:-(α×α)):=⟨(λ_ h=>by cases h),λ_=>Ka⟩
theorem Sim.snoc {e:α×α}(S:Sim W)(h1:e.1≠e.2)(c:e.2∉adj W e.1):Sim (W++[e]):=by
 show⟨λd g=>?_,λx=>?_⟩
 ·rcases Jz.mp g with z|z
  ·show S.ne d z
  ·rw[Jg.mp z];show h1
 ·let one:∀{l:-α} {y:α},l.Nodup->y∉l->(l++[y]).Nodup:=fun{l y} nd f=>Kh.mpr ⟨nd,JE.mpr ⟨JJ,Ka⟩,λa ha b hb=>by
   rw[Jg.mp hb]
   show λz=>f (z▸ha)⟩
  rw[adj_snoc]
  by_cases c1:e.1=x
  ·rw[N1 c1]
   show one (S.nd x) (c1▸c)
  ·rw[N0 c1]
   by_cases c2:e.2=x
   ·rw[N1 c2]
    show one (S.nd x) λz=>c ?_
    rw[<-c2] at z
    show adj_symm S z
   ·rw[N0 c2,Km]
    show S.nd x
end Wr
namespace Dj
abbrev Far:=Nat->Option Int
abbrev Back:=Nat->Option (Option Nat)
noncomputable def put {α:Type} (f:Nat->Option α) (k:Nat) (x:α):Nat->Option α:=λj=>if j=k then some x else f j
theorem ju {a:Type}{f:Nat->Option a}{x:a}:put f k x k>x:=N1 Z
theorem lU {a:Type}{f:Nat->Option a}{x:a}(h:j≠k):put f k x j=f j:=N0 h
structure G where
 Ft:Nat->-(Nat×Int)
 starts:-(Nat×Int)
 nn:∀m,∀a∈Ft m,0<=a.2
section
variable {g:G} {far:Far} {back:Back} {hp:-(Int×Nat)} {dn:-Nat} {cur:Int} {m:Nat} {pre:-(Nat×Int)}
structure St (ss:-(Nat×Int)) (far:Far) (back:Back) (hp:-(Int×Nat)):Prop where
 here:∀m p,far m>p->(p,m)∈hp/\(m,p)∈ss
 low:∀p m,(p,m)∈hp->∃q,far m>q/\q<=p
 dom:∀m,(back m).isSome=(far m).isSome
 bn:∀m b,back m>b->b=none
 sta:∀a∈ss,∃q,far a.1>q/\q<=a.2
theorem St.skip {b:-(Nat×Int)}(S:St b far back hp){o:Nat}{w q:Int}(hf:far o>q)(c:¬w<q):St (b++[(o,w)]) far back hp:=by
 show{S with here:=λk p h=>⟨(S.here k p h).1,Jz.mpr (.inl (S.here k p h).2)⟩,sta:=λa h=>?_}
 rcases Jz.mp h with h|h
 ·show S.sta a h
 ·rw[Jg.mp h];show⟨q,hf,by change q<=w;lia⟩
theorem St.more {g:-(Nat×Int)}(S:St g far back hp){o:Nat}{w:Int}(i:∀q,far o>q->w<q){hp':-(Int×Nat)}(f:∀z,z∈hp'↔z=(w,o)\/z∈hp):St (g++[(o,w)]) (put far o w) (put back o none) hp':=by
 let le:∀k q,far k>q->∃c,put far o w k>c/\c<=q:=λk q h=>by
  by_cases e:k=o
  ·subst e;show⟨_,ju,by have:=i q h;lia⟩
  ·show⟨q,lU e<|h,Int.le_refl _⟩
 show⟨λk p h=>?_,λp k h=>?_,λk=>?_,λk b h=>?_,λa h=>?_⟩
 ·by_cases e:k=o
  ·subst e;rw[ju] at h;cases h
   show⟨(f _).mpr (.inl Z),by simp⟩
  ·rw[lU e] at h
   show⟨(f _).mpr (.inr (S.here k p h).1),Jz.mpr (.inl (S.here k p h).2)⟩
 ·rcases(f _).mp h with z|z
  ·cases z;show⟨_,ju,Int.le_refl _⟩
  ·let⟨q,h1,h2⟩:=S.low p k z
   let⟨c,d,j⟩:=le k q h1
   show⟨c,d,()⟩
 ·by_cases e:k=o
  ·subst e;rw[ju,ju];rfl
  ·rw[lU e,lU e];show S.dom k
 ·by_cases e:k=o
  ·subst e;rw[ju] at h;show(Option.some.inj h).symm
  ·rw[lU e] at h;show S.bn k b h
 ·rcases Jz.mp h with h|h
  ·let⟨q,h1,h2⟩:=S.sta a h
   let⟨c,d,j⟩:=le _ q h1
   show⟨c,d,()⟩
  ·rw[Jg.mp h];show⟨_,ju,Int.le_refl _⟩
end
end Dj
namespace Hp
abbrev par (i:Nat):Nat:=(i - 1)/2
section
variable {α:Type} (lt:α->α->Bool)
structure Fh:Prop where
 irr:∀a,lt a a=false
 tot:∀a b,lt a b=false->lt b a=false->a=b
 trans:∀a b c,lt a b=true->lt b c=true->lt a c=true
variable {lt} (O:Fh lt)
include O
theorem Fh.asym {a b:α}(h:lt a b=true):lt b a=false:=by
 cases e:lt b a with
 |false=>rfl
 |true=>have:=O.trans _ _ _ h e;rw[O.irr] at this;cases this
theorem Fh.le_trans {a b c:α}(h1:lt b a=false)(d:lt c b=false):lt c a=false:=by
 cases e:lt c a with
 |false=>rfl
 |true=>
  cases e2:lt a b with
  |true=>have:=O.trans _ _ _ e e2;rw[d] at this;cases this
  |false=>
   have:=O.tot a b e2 h1
   subst this
   rw[d] at e;cases e
end
section
variable {α:Type} {lt:α->α->Bool} {d:α}
theorem eD {l:-α}{a:α}(b:i<↑l):(l.set i a).getD j d=if i=j then a else l.getD j d:=by
 rw[JP,List.getElem?_set]
 by_cases h:i=j
 ·subst h;simp[b]
 ·simp[h]
def Fg (lt:α->α->Bool) (d:α) (a:-α):Prop:=∀i,0<i->i<↑a->lt (a.getD i d) (a.getD (par i) d)=false
theorem Fg.least (O:Fh lt){a:-α}(h:Fg lt d a):∀i,i<↑a->lt (a.getD i d) (a.getD 0 d)=false:=by
 intro i
 induction i using Nat.strongRecOn with
 |_ i ih=>
  intro hi
  by_cases h0:i=0
  ·subst h0;show O.irr _
  ·show O.le_trans (ih (par i) (by first|omega|(simp only[par] at*;lia)) (by first|omega|(simp only[par] at*;lia))) (h i (by first|omega|(simp only[par] at*;lia)) hi)
structure Up (lt:α->α->Bool) (d:α) (ks:-α) (p:Nat) (x:α):Prop where
 at':p<↑ks
 ok:∀i,0<i->i<↑ks->i≠p->lt ((ks.set p x).getD i d) ((ks.set p x).getD (par i) d)=false
 over:0<p->∀c,0<c->c<↑ks->par c=p->lt ((ks.set p x).getD c d) ((ks.set p x).getD (par p) d)=false
theorem Up.start {f:-α}(h:Fg lt d f)(x:α):Up lt d (f++[x]) ↑f x:=by
 let e:(f++[x]).set ↑f x=f++[x]:=by simp
 show⟨by simp,λi g hi hp=>?_,λg c k j hp=>?_⟩
 ·let a:i<↑f:=by simp at hi;first|omega|(simp only[par] at*;lia)
  rw[e]
  let b:par i<↑f:=by first|omega|(simp only[par] at*;lia)
  let h1:(f++[x]).getD i d=f.getD i d:=by simp[JP,Lf a]
  let h2:(f++[x]).getD (par i) d=f.getD (par i) d:=by simp[JP,Lf b]
  rw[h1,h2]
  show h i g a
 ·simp at j;simp only[par] at hp;lia
theorem Up.step (O:Fh lt){b:-α}{p:Nat}{x:α}(h:Up lt d b p x)(A:0<p)(hx:lt x (b.getD (par p) d)=true):Up lt d (b.set p (b.getD (par p) d)) (par p) x:=by
 let⟨ha,ok,ov⟩:=h
 let hq:par p<p:=by simp only[par];lia
 let k:↑(b.set p (b.getD (par p) d))=↑b:=by simp
 let e:∀j,(b.set p x).getD j d=if p=j then x else b.getD j d:=λj=>eD ha
 let g:∀j,((b.set p (b.getD (par p) d)).set (par p) x).getD j d=if par p=j then x else if p=j then b.getD (par p) d else b.getD j d:=λj=>by
  rw[eD (by rw[k];first|omega|(simp only[par] at*;lia)),eD ha]
 show⟨by rw[k];lia,λi f hi n=>?_,λf c w q m=>?_⟩
 ·rw[k] at hi
  rw[g,g,N0 (Jr n)]
  let o:=ok i f hi
  rw[e,e] at o
  by_cases hi1:p=i
  ·subst hi1
   rw[N1 Z,N1 Z]
   show O.asym hx
  ·rw[N0 hi1]
   let o:=o (Jr hi1)
   rw[N0 hi1] at o
   by_cases hi2:par p=par i
   ·rw[N1 hi2]
    rw[N0 (by first|omega|(simp only[par] at*;lia)),<-hi2] at o
    show O.le_trans (O.asym hx) o
   ·rw[N0 hi2]
    by_cases hi3:p=par i
    ·rw[N1 hi3]
     let v:=ov A i f hi hi3.symm
     rw[e,e,N0 hi1,N0 (by first|omega|(simp only[par] at*;lia))] at v
     show v
    ·rw[N0 hi3]
     rw[N0 hi3] at o
     show o
 ·rw[k] at q
  let a:par (par p)<par p:=by simp only[par] at f|-;lia
  let y:par p≠c:=by first|omega|(simp only[par] at*;lia)
  let z:par p≠par (par p):=by lia
  let u:p≠par (par p):=by lia
  rw[g,g,N0 y,N0 z,N0 u]
  let l:=ok (par p) f (by first|omega|(simp only[par] at*;lia)) (by first|omega|(simp only[par] at*;lia))
  rw[e,e,N0 (by first|omega|(simp only[par] at*;lia)),N0 (by first|omega|(simp only[par] at*;lia))] at l
  by_cases hcq:p=c
  ·rw[N1 hcq];show l
  ·rw[N0 hcq]
   let r:=ok c w q (Jr hcq)
   rw[e,e,N0 hcq,m,N0 (by first|omega|(simp only[par] at*;lia))] at r
   show O.le_trans l r
theorem Up.done {a:-α}{x:α}(h:Up lt d a p x)(hx:p=0\/lt x (a.getD (par p) d)=false):Fg lt d (a.set p x):=by
 let⟨ha,ok,ov⟩:=h
 intro i b hi
 rw[Lq] at hi
 by_cases hip:i=p
 ·subst hip
  rw[eD ha,eD ha,N1 Z,N0 (by simp only[par];first|omega|(simp only[par] at*;lia))]
  rcases hx with hx|hx
  ·lia
  ·show hx
 ·show ok i b hi hip
structure Dn (lt:α->α->Bool) (d:α) (ks:-α) (p:Nat) (x:α):Prop where
 at':p<↑ks
 ok:∀i,0<i->i<↑ks->par i≠p->lt ((ks.set p x).getD i d) ((ks.set p x).getD (par i) d)=false
 over:0<p->∀c,0<c->c<↑ks->par c=p->lt ((ks.set p x).getD c d) ((ks.set p x).getD (par p) d)=false
theorem Dn.start {a:-α}(h:Fg lt d a)(h0:0<↑a)(x:α):Dn lt d a 0 x:=by
 show⟨h0,λi b hi hp=>?_,λz=>absurd z (JU _)⟩
 rw[eD h0,eD h0,N0 (by first|omega|(simp only[par] at*;lia)),N0 (Jr hp)]
 show h i b hi
def Fo (lt:α->α->Bool) (d:α) (a:-α) (p c:Nat):Prop:=par c=p/\0<c/\c<↑a/\∀e,0<e->e<↑a->par e=p->lt (a.getD e d) (a.getD c d)=false
theorem Dn.step (O:Fh lt){g:-α}{p c:Nat}{x:α}(h:Dn lt d g p x)(u:Fo lt d g p c)(hx:lt (g.getD c d) x=true):Dn lt d (g.set p (g.getD c d)) c x:=by
 let⟨ha,ok,ov⟩:=h
 let⟨cp,A,cl,y⟩:=u
 let a:p<c:=by simp only[par] at cp;lia
 let m:↑(g.set p (g.getD c d))=↑g:=by simp
 let k:∀j,(g.set p x).getD j d=if p=j then x else g.getD j d:=λj=>eD ha
 let l:∀j,((g.set p (g.getD c d)).set c x).getD j d=if c=j then x else if p=j then g.getD c d else g.getD j d:=λj=>by
  rw[eD (m<|cl),eD ha]
 show⟨m<|cl,λi q hi n=>?_,λ_ e w r ep=>?_⟩
 ·rw[m] at hi
  rw[l,l,N0 (Jr n)]
  by_cases h1:par i=p
  ·rw[N1 h1.symm]
   let b:p<i:=by simp only[par] at h1;lia
   by_cases h2:c=i
   ·rw[N1 h2];show O.asym hx
   ·rw[N0 h2,N0 (by first|omega|(simp only[par] at*;lia))]
    show y i q hi h1
  ·let h2:c≠i:=λz=>h1 (by rw[<-z];show cp)
   rw[N0 h2,N0 (Jr h1)]
   by_cases h3:p=i
   ·rw[N1 h3]
    let v:=ov (by first|omega|(simp only[par] at*;lia)) c A cl cp
    rw[k,k,N0 (by first|omega|(simp only[par] at*;lia)),h3,N0 (by simp only[par];first|omega|(simp only[par] at*;lia))] at v
    show v
   ·rw[N0 h3]
    let o:=ok i q hi h1
    rw[k,k,N0 h3,N0 (Jr h1)] at o
    show o
 ·rw[m] at r
  let f:c<e:=by simp only[par] at ep;lia
  rw[l,l,N0 (by first|omega|(simp only[par] at*;lia)),N0 (by first|omega|(simp only[par] at*;lia)),cp,N0 (by first|omega|(simp only[par] at*;lia)),N1 Z]
  let o:=ok e w r (by rw[ep];first|omega|(simp only[par] at*;lia))
  rw[k,k,N0 (by first|omega|(simp only[par] at*;lia)),ep,N0 (by first|omega|(simp only[par] at*;lia))] at o
  show o
theorem Dn.done {b:-α}{x:α}(h:Dn lt d b p x)(hx:∀c,0<c->c<↑b->par c=p->lt (b.getD c d) x=false):Fg lt d (b.set p x):=by
 let⟨ha,ok,ov⟩:=h
 intro i e hi
 rw[Lq] at hi
 by_cases hip:par i=p
 ·let a:p<i:=by simp only[par] at hip;lia
  rw[eD ha,eD ha,N0 (by first|omega|(simp only[par] at*;lia)),N1 hip.symm]
  show hx i e hi hip
 ·show ok i e hi hip
end
end Hp
namespace Dj
noncomputable def low (w:Int) (q:Option Int):Int:=match q with
 |none=>w
 |some q=>if q<w then q else w
noncomputable def tot (l:-Nat) (f:Far):Nat:=(l.map λm=>((f m).getD 0).toNat).sum
end Dj
namespace K35
open PySem L2
abbrev T3:=-Int
def iK (x:T3):-dh:=x.map Sum.inl
theorem gV(h:iK x=iK y):x=y:=by
 have:=congrArg (List.map kV) h
 unfold iK at this
 rw[cC,cC] at this
 show fI this
theorem fS {H:Hp}{b:N8}{x:T3}(h:H b>.tup (x.map V.int)):H b>.tup ((iK x).map kV):=by unfold iK;rw[cC];show h
theorem dg{a:-(-dh×V)}(c:Rd H d (.dT a))(e:H b>.tup (x.map V.int)):gx H d (.ref b) (bg a (iK x)):=.inr ⟨a,iK x,b,c,Z,fS e,Z⟩
theorem mw {b:Type} [DecidableEq b]:∀{xs ys:-b},xs.Nodup->(∀x∈xs,x∈ys)->↑xs<=↑ys
 |[],_,_,_=>Ju _
 |x::xs,ys,nd,h=>by
  rw[JE] at nd
  have:=mw (ys:=ys.erase x) nd.2 λy a=>(List.mem_erase_of_ne (λz=>nd.1 (by rw[<-z];show a))).mpr (h y (JC _ a))
  let e:=List.length_erase_of_mem (h x JA)
  let p:0<↑ys:=LU (h x JA)
  rw[JY]
  lia
structure pD (L R C:Int):Prop where
 l0:1<=L
 l1:L<=4
 r0:1<=R
 r1:R<=16
 c0:1<=C
 c1:C<=16
def kg (L R C l r c:Int):Prop:=0<=l/\l<L/\0<=r/\r<R/\0<=c/\c<C
instance {L R C l r c : Int} : Decidable (kg L R C l r c) := by unfold kg; infer_instance
theorem Ga:(decide (0<=l)&&decide (l<L)&&(decide (0<=r)&&decide (r<R)&&(decide (0<=c)&&decide (c<C))))=decide (kg L R C l r c):=by
 rw[KJ]
 simp only[Jv,decide_eq_true_eq]
 unfold kg
 constructor<;>intro h<;>omega
noncomputable def sN (R C:Int) (n:Nat):T3:=[(n:Int)/C/R,(n:Int)/C%R,(n:Int)%C]
section
variable {L R C:Int}
theorem kj (S:pD L R C){n:Nat}(h:(n:Int)<L*R*C):kg L R C ((n:Int)/C/R) ((n:Int)/C%R) ((n:Int)%C):=by
 have:=S.r0
 have:=S.c0
 let a:(0:Int)<=(n:Int):=Int.natCast_nonneg n
 let h1:(n:Int)/C<L*R:=Int.ediv_lt_of_lt_mul () h
 show⟨Int.ediv_nonneg (Int.ediv_nonneg a ()) (),Int.ediv_lt_of_lt_mul () h1,JO _ (),JQ _ (),JO _ (),JQ _ ()⟩
theorem DA (S:pD L R C){n m:Nat}(h:n<m):HT.lexLt (sN R C n) (sN R C m)=true:=by
 let j:=S.r0
 let i:=S.c0
 let d:=L0 (n:Int) C
 let g:=L0 (m:Int) C
 let c:=L0 ((n:Int)/C) R
 let f:=L0 ((m:Int)/C) R
 let a:(n:Int)/C<=(m:Int)/C:=Int.ediv_le_ediv () ()
 let b:(n:Int)/C/R<=(m:Int)/C/R:=Int.ediv_le_ediv () a
 unfold sN
 rw[HT.lexLt_cons]
 by_cases g1:(n:Int)/C/R=(m:Int)/C/R
 ·rw[N1 g1,HT.lexLt_cons]
  by_cases g2:(n:Int)/C%R=(m:Int)/C%R
  ·rw[N1 g2,HT.lexLt_cons]
   rw[g1,g2,f] at c
   rw[<-c] at d
   rw[N0 (by intro e;rw[e] at d;lia)]
   show N3 ()
  ·rw[N0 g2]
   show N3 ?_
   rw[g1] at c
   lia
 ·rw[N0 g1]
  show N3 ()
theorem mm (S:pD L R C){n m:Nat}(h:sN R C n=sN R C m):n=m:=by
 rcases Nat.lt_trichotomy n m with g|g|g
 ·have:=DA S g;rw[h,fD] at this;cases this
 ·show g
 ·have:=DA S g;rw[h,fD] at this;cases this
noncomputable def aZ (R C:Int) (ps:-(Nat×V)):-(-dh×V):=ps.map λp=>(iK (sN R C p.1),p.2)
theorem iM (S:pD L R C)(n:Nat):∀ps:-(Nat×V),bg (aZ R C ps) (iK (sN R C n))=bg ps n
 |[]=>rfl
 |p::r=>by
  let a:=iM S n r
  unfold aZ at a|-
  rw[Jq]
  by_cases e:p.1=n
  ·rw[b9 e]
   show b9 (p:=(iK (sN R C p.1),p.2)) (by rw[e])
  ·rw[b_ e,<-a]
   show b_ (p:=(iK (sN R C p.1),p.2)) (λz=>e (mm S (gV z)))
theorem gQ (S:pD L R C)(ps:-(Nat×V))(n:Nat)(v:V):bW (aZ R C ps) (iK (sN R C n)) v=aZ R C (bW ps n v):=by
 unfold bW
 rw[dG,dG,iM S]
 by_cases h:(bg ps n).isSome=true
 ·rw[N1 h,N1 h]
  unfold aZ
  rw[JF,JF]
  show K4 λp _=>?_
  change(if iK (sN R C p.1)=iK (sN R C n) then _ else _)=(iK (sN R C (if p.1=n then (p.1,v) else p).1),(if p.1=n then (p.1,v) else p).2)
  by_cases e:p.1=n
  ·rw[N1 (by rw[e]),N1 e]
  ·rw[N0 (λz=>e (mm S (gV z))),N0 e]
 ·rw[N0 h,N0 h]
  unfold aZ
  rw[Jf];rfl
theorem o9 {b:Type} [DecidableEq b](a:-(b×V))(k:b)(v:V):(bW a k v).map (·.1)=if (bg a k).isSome=true then a.map (·.1) else a.map (·.1)++[k]:=by
 unfold bW
 rw[dG]
 by_cases h:(bg a k).isSome=true
 ·rw[N1 h,N1 h,JF]
  show K4 λp _=>?_
  change(if p.1=k then (p.1,v) else p).1=p.1
  split<;>rfl
 ·rw[N0 h,N0 h,Jf];rfl
theorem eX {b:Type} [DecidableEq b]{a:-(b×V)}{k:b}:(bg a k).isSome=true↔k∈a.map (·.1):=by
 rw[<-dG]
 simp[List.any_eq_true]
theorem gS {a:Type} [DecidableEq a]{kvs:-(a×V)}{k:a}{v:V}(h:bg kvs k>v):(k,v)∈kvs:=by
 unfold bg at h
 let⟨p,h1,h2⟩:=JH.mp h
 let b:=List.find?_some h1
 let c:=L9 h1
 have:p.1=k:=N4 b
 subst this h2
 show c
structure Tb (M:Nat) (ps:-(Nat×V)):Prop where
 nd:(ps.map (·.1)).Nodup
 lt:∀p∈ps,p.1<M
theorem Tb.nil:Tb M []:=⟨Ka,λ_ h=>by cases h⟩
theorem Tb.put{ps:-(Nat×V)}(h:Tb M ps)(d:n<M):Tb M (bW ps n v):=by
 let c:=o9 ps n v
 show⟨?_,λp hp=>?_⟩
 ·rw[c]
  split
  ·show h.nd
  ·rename_i g
   show Kh.mpr ⟨h.nd,JE.mpr ⟨by simp,Ka⟩,?_⟩
   intro a ha b hb e
   rw[Jg.mp hb] at e
   show g (eX.mpr (e▸ha))
 ·have:=JG (f:=(·.1)) hp
  rw[c] at this
  split at this
  ·let⟨q,hq,e⟩:=Jh.mp this
   let e:q.1=p.1:=e
   rw[<-e];show h.lt q hq
  ·rcases Jz.mp this with t|t
   ·let⟨q,hq,e⟩:=Jh.mp t
    let e:q.1=p.1:=e
    rw[<-e];show h.lt q hq
   ·rw[Jg.mp t];show d
theorem Tb.few{ps:-(Nat×V)}(h:Tb M ps):↑ps<=M:=by
 have:↑(ps.map (·.1))<=↑(List.range M):=mw h.nd λn a=>by
  let⟨p,hp,rfl⟩:=Jh.mp a
  show J8.mpr (h.lt p hp)
 simpa using this
noncomputable def rk (b:-Nat):-(Nat×V):=b.foldl (λa n=>bW a n (.bl true)) []
theorem wt (a:-Nat)(n:Nat):rk (a++[n])=bW (rk a) n (.bl true):=by unfold rk;rw[List.foldl_append];rfl
theorem qM {b:Type}{P:-b->Prop}(h0:P [])(h1:∀xs x,P xs->P (xs++[x]))(l:-b):P l:=by
 have:∀n (xs:-b),↑xs=n->P xs:=by
  intro n
  induction n with
  |zero=>intro xs e;rw[List.length_eq_zero_iff.mp e];show h0
  |succ n ih=>
   intro xs e
   let a:xs≠[]:=λz=>by rw[z] at e;simp at e
   rw[(Ma a).symm]
   show h1 _ _ (ih _ (by simp[e]))
 show this _ l Z
theorem DK (n:Nat)(a:-Nat):(bg (rk a) n).isSome=decide (n∈a):=by
 induction a using qM with
 |h0=>simp[rk,zc]
 |h1 xs x ih=>
  rw[wt,qK]
  by_cases e:n=x
  ·simp[e]
  ·rw[N0 e,ih];simp[e]
theorem Ea (S:pD L R C)(a:-Nat):E5 (a.map λn=>(iK (sN R C n),V.bl true))=aZ R C (rk a):=by
 induction a using qM with
 |h0=>rfl
 |h1 xs x ih=>rw[Jf,List.map_singleton,zP,ih,wt];show gQ S _ _ _
theorem dD {a:Nat}(h:a<16):hashInt (a:Int)=a:=by
 have:∀a<16,hashInt ((a:Nat):Int)=a:=by decide+kernel
 show this a h
theorem ui (l r c:Nat)(f:r<16)(e:c<16):zQ (256*l+16*r+c)=reduceHash (Nc.Tuple.tupleHashOf [(l:Int),(r:Int),(c:Int)]):=by
 let b:(256*l+16*r+c)/256=l:=by omega
 let a:(256*l+16*r+c)/16%16=r:=by omega
 let d:(256*l+16*r+c)%16=c:=by omega
 unfold zQ
 rw[b,a,d]
theorem pw(x:-Int):Np (aU P w) (iK x)=reduceHash (Nc.Tuple.tupleHashOf (x.map hashInt)):=by
 unfold Np iK
 rw[JF]
 rfl
theorem Fp(l r c:Nat)(d:l<16)(b:r<16)(a:c<16):Np (aU P w) (iK [(l:Int),(r:Int),(c:Int)])=zQ (256*l+16*r+c):=by
 rw[pw,ui l r c b a,Jq,Jq,Jq,List.map_nil,dD d,dD b,dD a]
theorem wC (S:pD L R C){n:Nat}(h:(n:Int)<L*R*C){P:Ni}{w:Nr}:∃k:Nat,k<1024/\Np (aU P w) (iK (sN R C n))=zQ k/\(k:Int)=256*((n:Int)/C/R)+16*((n:Int)/C%R)+(n:Int)%C:=by
 let⟨d,e,b,f,a,g⟩:=kj S h
 have:=S.l1
 have:=S.r1
 have:=S.c1
 unfold sN
 revert d e b f a g
 generalize (n:Int)/C/R=l
 generalize (n:Int)/C%R=r
 generalize (n:Int)%C=c
 intro d e b f a g
 let⟨l,rfl⟩:=Lb d
 let⟨r,rfl⟩:=Lb b
 let⟨c,rfl⟩:=Lb a
 show⟨256*l+16*r+c,(),Fp l r c () () (),()⟩
theorem u7 (S:pD L R C){P:Ni}{w:Nr}{n m:Nat}(b:(n:Int)<L*R*C)(a:(m:Int)<L*R*C)(e:Np (aU P w) (iK (sN R C n))=Np (aU P w) (iK (sN R C m))):n=m:=by
 let⟨k,c,d,r⟩:=wC S b (P:=P) (w:=w)
 let⟨j,f,g,y⟩:=wC S a (P:=P) (w:=w)
 let e:=ve c f (d.symm.trans (e.trans g))
 let⟨u,i,A,o,h,v⟩:=kj S b
 let⟨z,b2,l,x,q,p⟩:=kj S a
 have:=S.r1
 have:=S.c1
 show mm S ?_
 unfold sN
 rw[show(n:Int)/C/R=(m:Int)/C/R by omega,show(n:Int)/C%R=(m:Int)/C%R by omega,show(n:Int)%C=(m:Int)%C by omega]
theorem gv {d g:Type}{f:d->g}:∀{xs:-d},xs.Nodup->(∀a∈xs,∀b∈xs,f a=f b->a=b)->(xs.map f).Nodup
 |[],_,_=>Ka
 |x::xs,nd,h=>by
  rw[JE] at nd
  rw[Jq,JE]
  show⟨λz=>?_,gv nd.2 λa ha b hb=>h a (JC _ ha) b (JC _ hb)⟩
  let⟨y,c,e⟩:=Jh.mp z
  show nd.1 ((h y (JC _ c) x JA e)▸c)
theorem oW{P:Ni}{w:Nr}(g:-dh->Int):∀ps:-(Nat×V),(aZ R C ps).map (λp=>g p.1)=(ps.map (·.1)).map λn=>g (iK (sN R C n))
 |[]=>rfl
 |p::r=>by
  have:=oW (P:=P) (w:=w) g r
  unfold aZ at this|-
  rw[Jq,Jq,Jq,Jq,this]
theorem qe (S:pD L R C){M:Nat}(c:(M:Int)=L*R*C){ps:-(Nat×V)}(h:Tb M ps){P:Ni}{w:Nr}:kR P w (aZ R C ps):=by
 let a:=oW (P:=P) (w:=w) (R:=R) (C:=C) (Np (aU P w)) ps
 unfold kR
 rw[a]
 show gv h.nd λn b m hm e=>?_
 let⟨p,hp,rfl⟩:=Jh.mp b
 let⟨q,hq,rfl⟩:=Jh.mp hm
 let l1:=h.lt p hp
 let l2:=h.lt q hq
 show u7 S () () e
theorem Am {ps:-(Nat×V)}:(aZ R C ps).map (·.1)=((ps.map (·.1)).map (sN R C)).map λc=>c.map Sum.inl:=by
 unfold aZ
 rw[JF,JF,JF];rfl
theorem eI {ps:-(Nat×V)}:↑(aZ R C ps)=↑ps:=by unfold aZ;rw[Jb]
end
theorem bE(s:au H0 H')(a:H0 D=none):au H0 (Oc H' D y):=λb u e=>by
 rw[aj (aq e a)];show s _ _ e
section
variable {tc:TT} {t u:TS} {te ta tb td ty:TE} {D:jf} {σ:St} {H:Hp} {a d:N8} {y v:V} {o:Option V} {K:Je}
theorem xB (c:Ev ty σ H y)(b:Ev td σ H (.ref a))(g:gx H a y o):Ev (wo ty td) σ H (.bl (!o.isSome)):=λ_ q=>c _ (b _ ⟨a,o,Z,g,q⟩)
theorem fg(h:jm tc σ H b)(e:b=c):jm tc σ H c:=e▸h
theorem cA(h:Ev te σ H v)(e:v=c):Ev te σ H c:=e▸h
theorem CN(hv:Ev tv σ H v)(c:Ev td σ H (.ref a))(b:Ev ty σ H y)(p:ip H a y v H4)(q:D.nx σ H4):rA td ty tv D σ H:=hv _ (c _ (b _ ⟨a,H4,Z,p,q⟩))
theorem pS(h:sd tl σ H vs)(hz:↑vs<=N9)(q:∀p,H p=none->Q (.ref p) (Oc H p (.tup vs))):p_ tl σ H Q:=h _ ⟨hz,q⟩
theorem gY(h:sd tl σ H vs)(hz:↑vs<=N9)(q:∀p,H p=none->Q (.ref p) (Oc H p (.lst vs))):rL tl σ H Q:=h _ ⟨hz,q⟩
theorem eK(h:sd tl σ H vs)(q:sp vs H Q E0):jP sp [] E0 tl σ H Q:=h _ (Km<|q)
theorem rN (W:Nat->St->Hp->Prop)(h0:∃m,W m σ H)(d:∀m σ H,W m σ H->∃b,jm tc σ H b/\(b=true->∀N:St->Hp->Prop,(∀c a H',c<m->W c a H'->N a H')->t {D with nx:=N,ct:=N,bk:=u D} σ H)/\(b=false->u D σ H)):
  gr (tT tc t) u D σ H:=zf (D:={D with nx:=u D}) W h0 d
theorem lJ {a:-(-dh×V)}(h1:Ev td σ H (.ref d))(b:Ev ty σ H y)(e:Ev tz σ H z)(c:H d>.dT a)(g:gx H d y o):Ev (yl K "dict" lS td (bX ty (bX tz fE))) σ H (o.getD z):=
 λ_ q=>h1 _ ⟨.inr (.inr (.inl ⟨Z,.inr ⟨_,c⟩⟩)),b _ (e _ ⟨_,_,_,_,Z,Z,g,q⟩)⟩
end
theorem rT(h:bG H as cs)(t:bG H bs ds):bG H (as++bs) (cs++ds):=cG h t
theorem vA(h:sd ta σ H [.int j])(h1: -2^62<=j)(a:j<2^62)(q:nM (λ_ H R=>R (Dc 0 j.toNat) H) g tb {D with nx:=u D} σ H):gr (nM (vT ta) g tb) u D σ H:=h _ ⟨j,Z,h1,a,q⟩
theorem zN(h:sd tl σ H vs)(q:∀Q:VK,Q v H->sp vs H Q E0):Ev (jP sp [] E0 tl) σ H v:=λQ z=>h _ (Km<|q Q z)
theorem Fv(h:ta σ H λx H1=>tb σ H1 λy H2=>r x y H2 Q):gb r ta tb σ H Q:=h
def Sb (l:N8) (H H':Hp):Prop:=∀b o,b≠l->H b>o->H' b>o
theorem Sb.refl (l:N8)(H:Hp):Sb l H H:=λ_ _ _ h=>h
theorem Sb.trans(a:Sb l H H1)(b:Sb l H1 H2):Sb l H H2:=λc o n h=>b c o n (a c o n h)
theorem Sb.of(s:au H H'):Sb l H H':=λb o _ h=>s b o h
theorem Sb.set(s:Sb l H H'):Sb l H (Oc H' l y):=λb o n h=>by rw[aj n];show s b o n h
theorem EE {xs:-Int}{i:Nat}{x:V}(h:(xs.map V.int)[i]?>x):∃j,x=.int j/\xs[i]?>j:=by
 rw[Jn] at h
 cases e:xs[i]? with
 |none=>rw[e] at h;cases h
 |some j=>rw[e] at h;show⟨j,(Option.some.inj h).symm,Z⟩
theorem aN {a:Type}{xs:-a}{x:a}(h:xs[i]?>x):xs.take (i+1)=xs.take i++[x]:=by rw[List.take_succ,h];rfl
theorem Cj(h:jm t σ H true)(q:ta σ H Q):GA t ta tb σ H Q:=h _ (c9 q)
theorem Be(h:jm t σ H false)(q:tb σ H Q):GA t ta tb σ H Q:=h _ (cK q)
theorem o_(e:H d>u):au H (Oc (Oc H d (.frz o u)) d u):=λb v z=>by
 by_cases hb:b=d
 ·subst hb;rw[af,<-e,z]
 ·rw[aj hb,aj hb];show z
theorem D9(h:jm t1 σ H false)(a:jm t2 σ H b):jm (F9 t1 t2) σ H b:=λQ q=>h _ (cK (a _ q))
theorem gq(h:jm tc σ H true):jm (EM tc) σ H false:=λ_ q=>h _ q
theorem gN{fs:-(Nh×V)}(h:Ev ta σ H (.ref p))(e:H p>.ins C dx fs)(c:nQ K C)(n:bY K C f)(l:fs.lookup f>v):Ev (DG K ta f) σ H v:=λ_ q=>h _ ⟨p,C,dx,fs,v,Z,e,c,n,l,q⟩
theorem i_(c:H p=none)(a:H dx=none):au H (Oc (Oc H dx (.own p)) p (.ins C dx [])):=λb o e=>by
 rw[aj (aq e c),aj (aq e a)];show e
theorem bJ {as:-N8}{i:Nat}{x:V}(h:(as.map V.ref)[i]?>x):∃a,as[i]?>a/\x=.ref a:=by
 rw[Jn] at h
 let⟨a,e,z⟩:=JH.mp h
 show⟨a,e,z.symm⟩
theorem Ca{cs a:-(-dh×V)}(h:yk H as cs)(g:yk H bs a):yk H (as++bs) (cs++a):=by
 induction h with
 |nil=>show g
 |cons r _ ih=>show .cons r ih
theorem yk.mono{cs:-(-dh×V)}(h:yk H as cs)(s:∀b xs,H b>.tup xs->H' b>.tup xs):yk H' as cs:=Nb.mapP h λa c d=>by let⟨b,f,e⟩:=d;show⟨b,s _ _ f,s _ _ e⟩
theorem lX(c:Ev ty σ H y)(b:Ev td σ H (.ref a))(g:gx H a y o):Ev (Gz ty td) σ H (.bl o.isSome):=λ_ q=>c _ (b _ ⟨a,o,Z,g,q⟩)
def fM (H H':Hp) (p:N8):Prop:=∀b o,b≠p->H b>o->H' b>o
theorem fM.same(s:au H H1)(n:H p=none)(b:fM H1 H2 p):au H H2:=λa o e=>b a o (aq e n) (s a o e)
theorem fM.st(b:fM H H1 p)(s:au H1 H2):fM H H2 p:=λa o n e=>s _ _ (b a o n e)
theorem fM.up(b:fM H H1 p):fM H (Oc H1 p o) p:=λa u n e=>by rw[aj n];show b a u n e
theorem fM.of(s:au H H1):fM H H1 p:=λa o _ e=>s _ _ e
theorem br(h:bG H as cs):∀{i:Nat} {a:N8},as[i]?>a->∃c,cs[i]?>c/\H a>.tup (c.map V.int):=by
 induction h with
 |nil=>intro i a e;simp at e
 |cons r _ ih=>
  intro i a e
  cases i with
  |zero=>simp at e;subst e;show⟨_,by simp,r⟩
  |succ i=>simp at e;let⟨p,h1,h2⟩:=ih e;show⟨p,by simpa using h1,h2⟩
theorem dr(h:te σ H D.rt):zL te D σ H:=h
theorem mR(s:au H H')(n:H' t=none):H t=none:=by
 cases e:H t with
 |none=>rfl
 |some o=>rw[s _ _ e] at n;cases n
section
variable {K:Je} {σ σ0:St} {H H1:Hp} {D a:N8} {g:TG} {tt:TT} {te t0:TE} {ta:TA} {n:Nat} {ix:-Nat} {as:-N8} {cs:-T3}
theorem fL(a:H' D>.lst zs)(c:H' t=none):∀b xs,H' b>.tup xs->Oc (Oc H' t o) D (.lst y) b>.tup xs:=λb xs e=>by
 rw[aj (bu e a (λz=>by cases z)),aj (aq e c)];show e
theorem bj(a:H' D>.lst zs):∀b xs,H' b>.tup xs->Oc H' D (.lst y) b>.tup xs:=λb xs e=>by
 rw[aj (bu e a (λz=>by cases z))];show e
theorem ay(h:bG H as cs)(s:∀b xs,H b>.tup xs->H' b>.tup xs):bG H' as cs:=Nb.mapP h λa c e=>s _ _ e
def Co (H:Hp) (q:N8) (x:T3×Int):Prop:=∃b,H q>.tup [.ref b,.int x.2]/\H b>.tup (x.1.map V.int)
theorem eh{xs:-(T3×Int)}(h:Nb (Co H) qs xs)(s:∀b ys,H b>.tup ys->H' b>.tup ys):Nb (Co H') qs xs:=Nb.mapP h λ_ _ a=>by let⟨b,d,c⟩:=a;show⟨b,s _ _ d,s _ _ c⟩
theorem Ap(f:T3->Bool)(v:T3->Int)(df:-(Option V))(p:H1 D=none)(w:∀H',au H1 H'->aM K H' a (as.map V.ref))(ht:bG H1 as cs)(hz:↑as<=1000)
  (r:∀b c H',c∈cs->H1 b>.tup (c.map V.int)->au H1 H'->jm tt (some (.ref b)::df) H' (f c)/\(f c=true->Ev tv (some (.ref b)::df) H' (.int (v c))))
  (q:∀H' bs,au H1 H'->H' D>.lst (bs.map V.ref)->Nb (Co H') bs ((cs.filter f).map λc=>(c,v c))->Q H'):G8 (none::df) (eM 0) tt (p_ (bX (cR 0) (bX tv fE))) (FV K a) H1 D Q:=by
 let len:↑as=↑cs:=Nb.length ht
 let k:N9=2^24:=rfl
 show bf (K:=K) (xs:=as.map V.ref) (λi n H'=>∃(o:Option V) (bs:-N8),n=o::df/\au H1 H'/\H' D>.lst (bs.map V.ref)/\Nb (Co H') bs (((cs.take i).filter f).map λc=>(c,v c))/\↑bs<=i) ⟨none,[],Z,(au.refl H1).upd p,af,.nil,Jd _⟩ (λi n H' _ hz=>by let⟨_,_,_,s,_⟩:=hz;show w _ s) ?_ ?_
 ·rintro i x n H' u ⟨o,bs,rfl,s,l,d,y⟩
  let⟨b,hb,rfl⟩:=bJ u
  let⟨c,g,e⟩:=br ht hb
  let hi:i<↑as:=(Js.mp hb).1
  let⟨z,j⟩:=r b c H' (Jl g) e s
  show gn (z _ ?_)
  cases hf:f c with
  |true=>
   show c9 ?_
   show pS (vs:=[.ref b,.int (v c)]) (ag ∅ (ag (j hf) aw)) (by change 2<=N9;decide) λt m=>?_
   let h:t≠D:=Jr (aq l m)
   show⟨bs.map V.ref,aj (Jr h)<|l,by rw[Jb];lia,_,bs++[t],Z,bE (s.upd m) p,by rw[af,Jf];rfl,?_,by rw[Jo];change ↑bs+1<=_;lia⟩
   rw[aN g,LD,K5 hf,Jf]
   show cG (eh d (fL l m)) (.cons ⟨b,by rw[aj h,af],fL l m _ _ (s _ _ e)⟩ .nil)
  |false=>
   show cK ⟨_,bs,Z,s,l,?_,()⟩
   rw[aN g,LD,K6 (by rw[hf];decide),List.filter_nil,Km]
   show d
 ·rintro n H' ⟨o,bs,rfl,s,l,d,y⟩
  rw[Jb,len,Jx] at d
  show q H' bs s l d
end
theorem vN(P:V->Hp->Prop)(h:∀Q:VK,(∀v H1,P v H1->Q v H1)->te σ H Q)(q:∀v H1,P v H1->u D (σ.set n (some v)) H1):gr (lu te (eM n)) u D σ H:=h _ q
theorem fb(h:tv σ H λv H1=>td σ H1 λx H2=>ty σ H2 λy H3=>∃a H4,x=.ref a/\ip H3 a y v H4/\D.nx σ H4):rA td ty tv D σ H:=h
theorem jU {b:Type} [DecidableEq b]{a:-(b×V)}{k:b}{v:V}{p:b×V}(h:p∈bW a k v):p∈a\/p=(k,v):=by
 cases e:bg a k with
 |none=>rw[jJ _ e] at h;show(Jz.mp h).imp id Jg.mp
 |some w=>
  have:(a.any λc=>decide (c.1=k))=true:=by rw[dG,e];rfl
  unfold bW at h
  rw[N1 this] at h
  let⟨q,hq,rfl⟩:=Jh.mp h
  by_cases z:q.1=k
  ·rw[N1 z];right;rw[z]
  ·rw[N0 z];show .inl hq
def Bt (ls:-N8) (H H':Hp):Prop:=∀b o,b∉ls->H b>o->H' b>o
theorem Bt.refl (ls:-N8)(H:Hp):Bt ls H H:=λ_ _ _ h=>h
theorem Bt.same(h:Bt ls H H1)(s:au H1 H2):Bt ls H H2:=λb o n e=>s _ _ (h b o n e)
theorem Bt.set(h:Bt ls H H')(m:l∈ls):Bt ls H (Oc H' l y):=λb o n e=>by
 let a:b≠l:=λz=>n (z<|m)
 rw[aj a];show h b o n e
theorem fz{tr:TA}{Q:-V->Hp->Prop}(h:sd tl σ H vs)(hz:↑vs<=N9)(q:∀p,H p=none->tr σ (Oc H p (.tup vs)) λxs H2=>Q (.ref p::xs) H2):bX (p_ tl) tr σ H Q:=h _ ⟨hz,q⟩
theorem BZ(h:ta σ H λxs H1=>↑xs<=N9/\∀p,H1 p=none->D.rt (.ref p) (Oc H1 p (.lst xs))):zL (rL ta) D σ H:=h
theorem FL (i j:Int):(if j<i then j else i)=min i j:=by simp only[Int.min_def];split<;>split<;>lia
theorem C5 {b d:Type}{F:b->d->Prop}{as:-b}{cs:-d}(h:Nb F as cs):∀{i:Nat} {a:b},as[i]?>a->∃c,cs[i]?>c/\F a c:=by
 induction h with
 |nil=>intro i a e;simp at e
 |cons r _ ih=>
  intro i a e
  cases i with
  |zero=>simp at e;subst e;show⟨_,by simp,r⟩
  |succ i=>simp at e;let⟨p,h1,h2⟩:=ih e;show⟨p,by simpa using h1,h2⟩
theorem wb {b:Type}:∀{l:-b} {i:Nat} {a:b},l.Nodup->l[i]?>a->a∉l.take i
 |[],_,_,_,h=>by simp at h
 |x::l,0,a,_,_=>by simp
 |x::l,i+1,a,nd,h=>by
  rw[JE] at nd
  let h':l[i]?>a:=by simpa using h
  rw[List.take_succ_cons,Jk]
  rintro(e|m)
  ·show nd.1 (e▸Jl h')
  ·show wb nd.2 h' m
theorem CZ(h:Ev te σ H v)(q:g v σ H (u D)):gr (lu te g) u D σ H:=h _ q
theorem tU (i:Int):(if i<0 then -(i:_) else i)=(i.natAbs:Int):=by split<;>lia
noncomputable def fN (i:Nat):Nn:=PySem.Challenge.pw_wirefloor_k35_bundle_papers.main.body.getD i (.Pass ⟨0,0,0,0⟩)
abbrev vL:Nn:=fN 35
abbrev vG:Nn:=fN 39
abbrev wq:Nn:=fN 40
abbrev sX:Nn:=fN 41
abbrev sQ:Nn:=fN 42
abbrev vg:Nn:=fN 44
abbrev yu:Nn:=fN 43
abbrev g_:Nn:=cH (fN 45) 0
abbrev vh:Nn:=cH (fN 45) 5
abbrev wA:Nn:=cH (fN 45) 7
abbrev vO:Nn:=cH (fN 45) 8
abbrev vM:Nn:=cH (fN 45) 9
abbrev yt:Nn:=cH (fN 45) 10
abbrev Aj:Nn:=cH (fN 45) 11
abbrev C_:Nn:=cH (fN 45) 13
abbrev rH:Nn:=fN 9
abbrev h7:Nn:=fN 10
abbrev C6:Nn:=fN 20
abbrev vI:Nn:=fN 21
abbrev vJ:Nn:=fN 22
abbrev wD:Nn:=fN 24
abbrev kG:Nn:=cH (fN 25) 0
abbrev gP:Nn:=cH (fN 26) 0
abbrev fO:Nn:=cH (fN 27) 0
abbrev uZ:Nn:=cH (fN 27) 2
abbrev zD:Nn:=cH (fN 25) 2
abbrev yC:Nn:=fN 29
abbrev Fu:Nn:=fN 30
abbrev zy:Nn:=cH (fN 33) 1
abbrev zV:Nn:=cH (fN 33) 0
abbrev Ia:Nn:=cH (fN 33) 3
abbrev yx:Nn:=cH (fN 33) 4
abbrev sx:Nn:=cH (fN 33) 5
abbrev zM:Nn:=cH (fN 33) 2
abbrev Di:Nn:=fN 47
abbrev Fk:Nn:=fN 48
abbrev yT:Nn:=fN 49
abbrev vj:Nn:=fN 50
abbrev Aw:Nn:=fN 51
abbrev vC:Nn:=fN 52
abbrev C9:Nn:=fN 53
abbrev AA:Nn:=fN 54
abbrev C8:Nn:=fN 55
abbrev zR:Nn:=fN 59
abbrev v8:Nn:=fN 56
abbrev rX:Nn:=fN 57
abbrev vS:Nn:=fN 58
abbrev Dg:Nn:=fN 60
abbrev vY:Nn:=fN 61
abbrev De:Nn:=fN 62
abbrev Ao:Nn:=fN 63
abbrev Bl:Nn:=fN 64
structure Txt (K:Je) (mg:Nh->Option N7) (cThing Oh cBundle cPaper cBundlePaper Od cMS:N8):Prop where
 len_:mg "len" =none
 range_:mg "range" =none
 isinstance_:mg "isinstance" =none
 int_:mg "int" =none
 bool_:mg "bool" =none
 tuple_:mg "tuple" =none
 set_:mg "set" =none
 list_:mg "list" =none
 dict_:mg "dict" =none
 sorted_:mg "sorted" =none
 zip_:mg "zip" =none
 min_:mg "min" =none
 all_:mg "all" =none
 any_:mg "any" =none
 reversed_:mg "reversed" =none
 max_:mg "max" =none
 sum_:mg "sum" =none
 abs_:mg "abs" =none
 str_:mg "str" =none
 cl_Thing:nQ K cThing
 mg_Thing:mg "Thing" >.ref cThing
 cl_Net:nQ K Oh
 mg_Net:mg "Net" >.ref Oh
 na_Net_name:bY K Oh "name"
 na_Net_half:bY K Oh "half"
 na_Net_room:bY K Oh "room"
 na_Net_pins:bY K Oh "pins"
 cl_Bundle:nQ K cBundle
 mg_Bundle:mg "Bundle" >.ref cBundle
 na_Bundle_name:bY K cBundle "name"
 na_Bundle_half:bY K cBundle "half"
 na_Bundle_room:bY K cBundle "room"
 na_Bundle_starts:bY K cBundle "starts"
 na_Bundle_goals:bY K cBundle "goals"
 cl_Paper:nQ K cPaper
 mg_Paper:mg "Paper" >.ref cPaper
 cl_BundlePaper:nQ K cBundlePaper
 mg_BundlePaper:mg "BundlePaper" >.ref cBundlePaper
 na_BundlePaper_wires:bY K cBundlePaper "wires"
 na_BundlePaper_price:bY K cBundlePaper "price"
 na_BundlePaper_depth:bY K cBundlePaper "depth"
 na_BundlePaper_heights:bY K cBundlePaper "heights"
 cl_Floor:nQ K Od
 mg_Floor:mg "Floor" >.ref Od
 na_Floor_sizes:bY K Od "sizes"
 na_Floor_prices:bY K Od "prices"
 na_Floor_vias:bY K Od "vias"
 na_Floor_rocks:bY K Od "rocks"
 na_Floor_tolls:bY K Od "tolls"
 g_LETTERS:∃u,mg "LETTERS" >u/\aY (.str (Nh.ofString "abcdefghijklmnopqrstuvwxyz")) u
 g_FIGURES:∃u,mg "FIGURES" >u/\aY (.str (Nh.ofString "0123456789")) u
 g_MOST_PRICE:∃u,mg "MOST_PRICE" >u/\aY (.int 1000000000000) u
 g_MOST_SIGNS:∃u,mg "MOST_SIGNS" >u/\aY (.int 12) u
 g_MOST_HALF:∃u,mg "MOST_HALF" >u/\aY (.int 2) u
 g_MOST_ROOM:∃u,mg "MOST_ROOM" >u/\aY (.int 3) u
 g_MOST_PINS:∃u,mg "MOST_PINS" >u/\aY (.int 6) u
 g_MOST_STARTS:∃u,mg "MOST_STARTS" >u/\aY (.int 6) u
 g_MOST_GOALS:∃u,mg "MOST_GOALS" >u/\aY (.int 12) u
 g_MOST_SIZES:∃u,mg "MOST_SIZES" >u/\aY (.ref cMS) u
 t_MOST_SIZES:∀H:Hp,bh K H cMS [.int 4,.int 16,.int 16]
 bb:Lh K (.type "bool") (.type "bool")>true
 nb:Lh K (.ref Oh) (.ref cBundle)>false
 b2:Lh K (.ref cBundle) (.ref cBundle)>true
 sp:Lh K (.ref cBundlePaper) (.ref cPaper)>true
 qN:JS K (.ref Oh) "__class__" >some (.builtin "object.__class__")
 qB:JS K (.ref cBundle) "__class__" >some (.builtin "object.__class__")
 qS:JS K (.ref cBundlePaper) "__class__" >some (.builtin "object.__class__")
 qg:LS K (.builtin "object.__class__") "__get__" >some (.builtin "getset_descriptor.__get__")
 qt:PySem.W.takesIn K (.builtin "object.__class__")>true
 oN:PySem.W.mroIn K Oh (.type "object")>true
 oB:PySem.W.mroIn K cBundle (.type "object")>true
 oS:PySem.W.mroIn K cBundlePaper (.type "object")>true
noncomputable def aW (a:-(Nat×V)) (n:Nat):Int:=match bg a n with
 |some (.int i)=>i
 |_=>0
structure Gd where
 L:Int
 R:Int
 C:Int
 M:Nat
 ps:-T3
 vs:-Int
 rs:-Nat
 ts:-(Nat×V)
def TV (a:-(Nat×V)):Prop:=∀p∈a,∃i:Int,p.2=.int i/\0<=i/\i<=1000000000000
def PP (ps:-T3):Prop:=∀c∈ps,∃a b:Int,c=[a,b]/\1<=a/\a<=1000000000000/\1<=b/\b<=1000000000000
structure fu (g:Gd):Prop where
 S:pD g.L g.R g.C
 M:(g.M:Int)=g.L*g.R*g.C
 m:g.M<=128
 pl:(↑g.ps:Int)=g.L
 pp:PP g.ps
 vl:(↑g.vs:Int)=g.L - 1
 vv:∀v∈g.vs,1<=v/\v<=1000000000000
 rl:↑g.rs<=63
 rr:∀n∈g.rs,n<g.M
 tt:Tb g.M g.ts
 tv:TV g.ts
def ni (H:Hp) (b:N8) (x y w:Int):Prop:=H b>.tup [.int x,.int y,.int w]
def fH (H:Hp) (l:N8) (cs:-T3):Prop:=∃as:-N8,H l>.lst (as.map V.ref)/\bG H as cs
theorem xv(h:bG H as cs)(s:∀b xs,H b>.tup xs->H' b>.tup xs):bG H' as cs:=Nb.mapP h λa c e=>s _ _ e
theorem fH.same(h:fH H l cs)(s:au H H'):fH H' l cs:=by
 let⟨as,h1,h2⟩:=h
 show⟨as,s _ _ h1,xv h2 λb xs e=>s _ _ e⟩
noncomputable def fF (z b a rd td:N8):-(Nh×V):=[("sizes",.ref z),("prices",.ref b),("vias",.ref a),("rocks",.ref rd),("tolls",.ref td)]
section
variable {z pr vi rd td:N8}
theorem GI:(fF z pr vi rd td).lookup ("sizes" :Nh)>.ref z:=by kernel_rfl
theorem IR:(fF z pr vi rd td).lookup ("prices" :Nh)>.ref pr:=by kernel_rfl
theorem IT:(fF z pr vi rd td).lookup ("vias" :Nh)>.ref vi:=by kernel_rfl
theorem Il:(fF z pr vi rd td).lookup ("rocks" :Nh)>.ref rd:=by kernel_rfl
theorem Ik:(fF z pr vi rd td).lookup ("tolls" :Nh)>.ref td:=by kernel_rfl
theorem IC:(fF z pr vi rd td).lookup ("is_rock" :Nh)=none:=by kernel_rfl
theorem Iz:(fF z pr vi rd td).lookup ("steps" :Nh)=none:=by kernel_rfl
theorem GO:(fF z pr vi rd td).lookup ("is_open" :Nh)=none:=by kernel_rfl
theorem He:(fF z pr vi rd td).lookup ("priced" :Nh)=none:=by kernel_rfl
theorem IH:eQ "sizes" v []=[(("sizes" :Nh),v)]:=by kernel_rfl
theorem IB:eQ "prices" v [("sizes",u)]=[(("sizes" :Nh),u),("prices",v)]:=by kernel_rfl
theorem IS {u v w:V}:eQ "vias" w [("sizes",u),("prices",v)]=[(("sizes" :Nh),u),("prices",v),("vias",w)]:=by kernel_rfl
theorem IQ {u v w x:V}:eQ "rocks" x [("sizes",u),("prices",v),("vias",w)]=[(("sizes" :Nh),u),("prices",v),("vias",w),("rocks",x)]:=by kernel_rfl
theorem IP {u v w x y:V}:eQ "tolls" y [("sizes",u),("prices",v),("vias",w),("rocks",x)]=[(("sizes" :Nh),u),("prices",v),("vias",w),("rocks",x),("tolls",y)]:=by kernel_rfl
end
structure FA (cF:N8) (H:Hp) (p pr vi rd td:N8) (g:Gd):Prop where
 ex:∃dx z,H p>.ins cF dx (fF z pr vi rd td)/\ni H z g.L g.R g.C
 pr:fH H pr g.ps
 vi:H vi>.lst (g.vs.map V.int)
 rd:H rd>.dT (aZ g.R g.C (rk g.rs))
 td:H td>.dT (aZ g.R g.C g.ts)
theorem FA.same {b:N8}{H H':Hp}{p c a rd td:N8}{g:Gd}(h:FA b H p c a rd td g)(s:au H H'):FA b H' p c a rd td g:=by
 let⟨dx,z,h1,h2⟩:=h.ex
 show⟨⟨dx,z,s _ _ h1,s _ _ h2⟩,h.pr.same s,s _ _ h.vi,s _ _ h.rd,s _ _ h.td⟩
noncomputable def dJ (R C:Int) (a:-(Nat×V)) (c:T3):Int:=match bg (aZ R C a) (iK c) with
 |some (.int i)=>i
 |_=>0
theorem m4(S:pD L R C){rs:-Nat}{n:Nat}:sN R C n∈rs.map (sN R C)↔n∈rs:=by
 constructor
 ·intro h
  let⟨m,hm,e⟩:=Jh.mp h
  show(mm S e)▸hm
 ·show λh=>JG h
def C2 (H:Hp) (l:N8) (xs:-(T3×Int)):Prop:=∃a:-N8,H l>.lst (a.map V.ref)/\Nb (Co H) a xs
theorem C2.same{xs:-(T3×Int)}(h:C2 H l xs)(s:au H H'):C2 H' l xs:=by
 let⟨a,h1,h2⟩:=h
 show⟨a,s _ _ h1,eh h2 λb ys e=>s _ _ e⟩
theorem FA.bt {i:N8}{ls:-N8}{H H':Hp}{p c d rd td:N8}{g:Gd}(h:FA i H p c d rd td g)(b:Bt ls H H')(j:∀l∈ls,(∀xs,H l≠some (.tup xs))/\∀C dx fs,H l≠some (.ins C dx fs))(q:c∉ls)(u:d∉ls)(k:rd∉ls)(r:td∉ls):FA i H' p c d rd td g:=by
 let f:∀a xs,H a>.tup xs->H' a>.tup xs:=λa xs e=>b a _ (λm=>(j a m).1 _ e) e
 let⟨dx,z,h1,h2⟩:=h.ex
 let⟨as,o,n⟩:=h.pr
 show⟨⟨dx,z,b _ _ (λm=>(j p m).2 _ _ _ h1) h1,f _ _ h2⟩,⟨as,b _ _ q o,ay n f⟩,b _ _ u h.vi,b _ _ k h.rd,b _ _ r h.td⟩
def Bd (x y w:Int):Prop:=(-10000000000000<=x/\x<=10000000000000)/\(-10000000000000<=y/\y<=10000000000000)/\(-10000000000000<=w/\w<=10000000000000)
theorem mC(h:fu g){n:Nat}(a:n<g.M){x y w:Int}(e:[x,y,w]=sN g.R g.C n):kg g.L g.R g.C x y w:=by
 have:=kj h.S (n:=n) (by have:=h.M;lia)
 unfold sN at e
 injection e with e1 e
 injection e with e2 e
 injection e with e3 _
 rw[e1,e2,e3];show this
inductive m7 (vs:-V) (H:Hp) (Q:VK) (E:XK):Prop
 |mk (a b:N8) (L R C l r c:Int) (_:vs=[.ref a,.ref b]) (_:ni H a L R C) (_:ni H b l r c) (_:Q (.bl (decide (kg L R C l r c))) H)
inductive se (vs:-V) (H:Hp) (Q:VK) (E:XK):Prop
 |mk (z pr vi:N8) (L R C:Int) (xs ys:-V) (_:vs=[.ref z,.ref pr,.ref vi]) (_:ni H z L R C) (_:pD L R C) (_:H pr>.lst xs) (_:(↑xs:Int)=L) (_:H vi>.lst ys) (_:(↑ys:Int)=L - 1) (_:∀H',au H H'->Q .non H')
inductive rB (vs:-V) (H:Hp) (Q:VK) (E:XK):Prop
 |mk (x m:Int) (_:vs=[.int x,.int m]) (_:m<=x) (_:x<=1000000000000) (_:Q .non H)
inductive oE (vs:-V) (H:Hp) (Q:VK) (E:XK):Prop
 |mk (pr vi d:N8) (ps:-T3) (ws:-Int) (kvs:-(-dh×V)) (_:vs=[.ref pr,.ref vi,.ref d]) (_:fH H pr ps) (_:PP ps) (_:H vi>.lst (ws.map V.int)) (_:(∀v∈ws,1<=v/\v<=1000000000000)) (_:H d>.dT kvs) (_:(∀p∈kvs,∃i:Int,p.2=.int i/\0<=i/\i<=1000000000000)) (_:∀H',au H H'->Q .non H')
def Hr (H:Hp) (r:V) (g:Gd):Prop:=(r=.non/\g.rs=[])\/∃ro,r=.ref ro/\fH H ro (g.rs.map (sN g.R g.C))
def Hu (H:Hp) (t:V) (g:Gd):Prop:=(t=.non/\g.ts=[])\/∃td,t=.ref td/\H td>.dT (aZ g.R g.C g.ts)
inductive pU (cF:N8) (vs:-V) (H:Hp) (Q:VK) (E:XK):Prop
 |mk (p dx z pr vi:N8) (r t:V) (g:Gd) (_:vs=[.ref p,.ref z,.ref pr,.ref vi,r,t]) (_:H p>.ins cF dx []) (_:fu g) (_:ni H z g.L g.R g.C) (_:fH H pr g.ps) (_:H vi>.lst (g.vs.map V.int)) (_:Hr H r g) (_:Hu H t g) (_:∀(H':Hp) (pr' vi' rd' td':N8),fM H H' p->H pr'=none->H vi'=none->H rd'=none->H td'=none->FA cF H' p pr' vi' rd' td' g->Q .non H')
inductive iY (vs:-V) (H:Hp) (Q:VK) (E:XK):Prop
 |mk (a b:N8) (L R C l r c:Int) (_:vs=[.ref a,.ref b]) (_:ni H a L R C) (_:ni H b l r c) (_:kg L R C l r c) (_:Q .non H)
noncomputable def uO (x y w:Int):-T3:=[[x - 1,y,w],[x,y - 1,w],[x,y,w - 1],[x,y,w+1],[x,y+1,w],[x+1,y,w]]
noncomputable def uT (g:Gd) (c:T3):Bool:=decide (kg g.L g.R g.C (c.getD 0 0) (c.getD 1 0) (c.getD 2 0))
def BH (g:Gd) (c:T3):Bool:=decide (c∈g.rs.map (sN g.R g.C))
theorem zv(ps:-(Nat×V))(c:T3):(bg (aZ R C ps) (iK c)).isSome=decide (c∈(ps.map (·.1)).map (sN R C)):=by
 rw[KJ,eX,Am,decide_eq_true_eq]
 constructor
 ·intro h
  let⟨d,a,e⟩:=Jh.mp h
  show(gV (show iK d=iK c from e))▸a
 ·intro h
  show Jh.mpr ⟨c,h,Z⟩
theorem vk:n∈(rk rs).map (·.1)↔n∈rs:=by
 rw[<-eX,DK,decide_eq_true_eq]
theorem Ds(_:pD L R C)(b:-Nat)(c:T3):(bg (aZ R C (rk b)) (iK c)).isSome=decide (c∈b.map (sN R C)):=by
 rw[zv]
 show decide_eq_decide.mpr ⟨λh=>?_,λh=>?_⟩
 ·let⟨n,a,e⟩:=Jh.mp h
  show Jh.mpr ⟨n,vk.mp a,e⟩
 ·let⟨n,a,e⟩:=Jh.mp h
  show Jh.mpr ⟨n,vk.mpr a,e⟩
theorem jb{a:-(Nat×V)}(h:TV a)(c:T3):(bg (aZ R C a) (iK c)).getD (.int 0)=.int (dJ R C a c):=by
 unfold dJ
 cases e:bg (aZ R C a) (iK c) with
 |none=>rfl
 |some v=>
  let⟨p,hp,b⟩:=Jh.mp (gS e)
  let⟨i,d,_⟩:=h p hp
  let f:p.2=v:=congrArg Prod.snd b
  rw[<-f,d];rfl
def jk (g:Gd) (c:T3):Bool:=uT g c&&!BH g c
noncomputable def bare (g:Gd) (c d:T3):Int:=if c.getD 0 0≠d.getD 0 0 then g.vs.getD (min (c.getD 0 0) (d.getD 0 0)).toNat 0 else if c.getD 1 0=d.getD 1 0 then (g.ps.getD (c.getD 0 0).toNat []).getD 0 0 else (g.ps.getD (c.getD 0 0).toNat []).getD 1 0
noncomputable def e8 (g:Gd) (c d:T3):Int:=dJ g.R g.C g.ts c+dJ g.R g.C g.ts d+bare g c d
noncomputable def jD (c:T3):-T3:=uO (c.getD 0 0) (c.getD 1 0) (c.getD 2 0)
noncomputable def gW (g:Gd) (c:T3):-(T3×Int):=if BH g c=true then [] else ((jD c).filter (jk g)).map λd=>(d,e8 g c d)
noncomputable def dI (R C:Int) (F:-(Nat×V)) (c:T3):Bool:=(bg (aZ R C F) (iK c)).isSome
noncomputable def fx (g:Gd) (F:-(Nat×V)) (c:T3):-(T3×Int):=(gW g c).filter λx=>dI g.R g.C F x.1
noncomputable def wY (g:Gd) (F:-(Nat×V)) (c:T3):-(T3×Int):=if dI g.R g.C F c=true then fx g F c else []
inductive vc (vs:-V) (H:Hp) (Q:VK) (E:XK):Prop
 |mk (b:N8) (x y w:Int) (_:vs=[.ref b]) (_:ni H b x y w) (_:∀(H':Hp) (l:N8),au H H'->H l=none->fH H' l (uO x y w)->Q (.ref l) H')
inductive tf (cF:N8) (vs:-V) (H:Hp) (Q:VK) (E:XK):Prop
 |mk (p pr vi rd td b:N8) (g:Gd) (x y w:Int) (_:vs=[.ref p,.ref b]) (_:FA cF H p pr vi rd td g) (_:fu g) (_:ni H b x y w) (_:kg g.L g.R g.C x y w) (_:Q (.bl (BH g [x,y,w])) H)
inductive jM (cF:N8) (vs:-V) (H:Hp) (Q:VK) (E:XK):Prop
 |mk (p pr vi rd td b:N8) (g:Gd) (x y w:Int) (_:vs=[.ref p,.ref b]) (_:FA cF H p pr vi rd td g) (_:fu g) (_:ni H b x y w) (_:Q (.bl (jk g [x,y,w])) H)
def t9 (x y w b a w':Int):Prop:=[b,a,w']∈uO x y w
inductive mE (cF:N8) (vs:-V) (H:Hp) (Q:VK) (E:XK):Prop
 |mk (p pr vi rd td a b:N8) (g:Gd) (x y w x' y' w':Int) (_:vs=[.ref p,.ref a,.ref b]) (_:FA cF H p pr vi rd td g) (_:fu g) (_:ni H a x y w) (_:ni H b x' y' w') (_:kg g.L g.R g.C x y w) (_:kg g.L g.R g.C x' y' w') (_:t9 x y w x' y' w') (_:Q (.int (e8 g [x,y,w] [x',y',w'])) H)
inductive uY (cF:N8) (vs:-V) (H:Hp) (Q:VK) (E:XK):Prop
 |mk (p pr vi rd td b:N8) (g:Gd) (x y w:Int) (_:vs=[.ref p,.ref b]) (_:FA cF H p pr vi rd td g) (_:fu g) (_:ni H b x y w) (_:kg g.L g.R g.C x y w) (_:∀(H':Hp) (l:N8),au H H'->H l=none->C2 H' l (gW g [x,y,w])->Q (.ref l) H')
def kU (H:Hp) (e:N8) (g:Gd) (F:-(Nat×V)):Prop:=∃ls:-(Nat×V),H e>.dT (aZ g.R g.C ls)/\ls.map (·.1)=F.map (·.1)/\∀q∈ls,∃l,q.2=.ref l/\C2 H l (fx g F (sN g.R g.C q.1))
inductive og (cF:N8) (vs:-V) (H:Hp) (Q:VK) (E:XK):Prop
 |mk (p pr vi rd td e:N8) (g:Gd) (F:-(Nat×V)) (_:vs=[.ref p,.ref e]) (_:FA cF H p pr vi rd td g) (_:fu g) (_:H e>.dT (aZ g.R g.C F)) (_:Tb g.M F) (_:e≠rd) (_:e≠td) (_:∀(H':Hp) (d:N8),au H H'->H d=none->kU H' d g F->Q (.ref d) H')
noncomputable def BR:Nw:=match (bP h7).getD 1 (.Pass ⟨0,0,0,0⟩) with
 | .Return (some e) _=>e
 |_=> .Name "x" ⟨0,0,0,0⟩
noncomputable def kN:Arguments:=match BR with
 | .Lambda p _ _ _=>p
 |_=>cn Bl
def jC:Nw:=match BR with
 | .Lambda _ b _ _=>b
 |e=>e
noncomputable def ji:NT:=match BR with
 | .Lambda _ _ s _=>s
 |_=>aK Bl
def mP:Nh:=(("arcs_in" :Nh)++ ".<locals>.")++ "<lambda>"
def E3 (K:Je):TE:=BI (λxs H Q=>∃p ys,xs=[.ref p]/\(aM K H p ys\/bh K H p ys)/\∀l,H l=none->Q (.ref l) (Oc H l (.lst ys))) (bX (yl K "dict" lS (cR 1) (bX (cR 0) (bX (rL fE) fE))) fE)
theorem Hv (c:N8):jR ["spot"] [("leads",c)] ji:=by
 let b:∀p∈ji.names,p.2=.free->p.1= "leads" :=by decide+kernel
 let one:∀(x:Nh) (d:N8),([("leads",c)]:-(Nh×N8)).lookup x>d->x= "leads" :=λx d h=>by
  have:=PySem.mem_of_lookup h
  rw[Jg] at this
  show congrArg Prod.fst this
 show⟨Z,Z,Z,by decide+kernel,by decide+kernel,λx a=>?_,λx a=>?_,?_,λx y d h1 h2=>by rw[one x d h1,one y d h2]⟩
 ·rw[show x= "leads" from b _ (PySem.mem_of_lookup a) Z]
  show⟨c,by simp⟩
 ·rw[show x= "leads" from Jg.mp a]
  decide+kernel
 ·change(["spot", "leads"]:-Nh).Nodup
  decide+kernel
theorem Hi (s:N_)(us:-N7)(c b:N8)(pm a:N7)(h:↑us=1):BindsTo s (PySem.W.kla_fn "<lambda>" mP kN jC ji [("leads",c)] pm (.ref b) a) ⟨us,[]⟩ ((["spot"]:-Nh).zip us):=by
 rcases us with _|⟨u,_|⟨v,r⟩⟩
 ·cases h
 ·show .of_eq Z
 ·cases h
def iG (h:Nh->Option N7) (H:Hp) (f:N8) (g:Gd) (F:-(Nat×V)) (e:N8):Prop:=∃(c a:N8) (b:N7) (d o:Nv) (rd:N8),rd≠e/\
 H f>iq f (Kk "<lambda>" mP kN jC ji [("leads",c)] ((h "__name__").getD .none) a b)/\H a>iq a d/\kh d a mP/\H c>iq c o/\o.data=.cell (some (.ref rd))/\kU H rd g F
theorem kU.same{F:-(Nat×V)}(h:kU H e g F)(s:au H H'):kU H' e g F:=by
 let⟨ls,h1,h2,a⟩:=h
 show⟨ls,s _ _ h1,h2,λq hq=>let ⟨l,e1,e2⟩:=a q hq;⟨l,e1,e2.same s⟩⟩
theorem kU.keep{F:-(Nat×V)}(h:kU H e g F)(s:∀b x,H b>x->(∀ps,x≠.tbl ps)->H' b>x):kU H' e g F:=by
 let⟨ls,h1,h2,f⟩:=h
 show⟨ls,s _ _ h1 (λ_ z=>by cases z),h2,λq hq=>?_⟩
 let⟨l,c,d,a,j⟩:=f q hq
 show⟨l,c,d,s _ _ a (λ_ z=>by cases z),eh j λb ys i=>s _ _ i (λ_ z=>by cases z)⟩
theorem iG.same{F:-(Nat×V)}(h:iG mg H f g F e)(s:au H H'):iG mg H' f g F e:=by
 let⟨c,l,a,m,o,rd,b,h1,h2,d,j,i,k⟩:=h
 show⟨c,l,a,m,o,rd,b,s _ _ h1,s _ _ h2,d,s _ _ j,i,k.same s⟩
def EB (e:Nh->Option N7) (K:Je) (f:N8) (vs:-V) (H:Hp) (Q:VK):Prop:=∃(c a:N8) (b:N7) (d o:Nv) (u:N7) (v:V),H f>iq f (Kk "<lambda>" mP kN jC ji [("leads",c)] ((e "__name__").getD .none) a b)/\H a>iq a d/\kh d a mP/\H c>iq c o/\o.data=.cell (some u)/\aY v u/\
 ↑vs=↑(["spot"]:-Nh)/\E3 K (vs.map some++[some v]) (drp H c) λr H'=>H' c=none->Q r (Oc H' c (iq c o))
theorem iG.clear{F:-(Nat×V)}{d k:-(-dh×V)}(h:iG mg H f g F e)(D:H e>.dT d):iG mg (Oc H e (.dT k)) f g F e:=by
 let⟨c,E,a,I,o,rd,j,h1,h2,v,B,A,ls,u,y,p⟩:=h
 let kp:∀{b:N8} {x:HO},H b>x->(∀d,x≠.dT d)->Oc H e (.dT k) b>x:=fun{b x} i w=>by
  rw[aj (λz=>by rw[z,D] at i;cases i;show w _ Z)];show i
 show⟨c,E,a,I,o,rd,j,kp h1 (λ_ z=>by cases z),kp h2 (λ_ z=>by cases z),v,kp B (λ_ z=>by cases z),A,ls,aj j<|u,y,λq hq=>?_⟩
 let⟨l,n,r,m,C⟩:=p q hq
 show⟨l,n,r,kp m (λ_ z=>by cases z),eh C λb ys i=>kp i (λ_ z=>by cases z)⟩
def Bb (K:Je) (H H':Hp):Prop:=∀b x,b≠(fY K "arcs_in").2->H b>x->H' b>x
abbrev HQ:=Int×-(Nat×V)
noncomputable def ht (h:HQ) (n:Nat):Int:=match bg h.2 n with
 |some (.int i)=>i
 |_=>h.1
def ID (R C:Int) (H:Hp) (b:N8) (n:Nat):Prop:=H b>.tup ((sN R C n).map V.int)
theorem uJ(S:pD L R C)(F:-(Nat×V))(n:Nat):dI R C F (sN R C n)=(bg F n).isSome:=by unfold dI;rw[iM S]
theorem zO{F:-(Nat×V)}(S:pD g.L g.R g.C)(h:iG mg H f g F e0)(N:ID g.R g.C H b n)
  (q:∀(l:N8) (H':Hp),au H H'->H l=none->C2 H' l (wY g F (sN g.R g.C n))->Q (.ref l) H'):EB mg K f [.ref b] H Q:=by
 let⟨c,P,k,oc,o,rd,_,h1,h2,X,E,Z0,ls,U,O,T⟩:=h
 show⟨c,P,k,oc,o,.ref rd,.ref rd,h1,h2,X,E,Z0,Z,Z,?_⟩
 let dn:∀{b:N8} {x:HO},H b>x->(∀A,x≠.ext A)->drp H c b>x:=λe n=>gG e E (kx n)
 let m:drp H c b>.tup ((sN g.R g.C n).map V.int):=dn N (λA z=>by cases z)
 let j:=dn U (λA z=>by cases z)
 let r:GQ K "dict" (.ref rd) (drp H c):=.inr (.inr (.inl ⟨Z,.inr ⟨_,j⟩⟩))
 show⟨_,Z,r,_,Z,Ju _,λu D=>?_⟩
 let s1:au (drp H c) (Oc (drp H c) u (.lst [])):=(au.refl _).upd D
 let J:Oc (drp H c) u (.lst []) u>.lst []:=af
 let GF:=dg (.inl (s1 _ _ j)) (s1 _ _ m)
 rw[iM S] at GF
 show⟨rd,.ref b,.ref u,bg ls n,Z,Z,GF,?_⟩
 let a:∀(p:N8) (ys:-N8),Oc (drp H c) u (.lst []) p>.lst (ys.map V.ref)->Nb (Co (drp H c)) ys (wY g F (sN g.R g.C n))->∀l,Oc (drp H c) u (.lst []) l=none->Oc (Oc (drp H c) u (.lst [])) l (.lst (ys.map V.ref)) c=none->Q (.ref l) (Oc (Oc (Oc (drp H c) u (.lst [])) l (.lst (ys.map V.ref))) c (iq c o)):=λp ys hp W l w y=>by
  let i:l≠c:=λz=>by rw[z,af] at y;cases y
  let Y:au H (Oc (Oc (Oc (drp H c) u (.lst [])) l (.lst (ys.map V.ref))) c (iq c o)):=λb x e=>by
   by_cases z:b=c
   ·rw[z,E] at e;rw[z,af];show e
   ·rw[aj z]
    let B:drp H c b>x:=mL z<|e
    rw[aj (aq (s1 _ _ B) w)]
    show s1 _ _ B
  show q l _ Y ?_ ⟨ys,by rw[aj i,af],eh W λb xs e=>?_⟩
  ·cases e:H l with
   |none=>rfl
   |some x=>
    have:=s1 _ _ (show drp H c l>x by rw[mL i];show e)
    rw[w] at this;cases this
  ·let nb:b≠c:=λz=>by rw[z,gK] at e;cases e
   rw[aj nb,aj (aq (s1 _ _ e) w)]
   show s1 _ _ e
 let keys:(bg ls n).isSome=dI g.R g.C F (sN g.R g.C n):=by
  rw[uJ S,KJ,eX,eX,O]
 unfold wY at a
 cases e:bg ls n with
 |none=>
  rw[e] at keys
  rw[<-keys] at a
  show⟨u,[],Z,.inl (aM.of J),λl w=>a u [] J .nil l w⟩
 |some v=>
  rw[e] at keys
  rw[<-keys] at a
  let⟨l0,d,M,B,e3⟩:=T _ (gS e)
  let d:v=.ref l0:=d
  subst d
  let I:=s1 _ _ (dn B (λA z=>by cases z))
  show⟨l0,M.map V.ref,Z,.inl (aM.of I),λl w=>a l0 M I (eh e3 λb xs e=>dn e (λA z=>by cases z)) l w⟩
theorem zq {a:Type}{bs:-a}{b:a}(h:↑bs<=i):↑(bs++[b])<=i+1:=Jo<|KS h
theorem cq {c:Type}:∀{b:-c},↑b=n+1->∃a r,b=a::r/\↑r=n
 |[],h=>by cases h
 |a::r,h=>⟨a,r,Z,Nat.succ.inj h⟩
theorem jT {a:Type}{us:-a}(h:↑us=0):us=[]:=List.eq_nil_of_length_eq_zero h
theorem Ip {d:Type}{us:-d}(h:↑us=2):∃a b,us=[a,b]:=by
 let⟨a,f,rfl,c⟩:=cq h
 let⟨b,e,rfl,h1⟩:=cq c
 cases jT h1
 show⟨a,b,Z⟩
theorem Hj {f:Type}{us:-f}(h:↑us=4):∃b c a d,us=[b,c,a,d]:=by
 let⟨b,l,rfl,e⟩:=cq h
 let⟨c,j,rfl,h1⟩:=cq e
 let⟨a,i,rfl,h2⟩:=cq h1
 let⟨d,k,rfl,g⟩:=cq h2
 cases jT g
 show⟨b,c,a,d,Z⟩
theorem Hb {g:Type}{us:-g}(h:↑us=5):∃b d a e c,us=[b,d,a,e,c]:=by
 let⟨b,o,rfl,f⟩:=cq h
 let⟨d,l,rfl,h1⟩:=cq f
 let⟨a,k,rfl,h2⟩:=cq h1
 let⟨e,n,rfl,i⟩:=cq h2
 let⟨c,m,rfl,j⟩:=cq i
 cases jT j
 show⟨b,d,a,e,c,Z⟩
theorem Ie {i:Type}{us:-i}(h:↑us=6):∃c e b f d a,us=[c,e,b,f,d,a]:=by
 let⟨c,r,rfl,g⟩:=cq h
 let⟨e,n,rfl,h1⟩:=cq g
 let⟨b,m,rfl,h2⟩:=cq h1
 let⟨f,q,rfl,j⟩:=cq h2
 let⟨d,o,rfl,l⟩:=cq j
 let⟨a,p,rfl,k⟩:=cq l
 cases jT k
 show⟨c,e,b,f,d,a,Z⟩
theorem cg(h:∀R:VK,(∀v H1,u D (σ.set n (some v)) H1->R v H1)->te σ H R):gr (lu te (eM n)) u D σ H:=h _ λ_ _ z=>z
theorem bQ(h:∀R:St->Hp->Prop,(∀σ H,u D σ H->R σ H)->t {D with nx:=R} σ H):gr t u D σ H:=h _ λ_ _ z=>z
theorem EC {b a:Type}{F:b->a->Prop}{as:-b}{cs:-a}(g:Nb F as cs):Nb F as.reverse cs.reverse:=by
 induction g with
 |nil=>show .nil
 |cons h s ih=>
  rw[LM,LM]
  show cG ih (.cons h .nil)
noncomputable def xi (R C:Int) (c:T3):Nat:=((c.getD 0 0*R+c.getD 1 0)*C+c.getD 2 0).toNat
theorem wB(_:pD L R C)(h:kg L R C x y w):sN R C (xi R C [x,y,w])=[x,y,w]/\((xi R C [x,y,w]:Nat):Int)<L*R*C:=by
 let⟨i1,i2,a,d,b,c⟩:=h
 let m:(0:Int)<R:=by lia
 let n:(0:Int)<C:=by lia
 let f:0<=x*R+y:=Int.add_nonneg (Int.mul_nonneg i1 ()) a
 let l:0<=(x*R+y)*C+w:=Int.add_nonneg (Int.mul_nonneg f ()) b
 let e:((xi R C [x,y,w]:Nat):Int)=(x*R+y)*C+w:=L1 l
 let i:((x*R+y)*C+w)/C=x*R+y:=by
  rw[Lj,Int.add_mul_ediv_right _ _ (),Int.ediv_eq_zero_of_lt b c,Ki]
 let j:(x*R+y)/R=x:=by
  rw[Lj,Int.add_mul_ediv_right _ _ (),Int.ediv_eq_zero_of_lt a d,Ki]
 let g:((x*R+y)*C+w)%C=w:=by
  rw[Lj,Int.add_mul_emod_self_right,Int.emod_eq_of_lt b c]
 let k:(x*R+y)%R=y:=by
  rw[Lj,Int.add_mul_emod_self_right,Int.emod_eq_of_lt a d]
 show⟨?_,?_⟩
 ·unfold sN
  rw[e,i,j,g,k]
 ·rw[e]
  let h1:x*R+R<=L*R:=by
   have:=Int.mul_le_mul_of_nonneg_right (show x+1<=L by lia) (show 0<=R by lia)
   rw[Int.add_mul,Int.one_mul] at this
   show this
  let h2:(x*R+y)*C+C<=L*R*C:=by
   have:=Int.mul_le_mul_of_nonneg_right (show x*R+y+1<=L*R by lia) (show 0<=C by lia)
   rw[Int.add_mul (x*R+y),Int.one_mul] at this
   show this
  lia
noncomputable def Ft (g:Gd) (F:-(Nat×V)) (n:Nat):-(Nat×Int):=(wY g F (sN g.R g.C n)).map λx=>(xi g.R g.C x.1,x.2)
def un (g:Gd) (a:Nat×Int):T3×Int:=(sN g.R g.C a.1,a.2)
theorem wN{a:-(Nat×V)}(h:TV a)(c:T3):0<=dJ R C a c:=by
 unfold dJ
 cases e:bg (aZ R C a) (iK c) with
 |none=>show Int.le_refl 0
 |some v=>
  let⟨p,hp,b⟩:=Jh.mp (gS e)
  let⟨i,d,f,_⟩:=h p hp
  let g:p.2=v:=congrArg Prod.snd b
  rw[<-g,d];show f
section
variable {g:Gd} {F:-(Nat×V)} {ss:-Nat} {far:Dj.Far} {back:Dj.Back}
end
def Fs (R C:Int) (z:Int×Nat):-Int:=z.1::sN R C z.2
section
variable {Cc:N8} {H0 H:Hp} {fa ba p a:N8} {g:Gd} {Fr B:-(Nat×V)} {far:Dj.Far} {back:Dj.Back} {vs:-V} {ks:-(-Int)} {hq:-(Int×Nat)}
end
structure PF (ab:-Nat) (n:Nat) (rep:Nat->Nat):Prop where
 len:↑ab=n
 step:∀i,i<n->∃j,ab[i]?>j/\j<n/\rep j=rep i/\(j=i↔rep i=i)
 rt:∀i,i<n->rep i<n/\rep (rep i)=rep i
 ms:∃d:Nat->Nat,∀i j,ab[i]?>j->j≠i->d j<d i
theorem PF.init (n:Nat):PF (List.range n) n id:=by
 show⟨Ks,λi hi=>⟨i,by simp[hi],hi,Z,?_⟩,λi hi=>⟨hi,Z⟩,id,λi j h a=>?_⟩
 ·simp
 ·rw[LX] at h
  ·show absurd (Option.some.inj h).symm a
  ·have:=(Js.mp h).1
   rwa [Ks] at this
noncomputable def Dz (rep:Nat->Nat) (x y:Nat):Nat->Nat:=λi=>if rep i=rep y then rep x else rep i
theorem PF.join{rep:Nat->Nat}(h:PF ab n rep){x y:Nat}(hx:x<n)(B:y<n)(o:rep x≠rep y):PF (ab.set (rep y) (rep x)) n (Dz rep x y):=by
 let⟨v,f⟩:=h.rt x hx
 let⟨C,g⟩:=h.rt y B
 let⟨d,D⟩:=h.ms
 let m:∀i,Dz rep x y i=if rep i=rep y then rep x else rep i:=λ_=>rfl
 show⟨Lq<|h.len,λa ha=>?_,λi hi=>?_,?_⟩
 ·by_cases q:a=rep y
  ·subst q
   show⟨rep x,LH (h.len<|ha),v,?_,?_⟩
   ·rw[m,m,f,g,N0 o,N1 Z]
   ·rw[m,g,N1 Z]
  ·let⟨b,e,hb,hr,c⟩:=h.step a ha
   show⟨b,LI (Jr q)<|e,hb,by rw[m,m,hr],?_⟩
   rw[m]
   by_cases z:rep a=rep y
   ·rw[N1 z]
    constructor
    ·intro r
     show absurd ((c.mp r).symm.trans z) q
    ·intro u
     rw[<-u,f] at z
     show absurd z o
   ·rw[N0 z];show c
 ·rw[m]
  let⟨A,w⟩:=h.rt i hi
  by_cases z:rep i=rep y
  ·rw[N1 z,m,f,N0 o];show⟨v,Z⟩
  ·rw[N0 z,m,w,N0 z];show⟨A,Z⟩
 ·-- the nodes under y stand above all that stood
  show⟨λi=>if rep i=rep y then d i+d (rep x)+1 else d i,λi j l p=>?_⟩
  by_cases q:i=rep y
  ·subst q
   rw[LH (h.len<|C)] at l
   cases l
   simp only[f,g,N0 o,N1]
   lia
  ·rw[LI (Jr q)] at l
   let k:i<n:=by rw[<-h.len];show(Js.mp l).1
   let⟨b,e,hb,hr,c⟩:=h.step i k
   rw[l] at e;cases e
   have:=D i j l p
   simp only[hr]
   split<;>lia
theorem al:¬(("above" :Nh)= "left"):=by decide+kernel
abbrev Lk:=Int×Nat×Nat
def tr (c:Lk):-Int:=[c.1,(c.2.1:Int),(c.2.2:Int)]
noncomputable def DY:-Int->Lk
 |[p,o,t]=>(p,o.toNat,t.toNat)
 |_=>(0,0,0)
theorem Ge (c:Lk):DY (tr c)=c:=by
 let⟨p,o,t⟩:=c
 change((p,((o:Nat):Int).toNat,((t:Nat):Int).toNat):Lk)=_
 simp
theorem oK (c:Lk):tr c≠[]:=by unfold tr;simp
theorem zJ {a b:-Lk}(h:a.map tr=b.map tr):a=b:=by
 have:=congrArg (List.map DY) h
 rw[JF,JF,show(DY∘tr)=id from funext λc=>Ge c,List.map_id,List.map_id] at this
 show this
theorem bG.upd{cs:-(-Int)}(h:bG H as cs)(hx:H x>.lst xs):bG (Oc H x o) as cs:=Nb.mapP h λa c z=>by rw[aj (bu z hx (by intro e;cases e))];show z
abbrev E2:=T3×T3
def FE (K:-E2):-T3:=K.map (·.1)++K.map (·.2)
def GJ (K:-E2) (x:T3):Nat:=(FE K).count x
def AC (a:-T3) (K:-E2) (x:T3):Prop:=x∉a/\GJ K x=1
instance (O9 : -T3) (K : -E2) (x : T3) : Decidable (AC O9 K x) := inferInstanceAs (Decidable (_ /\ _))
def IL (a:-T3) (K:-E2) (e:E2):Prop:=AC a K e.1\/AC a K e.2
instance (O9 : -T3) (K : -E2) (e : E2) : Decidable (IL O9 K e) := inferInstanceAs (Decidable (_ \/ _))
section
variable (lt:T3->T3->Bool)
noncomputable def E9 (e:E2):E2:=(if lt e.2 e.1 then e.2 else e.1,if lt e.1 e.2 then e.2 else e.1)
theorem EA (d:∀a,lt a a=false)(tr:∀a b c,lt a b=true->lt b c=true->lt a c=true)(tot:∀a b,lt a b=false->lt b a=false->a=b)(e:E2):E9 lt e=e\/E9 lt e=(e.2,e.1):=by
 let⟨a,b⟩:=e
 unfold E9
 dsimp only
 cases h1:lt a b<;>cases h2:lt b a
 ·have:=tot a b h1 h2;subst this;show .inl Z
 ·show .inr Z
 ·show .inl Z
 ·have:=tr _ _ _ h1 h2;rw[d] at this;cases this
variable (hor:∀e,E9 lt e=e\/E9 lt e=(e.2,e.1))
include hor
end
theorem yk.same{kvs:-(-dh×V)}(h:yk H as kvs)(e:au H H'):yk H' as kvs:=Nb.mapP h λ_ _ a=>by let⟨b,h1,h2⟩:=a;show⟨b,e _ _ h1,e _ _ h2⟩
theorem fP.new{cs:-E2}(h:fP H as cs)(hx:H x=none):fP (L2.Oc H x o) as cs:=h.tups λb xs e=>by rw[aj (aq e hx)];show e
abbrev nm:E2->E2:=E9 HT.lexLt
theorem Dr (e:E2):nm e=e\/nm e=(e.2,e.1):=EA HT.lexLt fD iV iS e
def L3 (ls:-E2):Prop:=∀e∈ls,↑e.1=3/\↑e.2=3
theorem L3.sub {K L:-E2}(h:L3 K)(s:L.Sublist K):L3 L:=λe a=>h e (s.subset a)
theorem L3.nm {K:-E2}(h:L3 K):L3 (K.map nm):=λe a=>by
 let⟨d,b,rfl⟩:=Jh.mp a
 let⟨h1,h2⟩:=h d b
 rcases Dr d with z|z
 ·rw[z];show⟨h1,h2⟩
 ·rw[z];show⟨h2,h1⟩
noncomputable def GF (b e:Int):V->Option V
 | .int p=>if 2*p<e/\b<e then some (.int (if GT.gt (2*p) b then 2*p - b else 0)) else none
 |_=>none
noncomputable def hf (b e:Int) (p:Nat×V):Option (Nat×V):=(GF b e p.2).map λv=>(p.1,v)
noncomputable def Ih (b e:Int) (a:-(Nat×V)):-(Nat×V):=a.filterMap (hf b e)
theorem Tb.take{a:-(Nat×V)}(h:Tb M a)(i:Nat):Tb M (a.take i):=⟨((LL _ _).map _).nodup h.nd,λp hp=>h.lt p ((LL _ _).subset hp)⟩
abbrev Im:=Nat->Int×-Nat
def jn (P:Im) (c:Lk):-Nat:=(P c.2.1).2++(P c.2.2).2
noncomputable def I_ (P:Im) (x:Int) (i:Nat):-(-Nat×Int×Int):=if (P i).1<x then [((P i).2,(P i).1,x)] else []
def rQ (ls:-Lk):Int:=(ls.map (·.1)).sum
def xr (c d:T3):Bool:=decide (d∈jD c)
theorem IX {x y:Int}:(x - y).natAbs=0↔y=x:=by lia
theorem IU {x y:Int}:(x - y).natAbs=1↔y=x - 1\/y=x+1:=by
 rw[Int.natAbs_eq_iff]
 constructor
 ·rintro(h|h)
  ·show .inl (by omega)
  ·show .inr (by omega)
 ·rintro(h|h)
  ·show .inl (by omega)
  ·show .inr (by omega)
theorem HV:a+b+c=1↔(a=1/\b=0/\c=0)\/(a=0/\b=1/\c=0)\/(a=0/\b=0/\c=1):=by
 constructor
 ·intro h
  rcases a with _|a
  ·rcases b with _|b
   ·show .inr (.inr ⟨Z,Z,by simpa using h⟩)
   ·show .inr (.inl ⟨Z,(),()⟩)
  ·show .inl ⟨(),(),()⟩
 ·rintro(⟨rfl,rfl,rfl⟩|⟨rfl,rfl,rfl⟩|⟨rfl,rfl,rfl⟩)<;>rfl
theorem qj (x y w e d w':Int):xr [x,y,w] [e,d,w']=decide ((x - e).natAbs+(y - d).natAbs+(w - w').natAbs=1):=by
 unfold xr jD uO
 show decide_eq_decide.mpr ?_
 simp only[List.getD_cons_zero,List.getD_cons_succ,Jk,List.cons.injEq,and_true,JJ,or_false,HV,IX,IU]
 constructor
 ·rintro(⟨a,b,c⟩|⟨a,b,c⟩|⟨a,b,c⟩|⟨a,b,c⟩|⟨a,b,c⟩|⟨a,b,c⟩)
  ·show .inl ⟨.inl a,b,c⟩
  ·show .inr (.inl ⟨a,.inl b,c⟩)
  ·show .inr (.inr ⟨a,b,.inl c⟩)
  ·show .inr (.inr ⟨a,b,.inr c⟩)
  ·show .inr (.inl ⟨a,.inr b,c⟩)
  ·show .inl ⟨.inr a,b,c⟩
 ·rintro(⟨a|a,b,c⟩|⟨a,b|b,c⟩|⟨a,b,c|c⟩)
  ·show .inl ⟨a,b,c⟩
  ·show .inr (.inr (.inr (.inr (.inr ⟨a,b,c⟩))))
  ·show .inr (.inl ⟨a,b,c⟩)
  ·show .inr (.inr (.inr (.inr (.inl ⟨a,b,c⟩))))
  ·show .inr (.inr (.inl ⟨a,b,c⟩))
  ·show .inr (.inr (.inr (.inl ⟨a,b,c⟩)))
inductive vE (vs:-V) (H:Hp) (Q:VK) (E:XK):Prop
 |mk (a b:N8) (x y w x' y' w':Int) (_:vs=[.ref a,.ref b]) (_:ni H a x y w) (_:ni H b x' y' w') (_:Q (.bl (xr [x,y,w] [x',y',w'])) H)
inductive m_ (cF:N8) (vs:-V) (H:Hp) (Q:VK) (E:XK):Prop
 |mk (p pr vi rd td a b:N8) (g:Gd) (x y w x' y' w':Int) (_:vs=[.ref p,.ref a,.ref b]) (_:FA cF H p pr vi rd td g) (_:fu g) (_:ni H a x y w) (_:ni H b x' y' w') (_:Q (.bl (xr [x,y,w] [x',y',w']&&(jk g [x,y,w]&&jk g [x',y',w']))) H)
inductive wJ (cF:N8) (vs:-V) (H:Hp) (Q:VK) (E:XK):Prop
 |mk (p pr vi rd td a b:N8) (g:Gd) (x y w x' y' w':Int) (_:vs=[.ref p,.ref a,.ref b]) (_:FA cF H p pr vi rd td g) (_:fu g) (_:ni H a x y w) (_:ni H b x' y' w') (_:kg g.L g.R g.C x y w) (_:kg g.L g.R g.C x' y' w') (_:(xr [x,y,w] [x',y',w']&&(jk g [x,y,w]&&jk g [x',y',w']))=true) (_:Q (.int (e8 g [x,y,w] [x',y',w'])) H)
theorem gm(vs:-V)(h:sd tl σ H vs)(hz:↑vs<=1000)(q:∀p H',au H H'->H p=none->H' p>.lst vs->Q (.ref p) H'):rL tl σ H Q:=h _ ⟨by have:N9=2^24:=rfl;lia,λp a=>q p _ ((au.refl H).upd a) a af⟩
theorem cS(vs:-V)(h:sd tl σ H vs)(hz:↑vs<=1000)(q:∀p H',au H H'->H p=none->H' p>.tup vs->Q (.ref p) H'):p_ tl σ H Q:=h _ ⟨by have:N9=2^24:=rfl;lia,λp a=>q p _ ((au.refl H).upd a) a af⟩
theorem h_{cs:-(-Int)}(e:Ev ta σ H (.ref b))(a:Ev tb σ H (.ref p))(h1:H b>.tup (c.map V.int))(d:bh K H p (as.map V.ref))(f:bG H as cs):Ev (gb (o7 K true) ta tb) σ H (.bl (!decide (c∈cs))):=
 λ_ q=>e _ (a _ ⟨b,p,as,c,cs,Z,Z,h1,d,f,q⟩)
structure rp (g:Gd) (e:E2):Prop where
 ex:∃n m:Nat,n<g.M/\m<g.M/\e=(sN g.R g.C n,sN g.R g.C m)/\xr (sN g.R g.C n) (sN g.R g.C m)=true/\jk g (sN g.R g.C n)=true/\jk g (sN g.R g.C m)=true
theorem AL (R C:Int)(n m:Nat):xr (sN R C n) (sN R C m)=xr (sN R C m) (sN R C n):=by
 let c (a b:Int):(a - b).natAbs=(b - a).natAbs:=by rw[<-Int.natAbs_neg,Int.neg_sub]
 unfold sN
 rw[qj,qj,c,c ((n:Int)/C%R),c ((n:Int)%C)]
theorem rp.symm{e:E2}(h:rp g e):rp g (e.2,e.1):=by
 let⟨n,m,h1,h2,rfl,c,b,a⟩:=h.ex
 show⟨m,n,h2,h1,Z,AL<|c,a,b⟩
theorem rp.nm{e:E2}(h:rp g e):rp g (nm e):=by
 rcases Dr e with z|z
 ·rw[z];show h
 ·rw[z];show h.symm
def FT (g:Gd) (e:E2):Int:=e8 g e.1 e.2
theorem FU(x:T3):Np (aU P w) (iK x)=c_ x:=by
 unfold Np c_ iK
 rw[JF]
 rfl
theorem CP (P:Ni)(w:Nr){g:Gd}(c:fu g){f:-Nat}(d:f.Nodup)(h:∀n∈f,n<g.M):((f.map (sN g.R g.C)).map c_).Nodup:=by
 show gv (gv d λn _ m _ e=>mm c.S e) λa ha b hb e=>?_
 let⟨n,d,rfl⟩:=Jh.mp ha
 let⟨m,hm,rfl⟩:=Jh.mp hb
 let h1:=h n d
 let h2:=h m hm
 let i:=c.M
 show congrArg _ (u7 (P:=P) (w:=w) c.S (n:=n) (m:=m) () () ?_)
 rw[FU,FU]
 show e
noncomputable def Ir (g:Gd) (a:-Nat) (c:T3):Bool:=!(decide (c∈g.rs.map (sN g.R g.C))||decide (c∈a.map (sN g.R g.C)))
def A8 (H:Hp) (t:N8) (cs:-T3):Prop:=∃as:-N8,H t>.tup (as.map V.ref)/\bG H as cs
structure r8 (x:Nh):Prop where
 as:x.cps.all (· <128)=true
 lo:1<=↑x
 hi:↑x<=12
 fst:∃c r,cp x=c::r/\c∈cp (Nh.ofString "abcdefghijklmnopqrstuvwxyz")
 all:∀c∈cp x,c∈cp (Nh.ofString "abcdefghijklmnopqrstuvwxyz")\/c∈cp (Nh.ofString "0123456789")
theorem Hd:r8 (Nh.ofString "n"):=⟨by decide+kernel,by decide+kernel,by decide+kernel,⟨110,[],by decide+kernel,by decide+kernel⟩,by decide+kernel⟩
inductive AH (vs:-V) (H:Hp) (Q:VK) (E:XK):Prop
 |mk (x:Nh) (_:vs=[.str x]) (_:r8 x) (_:∀H',au H H'->Q (.bl true) H')
inductive mQ (vs:-V) (H:Hp) (Q:VK) (E:XK):Prop
 |mk (l:N8) (as:-N8) (cs:-T3) (_:vs=[.ref l]) (_:H l>.lst (as.map V.ref)) (_:bG H as cs) (_:↑cs<=18) (_:(cs.map c_).Nodup) (_:∀H',au H H'->Q .non H')
inductive pK (cN:N8) (vs:-V) (H:Hp) (Q:VK) (E:XK):Prop
 |mk (p dx l:N8) (as:-N8) (cs:-T3) (x:Nh) (h r:Int) (_:vs=[.ref p,.str x,.ref l,.int h,.int r]) (_:H p>.ins cN dx []) (_:H l>.lst (as.map V.ref)) (_:bG H as cs) (_:(cs.map c_).Nodup) (_:2<=↑as) (_:↑as<=6) (_:r8 x) (_:0<=h) (_:h<=2) (_:0<=r) (_:r<=3) (_:∀H' fs t,fM H H' p->H' p>.ins cN dx fs->fs.lookup ("pins" :Nh)>.ref t->H' t>.tup (as.map V.ref)->Q .non H')
inductive Ah (cF:N8) (vs:-V) (H:Hp) (Q:VK) (E:XK):Prop
 |mk (p pr vi rd td l:N8) (g:Gd) (as:-N8) (ls:-E2) (_:vs=[.ref p,.ref l]) (_:FA cF H p pr vi rd td g) (_:fu g) (_:H l>.lst (as.map V.ref)) (_:fP H as ls) (_:↑ls<=1000) (_:(∀e∈ls,rp g e)) (_:∀H',au H H'->Q (.int (ls.map (FT g)).sum) H')
inductive we (K:Je) (vs:-V) (H:Hp) (Q:VK) (E:XK):Prop
 |mk (a:N8) (ns:-Int) (_:vs=[.ref a]) (_:aM K H a (ns.map V.int)) (_:ns.length<=63) (_:H (fY K "arcs_in").2>(.tbl #[])) (_:∀H',Q (.bl true) H')
section
variable {P:Ni} {w:Nr} {K:Je} {mg:Nh->Option N7} {Oa:Ng}
set_option maxHeartbeats 1000000
theorem HR(T:Txt K mg cThing Oh Oe Of Og Od cMS)(f c b:N8)(A:Nu)(a:-O0)(s:N_)(H:Hp)(d:aR 0 (A.deeper (kI mP ji [("leads",c)] (~~~s) f (.ref b)))):
  PE (vB P w K mg Oa ["spot"] [("leads",c)] mP ji f (.ref b) A a s H) jC (E3 K):=
 oU fW (by rfl) T.list_ vo (av (bR JL JZ J7 (dk d) (ao 1) (av (ao 0) (av (bB cO) cO))) cO)
theorem B7(T:Txt X.K X.mg cThing Oh Oe Of Og Od cMS)(d:aR 1 X.A)(f:N8):cJ X (.ref f) (EB X.mg X.K f):=
 xJ (k:=0) (name:= "<lambda>") (qual:=mP) (params:=kN) (body:=jC) (scope:=ji) (pm:=(X.mg "__name__").getD .none) (te:=E3 X.K) (y:= "leads") (ps:=["spot"]) d Hv (λs g c e b h=>Hi s g c e _ b h) (λf c e A a s H d=>HR T f c e A a s H d) f
section
variable {H0 H:Hp} {p ro sh td:N8} {xs:-Int} {L R C:Int} {M:Nat} {ps:-Nat} {i j:Nat} {rs ss:-Nat} {ts:-(Nat×V)}
end
noncomputable def IJ (x y w:Int):-T3:=[[x - 1,y,w],[x+1,y,w],[x,y - 1,w],[x,y+1,w],[x,y,w - 1],[x,y,w+1]]
noncomputable def res (g:Gd) (a:-Nat) (c d:T3):Option (T3×Int):=if (uT g d&&(Ir g a c&&Ir g a d))=true then some (d,e8 g c d) else none
noncomputable def DS (g:Gd) (a:-Nat) (x y w:Int) (m:Nat):-(T3×Int):=((IJ x y w).take m).filterMap (res g a [x,y,w])
section
variable {L R C:Int} {M:Nat} {Fr Kp:-(Nat×V)} {f f':Dj.Far}
end
theorem G7:gh xs (some 1) none=xs.drop 1:=by
 unfold gh
 rw[HT.sIx_none,show(some (1:Int))>((1:Nat):Int) from Z,HT.sIx_nat,LY (by rw[KA];lia)]
 cases xs with
 |nil=>rfl
 |cons a r=>rw[LF (by simp)]
end
inductive pV (vs:-V) (H:Hp) (Q:VK) (E:XK):Prop
 |mk (c k p:Int) (_:vs=[.int c,.int k,.int p]) (_:1<=p) (_:p<=2000000) (_:∀v:Int,0<=v->Q (.int v) H)
inductive iy (vs:-V) (H:Hp) (Q:VK) (E:XK):Prop
 |mk (c:Int) (_:vs=[.int c]) (_:∀v:Int,1<=v->v<=1000000000000->Q (.int v) H)
noncomputable def Ef (g:Gd) (F:-(Nat×V)) (c:T3):-T3:=(jD c).filter (dI g.R g.C F)
inductive iz (vs:-V) (H:Hp) (Q:VK) (E:XK):Prop
 |mk (d b:N8) (g:Gd) (F:-(Nat×V)) (x y w:Int) (_:vs=[.ref d,.ref b]) (_:Rd H d (.dT (aZ g.R g.C F))) (_:ni H b x y w) (_:∀(H':Hp) (l:N8),au H H'->H l=none->fH H' l (Ef g F [x,y,w])->Q (.ref l) H')
noncomputable def aJ (ps:-(T3×V)):-(-dh×V):=ps.map λp=>(iK p.1,p.2)
noncomputable def C4 (a:-(T3×Int×Int)) (c:T3):Option (Int×Int):=(a.find? λp=>decide (p.1=c)).map (·.2)
noncomputable def hv (b:-(T3×Int×Int)) (a:Int) (c:T3):Int×Int:=(C4 b c).getD (a,a)
def o3 (H:Hp) (p:T3×V) (q:T3×Int×Int):Prop:=p.1=q.1/\∃t,p.2=.ref t/\H t>.tup [.int q.2.1,.int q.2.2]
def jG (H:Hp) (d:N8) (a:-(T3×Int×Int)):Prop:=∃ls:-(T3×V),H d>.dT (aJ ls)/\Nb (o3 H) ls a
inductive vR (vs:-V) (H:Hp) (Q:VK) (E:XK):Prop
 |mk (p:N8) (_:vs=[.ref p]) (_:Q (.bl true) H)
inductive D5 (cB:N8) (vs:-V) (H:Hp) (Q:VK) (E:XK):Prop
 |mk (p dx d b:N8) (fs:-(Nh×V)) (de:Int) (c:T3) (hs:-(T3×Int×Int)) (_:vs=[.ref p,.ref b]) (_:H p>.ins cB dx fs) (_:fs.lookup ("heights" :Nh)>.ref d) (_:fs.lookup ("depth" :Nh)>.int de) (_:jG H d hs) (_:H b>.tup (c.map V.int)) (_:∀(H':Hp) (t:N8),au H H'->H' t>.tup [.int (hv hs de c).1,.int (hv hs de c).2]->Q (.ref t) H')
noncomputable def fB (w d:N8) (a b:Int):-(Nh×V):=[("wires",.ref w),("price",.int a),("depth",.int b),("heights",.ref d)]
structure FK (cB:N8) (H:Hp) (p w:N8) (pr de:Int) (hs:-(T3×Int×Int)):Prop where
 ex:∃(dx d:N8),H p>.ins cB dx (fB w d pr de)/\jG H d hs
structure Ba (cU:N8) (H:Hp) (u:N8) (A B:-T3):Prop where
 ex:∃(dx s g:N8) (fs:-(Nh×V)),H u>.ins cU dx fs/\fs.lookup ("starts" :Nh)>.ref s/\fs.lookup ("goals" :Nh)>.ref g/\(fs.lookup ("shaped" :Nh)=none/\fs.lookup ("sound" :Nh)=none)/\A8 H s A/\A8 H g B
inductive vZ (cB cU:N8) (vs:-V) (H:Hp) (Q:VK) (E:XK):Prop
 |mk (p u w:N8) (pr de:Int) (hs:-(T3×Int×Int)) (A B:-T3) (_:vs=[.ref p,.ref u]) (_:FK cB H p w pr de hs) (_:Ba cU H u A B) (_:↑A<=200) (_:↑B<=200) (_:∀H',au H H'->Q (.bl (!(A.any λc=>decide (0<(hv hs de c).1))&&B.all λc=>decide (de<=(hv hs de c).2))) H')
def D1 (H:Hp) (d:N8) (W:-(T3×T3)):Prop:=∃ls:-(T3×N8),H d>.dT (aJ (ls.map λp=>(p.1,V.ref p.2)))/\(∀x,Wr.adj W x≠[]->∃l,bg (ls.map λp=>(p.1,V.ref p.2)) x>.ref l/\fH H l (Wr.adj W x))
inductive rZ (vs:-V) (H:Hp) (Q:VK) (E:XK):Prop
 |mk (d b:N8) (W:-(T3×T3)) (s:T3) (_:vs=[.ref d,.ref b]) (_:D1 H d W) (_:Wr.Sim W) (_:↑W<=100) (_:H b>.tup (s.map V.int)) (_:↑(Wr.adj W s)=1) (_:∀(H':Hp) (l:N8),au H H'->H l=none->fH H' l ((List.range (Wr.wl W s+1)).map (Wr.tr W s))->Q (.ref l) H')
noncomputable def iH (ps:-Int) (R C:Int) (a:-(Nat×V)) (c e:T3):Int:=dJ R C a c+dJ R C a e+(if c.getD 0 0≠e.getD 0 0 then ps.getD 4 0 else ps.getD (2*c.getD 0 0+(if c.getD 1 0≠e.getD 1 0 then 1 else 0)).toNat 0)
inductive pY (vs:-V) (H:Hp) (Q:VK) (E:XK):Prop
 |mk (pl td a b:N8) (ps:-Int) (R C:Int) (ts:-(Nat×V)) (x y w x' y' w':Int) (_:vs=[.ref pl,.ref td,.ref a,.ref b]) (_:H pl>.lst (ps.map V.int)) (_:↑ps=5) (_:H td>.dT (aZ R C ts)) (_:TV ts) (_:ni H a x y w) (_:ni H b x' y' w') (_:0<=x) (_:x<=1) (_:Q (.int (iH ps R C ts [x,y,w] [x',y',w'])) H)
def G3 (c:T3):Prop:=∃l r x:Nat,c=[(l:Int),(r:Int),(x:Int)]/\l<4/\r<16/\x<16
inductive s_ (cB:N8) (vs:-V) (H:Hp) (Q:VK) (E:XK):Prop
 |mk (p dx w h:N8) (ws:-V) (pr de:Int) (hs:-(T3×Int×Int)) (_:vs=[.ref p,.ref w,.int pr,.int de,.ref h]) (_:H p>.ins cB dx []) (_:H w>.lst ws) (_:↑ws<=1000) (_:jG H h hs) (_:(hs.map (·.1)).Nodup) (_:(∀q∈hs,G3 q.1)) (_:∀(H':Hp) (w' d:N8),fM H H' p->H' p>.ins cB dx (fB w' d pr de)->H w'=none->H d=none->H' w'>.lst ws->jG H' d hs->Q .non H')
def kD (st:T3×T3->Bool) (W:-(T3×T3)):Prop:=∀i e,W[i]?>e->st e=true/\e.2∉Wr.adj (W.take i) e.1
noncomputable def yi (g:Gd) (e:T3×T3):Bool:=xr e.1 e.2&&(jk g e.1&&jk g e.2)
structure q_ (H H':Hp) (d:N8) (ls:-(T3×N8)) (A:T3->-T3):Prop where
 dt:H' d>.dT (aJ (ls.map λp=>(p.1,V.ref p.2)))
 ky:∀x,(∃l,(x,l)∈ls)↔A x≠[]
 nk:(ls.map (·.1)).Nodup
 na:(ls.map (·.2)).Nodup
 li:∀p∈ls,fH H' p.2 (A p.1)
 fr:∀p∈ls,H p.2=none
 sm:au H H'
 nd:H d=none
inductive rC (cF:N8) (vs:-V) (H:Hp) (Q:VK) (E:XK):Prop
 |mk (p pr vi rd td l:N8) (g:Gd) (as:-N8) (W:-(T3×T3)) (_:vs=[.ref p,.ref l]) (_:FA cF H p pr vi rd td g) (_:fu g) (_:H l>.lst (as.map V.ref)) (_:fP H as W) (_:L3 W) (_:↑W<=100) (_:(∀H',au H H'->¬kD (yi g) W->Q .non H')) (_:∀(H':Hp) (d:N8) (ls:-(T3×N8)),kD (yi g) W->q_ H H' d ls (Wr.adj W)->Q (.ref d) H')
noncomputable def t8:O2:=match BR with
 | .Lambda _ _ _ p=>p
 |_=>⟨0,0,0,0⟩
def mx (K:Je) (H:Hp):Prop:=H (fY K "arcs_in").2>(.tbl #[])\/∃c a,H (fY K "arcs_in").2>(.tbl #[NJ t8.line,NJ t8.col,.ref c])/\H c>iq c a/\kh a c mP
inductive pI (K:Je) (mg:Nh->Option N7) (cF:N8) (vs:-V) (H:Hp) (Q:VK) (E:XK):Prop
 |mk (p pr vi rd td e:N8) (g:Gd) (F:-(Nat×V)) (_:vs=[.ref p,.ref e]) (_:FA cF H p pr vi rd td g) (_:fu g) (_:H e>.dT (aZ g.R g.C F)) (_:Tb g.M F) (_:e≠rd) (_:e≠td) (_:mx K H) (_:∀(H':Hp) (f:N8),Bb K H H'->mx K H'->iG mg H' f g F e->Q (.ref f) H')
inductive wI (cN cB:N8) (vs:-V) (H:Hp) (Q:VK) (E:XK):Prop
 |mk (p dx cZ:N8) (x:Nh) (h r:Int) (_:vs=[.ref p,.str x,.int h,.int r]) (_:(cZ=cN\/cZ=cB)) (_:H p>.ins cZ dx []) (_:r8 x) (_:0<=h) (_:h<=2) (_:0<=r) (_:r<=3) (_:∀H' fs,fM H H' p->H' p>.ins cZ dx fs->↑fs<=3->fs.lookup ("shaped" :Nh)=none/\fs.lookup ("sound" :Nh)=none->Q .non H')
inductive vt (cF:N8) (vs:-V) (H:Hp) (Q:VK) (E:XK):Prop
 |mk (p pr vi rd td e h:N8) (g:Gd) (F:-(Nat×V)) (hs:-(T3×Int×Int)) (_:vs=[.ref p,.ref e,.ref h]) (_:FA cF H p pr vi rd td g) (_:fu g) (_:H e>.dT (aZ g.R g.C F)) (_:jG H h hs) (_:h≠e) (_:h≠rd) (_:h≠td) (_:(∀q∈hs,↑q.1=3)) (_:↑hs<=1000) (_:∀H',au H H'->Q (.bl (hs.all λq=>dI g.R g.C F q.1&&jk g q.1)) H')
def qX (c:N8) (H:Hp) (p w d:N8) (e a:Int) (b:-(T3×Int×Int)):Prop:=∃dx:N8,H p>.ins c dx (fB w d e a)/\jG H d b
noncomputable def GL (g:Gd) (F:-(Nat×V)) (a:-(T3×Int×Int)) (b:Int):Bool:=F.all λq=>!((fx g F (sN g.R g.C q.1)).any λx=>decide ((hv a b (sN g.R g.C q.1)).2+x.2<(hv a b x.1).1))
inductive oz (K:Je) (cB cF:N8) (vs:-V) (H:Hp) (Q:VK) (E:XK):Prop
 |mk (s w d p pr vi rd td e:N8) (x de:Int) (hs:-(T3×Int×Int)) (g:Gd) (F:-(Nat×V)) (_:vs=[.ref s,.ref p,.ref e]) (_:qX cB H s w d x de hs) (_:FA cF H p pr vi rd td g) (_:fu g) (_:H e>.dT (aZ g.R g.C F)) (_:Tb g.M F) (_:e≠rd) (_:e≠td) (_:mx K H) (_:d≠e) (_:∀H',Bb K H H'->mx K H'->Q (.bl (GL g F hs de)) H')
structure yq (H:Hp) (d:N8) (ls:-(T3×N8)) (A:T3->-T3):Prop where
 dt:H d>.dT (aJ (ls.map λp=>(p.1,V.ref p.2)))
 ky:∀x,(∃l,(x,l)∈ls)↔A x≠[]
 nk:(ls.map (·.1)).Nodup
 li:∀p∈ls,fH H p.2 (A p.1)
inductive qV (cU:N8) (vs:-V) (H:Hp) (Q:VK) (E:XK):Prop
 |mk (u d:N8) (W:-(T3×T3)) (ls:-(T3×N8)) (A B:-T3) (_:vs=[.ref u,.ref d,.int (↑W:Nat)]) (_:Ba cU H u A B) (_:yq H d ls (Wr.adj W)) (_:Wr.Sim W) (_:↑W<=100) (_:↑A<=200) (_:↑B<=200) (_:∀H' b,au H H'->(b=true↔Wr.PV W A B)->Q (.bl b) H')
inductive wz (cF cU:N8) (vs:-V) (H:Hp) (Q:VK) (E:XK):Prop
 |mk (u p pr vi rd td l:N8) (g:Gd) (as:-N8) (W:-(T3×T3)) (A B:-T3) (_:vs=[.ref u,.ref p,.ref l]) (_:FA cF H p pr vi rd td g) (_:fu g) (_:H l>.lst (as.map V.ref)) (_:fP H as W) (_:L3 W) (_:↑W<=100) (_:Ba cU H u A B) (_:↑A<=200) (_:↑B<=200) (_:∀H' b,au H H'->(b=true↔kD (yi g) W/\Wr.PV W A B)->Q (.bl b) H')
structure Gv (g:Gd) (F:-(Nat×V)) (W:-(T3×T3)) (A B:-T3) (x:Int):Prop where
 nb:kD (yi g) W
 pv:Wr.PV W A B
 pr:x=(W.map (FT g)).sum
 fr:(W.all λe=>dI g.R g.C F e.1&&dI g.R g.C F e.2)=true
inductive DB (cF cU:N8) (vs:-V) (H:Hp) (Q:VK) (E:XK):Prop
 |mk (u p pr vi rd td l e:N8) (g:Gd) (as:-N8) (W:-(T3×T3)) (A B:-T3) (F:-(Nat×V)) (x:Int) (_:vs=[.ref p,.ref e,.ref u,.ref l,.int x]) (_:FA cF H p pr vi rd td g) (_:fu g) (_:H e>.dT (aZ g.R g.C F)) (_:H l>.lst (as.map V.ref)) (_:fP H as W) (_:L3 W) (_:↑W<=100) (_:Ba cU H u A B) (_:↑A<=200) (_:↑B<=200) (_:∀H' b,au H H'->(b=true↔Gv g F W A B x)->Q (.bl b) H')
noncomputable def m8 (a:-(T3×Int×Int)):Int:=(a.map λq=>max (q.2.2 - q.2.1) 0).sum
structure Ij (g:Gd) (F:-(Nat×V)) (W:-(T3×T3)) (A B:-T3) (x de:Int) (hs:-(T3×Int×Int)):Prop where
 li:Gv g F W A B x
 cl:(hs.all λq=>dI g.R g.C F q.1&&jk g q.1)=true
 re:x=(↑A:Nat)*de - m8 hs
 en:(!(A.any λc=>decide (0<(hv hs de c).1))&&B.all λc=>decide (de<=(hv hs de c).2))=true
 cb:GL g F hs de=true
noncomputable def Fe (b a:N8) (H:Hp) (t:N8):Option (-T3×-T3)->Prop
 |none=>∃dx fs,H t>.ins b dx fs
 |some x=>Ba a H t x.1 x.2/\↑x.1<=200/\↑x.2<=200
noncomputable def GP (g:Gd) (F:-(Nat×V)) (W:-(T3×T3)) (x b:Int) (a:-(T3×Int×Int)):Option (-T3×-T3)->Prop
 |none=>False
 |some y=>Ij g F W y.1 y.2 x b a
inductive qf (K:Je) (cB cF cN cU:N8) (vs:-V) (H:Hp) (Q:VK) (E:XK):Prop
 |mk (s w d p pr vi rd td e t:N8) (x de:Int) (hs:-(T3×Int×Int)) (g:Gd) (F:-(Nat×V)) (as:-N8) (W:-(T3×T3)) (ob:Option (-T3×-T3)) (_:vs=[.ref s,.ref p,.ref e,.ref t]) (_:qX cB H s w d x de hs) (_:FA cF H p pr vi rd td g) (_:fu g) (_:H e>.dT (aZ g.R g.C F)) (_:Tb g.M F) (_:e≠rd) (_:e≠td) (_:d≠e) (_:d≠rd) (_:d≠td) (_:mx K H) (_:H w>.lst (as.map V.ref)) (_:fP H as W) (_:L3 W) (_:↑W<=100) (_:↑hs<=1000) (_:(∀q∈hs,↑q.1=3)) (_:Fe cN cU H t ob) (_:∀H' b,Bb K H H'->mx K H'->(b=true↔GP g F W x de hs ob)->Q (.bl b) H')
inductive lP (cU:N8) (vs:-V) (H:Hp) (Q:VK) (E:XK):Prop
 |mk (p dx l m:N8) (as bs:-N8) (cs ds:-T3) (x:Nh) (r:Int) (_:vs=[.ref p,.str x,.ref l,.ref m,.int r]) (_:H p>.ins cU dx []) (_:H l>.lst (as.map V.ref)) (_:H m>.lst (bs.map V.ref)) (_:bG H as cs) (_:bG H bs ds) (_:((cs++ds).map c_).Nodup) (_:1<=↑as) (_:↑as<=6) (_:↑as<=↑bs) (_:↑bs<=12) (_:r8 x) (_:0<=r) (_:r<=3) (_:∀H',fM H H' p->Ba cU H' p cs ds->Q .non H')
def bZ (ns:-Int) (i:Nat):Int:=ns.getD i 0
def Lz (ns:-Int):Nat:=(1+bZ ns 0%2).toNat
def Rz (ns:-Int):Nat:=(1+bZ ns 1%4).toNat
def Cz (ns:-Int):Nat:=(2+bZ ns 2%5).toNat
def Nz (ns:-Int):Nat:=Lz ns*Rz ns
noncomputable def lN (r i:Nat):T3:=[((i/r:Nat):Int),((i%r:Nat):Int)]
inductive eE (K:Je) (vs:-V) (H:Hp) (Q:VK) (E:XK):Prop
 |mk (a:N8) (ns:-Int) (i:Nat) (_:vs=[.ref a,.int (i:Int)]) (_:aM K H a (ns.map V.int)) (_:Q (.int (bZ ns i)) H)
inductive vH (K:Je) (vs:-V) (H:Hp) (Q:VK) (E:XK):Prop
 |mk (a:N8) (ns:-Int) (_:vs=[.ref a]) (_:aM K H a (ns.map V.int)) (_:∀(H':Hp) (t p q:N8) (fj rj:-Nat),au H H'->H' t>.tup [.ref p,.ref q]->fH H' p (fj.map (lN (Rz ns)))->fH H' q (rj.map (lN (Rz ns)))->H p=none->H q=none->(fj++rj).Perm (List.range (Nz ns))->1<=↑fj->↑fj<=6->Q (.ref t) H')
def On (C:Nat) (a:-Nat) (k:Nat):Prop:=∃j x,j∈a/\x<C/\k=j*C+x
inductive r_ (K:Je) (vs:-V) (H:Hp) (Q:VK) (E:XK):Prop
 |mk (a o:N8) (ns:-Int) (aW:Int) (rj:-Nat) (_:vs=[.ref a,.int (Cz ns:Nat),.ref o,.int aW]) (_:aM K H a (ns.map V.int)) (_:ns.length<=63) (_:fH H o (rj.map (lN (Rz ns)))) (_:(∀j∈rj,j<Nz ns)) (_:↑rj<=8) (_:0<=aW) (_:aW<=1000000000000) (_:∀(H':Hp) (t ro sh tl:N8) (rs:-Nat) (S ts:-(Nat×V)),au H H'->H' t>.tup [.ref ro,.ref sh,.ref tl]->fH H' ro (rs.map (sN (Rz ns) (Cz ns)))->H' sh>.dT (aZ (Rz ns) (Cz ns) S)->H' tl>.dT (aZ (Rz ns) (Cz ns) ts)->Tb (Nz ns*Cz ns) S->Tb (Nz ns*Cz ns) ts->TV ts->(∀k∈rs,On (Cz ns) rj k)->↑rs<=51->(∀p∈S,On (Cz ns) rj p.1)->H ro=none->H sh=none->H tl=none->sh≠tl->Q (.ref t) H')
structure C3 (H:Hp) (t la ot ro tl dd:N8) (ns:-Int) (aW nw:Int) (fj rj rs:-Nat) (ts F:-(Nat×V)):Prop where
 tp:H t>.tup [.int (Cz ns:Nat),.ref la,.ref ot,.int aW,.int nw,.ref ro,.ref tl,.ref dd]
 la:fH H la (fj.map (lN (Rz ns)))
 ot:fH H ot (rj.map (lN (Rz ns)))
 ro:fH H ro (rs.map (sN (Rz ns) (Cz ns)))
 tl:H tl>.dT (aZ (Rz ns) (Cz ns) ts)
 dd:H dd>.dT (aZ (Rz ns) (Cz ns) F)
structure GR (ns:-Int) (aW nw:Int) (fj rj rs:-Nat) (ts F:-(Nat×V)):Prop where
 pm:(fj++rj).Perm (List.range (Nz ns))
 f1:1<=↑fj
 f6:↑fj<=6
 t0:0<=aW
 t1:aW<=1000000000000
 n0:0<=nw
 n8:nw<=8
 rl:↑rs<=63
 rr:∀k∈rs,k<Nz ns*Cz ns
 tt:Tb (Nz ns*Cz ns) ts
 tv:TV ts
 ft:Tb (Nz ns*Cz ns) F
 fv:∀p∈F,p.2=.bl true
 fo:∀p∈F,p.1∉rs
 fe:F≠[]
inductive uK (K:Je) (vs:-V) (H:Hp) (Q:VK) (E:XK):Prop
 |mk (a:N8) (ns:-Int) (_:vs=[.ref a]) (_:aM K H a (ns.map V.int)) (_:ns.length<=63) (_:∀(H':Hp) (t la ot ro tl dd:N8) (aW nw:Int) (fj rj rs:-Nat) (ts F:-(Nat×V)),au H H'->C3 H' t la ot ro tl dd ns aW nw fj rj rs ts F->GR ns aW nw fj rj rs ts F->tl≠dd->H dd=none->H tl=none->Q (.ref t) H')
inductive pM (K:Je) (vs:-V) (H:Hp) (Q:VK) (E:XK):Prop
 |mk (a t la ot ro tl dd:N8) (ns:-Int) (aW nw:Int) (fj rj rs:-Nat) (ts F:-(Nat×V)) (_:vs=[.ref a,.ref t]) (_:aM K H a (ns.map V.int)) (_:C3 H t la ot ro tl dd ns aW nw fj rj rs ts F) (_:GR ns aW nw fj rj rs ts F) (_:∀(H':Hp) (l:N8) (gs:-Nat),au H H'->H l=none->fH H' l (gs.map (sN (Rz ns) (Cz ns)))->gs.Nodup->(∀k∈gs,∃j,j<Nz ns/\k=j*Cz ns+(Cz ns - 1))->↑fj<=↑gs->↑gs<=↑fj+2->Q (.ref l) H')
structure w5 (H:Hp) (m w h:N8) (pr de:Int) (as:-N8) (W:-(T3×T3)) (hs:-(T3×Int×Int)):Prop where
 m:H m>.lst [.ref w,.int pr,.int de,.ref h]
 w:H w>.lst (as.map V.ref)
 W:fP H as W
 h:jG H h hs
structure kL (W:-(T3×T3)) (hs:-(T3×Int×Int)) (n k:Nat):Prop where
 l3:L3 W
 wl:↑W<=n
 nd:(hs.map (·.1)).Nodup
 g3:∀q∈hs,G3 q.1
 hl:↑hs<=k
inductive uG (K:Je) (vs:-V) (H:Hp) (Q:VK) (E:XK):Prop
 |mk (a t la ot ro tl dd:N8) (ns:-Int) (aW nw ah:Int) (fj rj rs:-Nat) (ts F:-(Nat×V)) (_:vs=[.ref a,.ref t,.int ah]) (_:aM K H a (ns.map V.int)) (_:C3 H t la ot ro tl dd ns aW nw fj rj rs ts F) (_:GR ns aW nw fj rj rs ts F) (_:1<=ah) (_:ah<=1000000000000) (_:∀(H':Hp) (m w h:N8) (pr de:Int) (as:-N8) (W:-(T3×T3)) (hs:-(T3×Int×Int)),au H H'->H m=none->H w=none->H h=none->m≠w->w5 H' m w h pr de as W hs->kL W hs 30 48->1<=↑W->Q (.ref m) H')
noncomputable def Ho:Option (-T3×-T3)->Prop
 |none=>True
 |some x=>x.1.Nodup/\(∀s∈x.1,s∉x.2)/\↑x.1<=200/\↑x.2<=200
inductive mU (K:Je) (cN cU:N8) (vs:-V) (H:Hp) (Q:VK) (E:XK):Prop
 |mk (a s g:N8) (ns:-Int) (A B:-T3) (_:vs=[.ref a,.ref s,.ref g]) (_:aM K H a (ns.map V.int)) (_:fH H s A) (_:fH H g B) (_:((A++B).map c_).Nodup) (_:1<=↑A) (_:↑A<=6) (_:↑A<=↑B) (_:↑B<=12) (_:∀(H':Hp) (u:N8) (ob:Option (-T3×-T3)),au H H'->H u=none->Fe cN cU H' u ob->Ho ob->Q (.ref u) H')
inductive pZ (K:Je) (vs:-V) (H:Hp) (Q:VK) (E:XK):Prop
 |mk (a m w h dd:N8) (ns:-Int) (pr de R C:Int) (as:-N8) (W:-(T3×T3)) (hs:-(T3×Int×Int)) (F:-(Nat×V)) (L:Int) (M:Nat) (_:vs=[.ref a,.ref m,.ref dd]) (_:aM K H a (ns.map V.int)) (_:w5 H m w h pr de as W hs) (_:↑W<=100) (_:H dd>.dT (aZ R C F)) (_:pD L R C) (_:(M:Int)=L*R*C) (_:M<=128) (_:Tb M F) (_:∀(H':Hp) (f:N8) (F':-(Nat×V)),au H H'->H f=none->H' f>.dT (aZ R C F')->F'.Sublist F->Q (.ref f) H')
noncomputable def sS (g:Gd) (F:-(Nat×V)) (e:T3×T3):Bool:=dI g.R g.C F e.1&&decide (e.2∈Ef g F e.1)
inductive qU (vs:-V) (H:Hp) (Q:VK) (E:XK):Prop
 |mk (wr dd s t:N8) (g:Gd) (F:-(Nat×V)) (as:-N8) (W:-(T3×T3)) (A B:-T3) (_:vs=[.ref wr,.ref dd,.ref s,.ref t]) (_:H wr>.lst (as.map V.ref)) (_:fP H as W) (_:L3 W) (_:↑W<=100) (_:H dd>.dT (aZ g.R g.C F)) (_:A8 H s A) (_:A8 H t B) (_:↑A<=200) (_:∀H' b,au H H'->(b=true↔kD (sS g F) W/\Wr.LV W A B)->Q (.bl b) H')
def Hn (g:Gd) (F:-(Nat×V)) (A B:-T3) (a:Int) (b:-(T3×Int×Int)) (ps:-Int) (c:T3):Prop:=(c∈A->(hv b a c).1<=0)/\(c∈B->a<=(hv b a c).2)/\∀o∈Ef g F c,(hv b a o).1<=(hv b a c).2+iH ps g.R g.C g.ts c o
structure GK (g:Gd) (F:-(Nat×V)) (W:-(T3×T3)) (A B:-T3) (pr de:Int) (hs:-(T3×Int×Int)) (ps:-Int):Prop where
 sm:(W.map λe=>iH ps g.R g.C g.ts e.1 e.2).sum=pr
 hk:∀q∈hs,dI g.R g.C F q.1=true
 re:pr=(↑A:Nat)*de - m8 hs
 fs:∀p∈F,Hn g F A B de hs ps (sN g.R g.C p.1)
inductive Aa (vs:-V) (H:Hp) (Q:VK) (E:XK):Prop
 |mk (m w h dd s t pl tl:N8) (pr de:Int) (as:-N8) (W:-(T3×T3)) (hs:-(T3×Int×Int)) (g:Gd) (F:-(Nat×V)) (A B:-T3) (ps:-Int) (_:vs=[.ref m,.ref dd,.ref s,.ref t,.ref pl,.ref tl]) (_:w5 H m w h pr de as W hs) (_:L3 W) (_:↑W<=100) (_:(hs.map (·.1)).Nodup) (_:↑hs<=1000) (_:fu g) (_:g.L<=2) (_:H dd>.dT (aZ g.R g.C F)) (_:Tb g.M F) (_:H tl>.dT (aZ g.R g.C g.ts)) (_:H pl>.lst (ps.map V.int)) (_:↑ps=5) (_:A8 H s A) (_:A8 H t B) (_:↑A<=200) (_:(∀e∈W,dI g.R g.C F e.1=true)) (_:dd≠h) (_:tl≠h) (_:tl≠dd) (_:∀H' b,au H H'->(b=true↔GK g F W A B pr de hs ps)->Q (.bl b) H')
noncomputable def Gu (g:Gd) (F:-(Nat×V)) (W:-(T3×T3)) (c b:Int) (a:-(T3×Int×Int)) (ps:-Int):Option (-T3×-T3)->Prop
 |none=>False
 |some y=>(kD (sS g F) W/\Wr.LV W y.1 y.2)/\GK g F W y.1 y.2 c b a ps
inductive ph (cN cU:N8) (vs:-V) (H:Hp) (Q:VK) (E:XK):Prop
 |mk (m w h dd th pl tl:N8) (pr de:Int) (as:-N8) (W:-(T3×T3)) (hs:-(T3×Int×Int)) (g:Gd) (F:-(Nat×V)) (ob:Option (-T3×-T3)) (ps:-Int) (_:vs=[.ref m,.ref dd,.ref th,.ref pl,.ref tl]) (_:w5 H m w h pr de as W hs) (_:L3 W) (_:↑W<=100) (_:(hs.map (·.1)).Nodup) (_:↑hs<=1000) (_:fu g) (_:g.L<=2) (_:H dd>.dT (aZ g.R g.C F)) (_:Tb g.M F) (_:H tl>.dT (aZ g.R g.C g.ts)) (_:H pl>.lst (ps.map V.int)) (_:↑ps=5) (_:Fe cN cU H th ob) (_:dd≠h) (_:tl≠h) (_:tl≠dd) (_:∀H' b,au H H'->(b=true↔Gu g F W pr de hs ps ob)->Q (.bl b) H')
structure ke (H H':Hp) (w h dd:N8) (R C:Int) (as:-N8) (W:-(T3×T3)) (hs:-(T3×Int×Int)) (F:-(Nat×V)):Prop where
 bt:Bt [w,h,dd] H H'
 w:H' w>.lst (as.map V.ref)
 W:fP H' as W
 h:jG H' h hs
 d:H' dd>.dT (aZ R C F)
inductive sr (K:Je) (vs:-V) (H:Hp) (Q:VK) (E:XK):Prop
 |mk (a m w h dd:N8) (ns:-Int) (pr de ex:Int) (as:-N8) (W:-(T3×T3)) (hs:-(T3×Int×Int)) (F:-(Nat×V)) (_:vs=[.ref a,.ref m,.ref dd,.int ex]) (_:aM K H a (ns.map V.int)) (_:w5 H m w h pr de as W hs) (_:kL W hs 30 48) (_:1<=↑W) (_:H dd>.dT (aZ (Rz ns) (Cz ns) F)) (_:Tb (Nz ns*Cz ns) F) (_:F≠[]) (_:0<=ex) (_:ex<=6) (_:dd≠h) (_:∀(H':Hp) (m':N8) (pr' de':Int) (as':-N8) (W':-(T3×T3)) (hs':-(T3×Int×Int)) (F':-(Nat×V)),ke H H' w h dd (Rz ns) (Cz ns) as' W' hs' F'->H m'=none->H' m'>.lst [.ref w,.int pr',.int de',.ref h]->kL W' hs' 33 49->F'.Sublist F->Q (.ref m') H')
inductive ko (K:Je) (vs:-V) (H:Hp) (Q:VK) (E:XK):Prop
 |mk (a t la ot ro tl dd pl m w h:N8) (ns:-Int) (aW nw pr de:Int) (fj rj rs:-Nat) (ts F:-(Nat×V)) (as:-N8) (W:-(T3×T3)) (hs:-(T3×Int×Int)) (ps:-Int) (_:vs=[.ref a,.ref t,.ref pl,.ref m]) (_:aM K H a (ns.map V.int)) (_:C3 H t la ot ro tl dd ns aW nw fj rj rs ts F) (_:Tb (Nz ns*Cz ns) F) (_:TV ts) (_:w5 H m w h pr de as W hs) (_:kL W hs 33 49) (_:H pl>.lst (ps.map V.int)) (_:↑ps=5) (_:dd≠h) (_:tl≠h) (_:∀(H':Hp) (hs':-(T3×Int×Int)),Sb h H H'->jG H' h hs'->kL W hs' 33 100->Q .non H')
section
variable {P:Ni} {w:Nr} {K:Je} {mg:Nh->Option N7} {Oa:Ng}
theorem Ci(r:Rd H a u)(s:au H H'):Rd H' a u:=by
 rcases r with z|⟨o,z⟩
 ·show .inl (s _ _ z)
 ·show .inr ⟨o,s _ _ z⟩
theorem fX(h:ta σ H λxs H1=>↑xs<=N9/\∀p,H1 p=none->Q (.ref p) (Oc H1 p (.lst xs))):rL ta σ H Q:=h
theorem CJ(h:te σ H λx H1=>∃a,x=.ref a/\(∃xs,aM K H1 a xs)/\nM (λ_ H R=>R (FV K a) H) g tb {D with nx:=u D} σ H1):gr (nM (Dh K te) g tb) u D σ H:=h
theorem vU(P:Int->Prop)(g:Ev te σ H (.ref b))(e:H b>.tup (x.map V.int))(hx:x≠[])(h:↑x<=10)(hv:∀Q':VK,(∀v,P v->Q' (.int v) H)->tx σ H Q')
  (q:∀v p H',P v->au H H'->H p=none->H' p>.tup ((x++[v]).map V.int)->Q (.ref p) H'):gb (v7 K) te (p_ (bX tx fE)) σ H Q:=by
 let c:N9=2^24:=rfl
 show g _ (hv _ λv pv=>⟨by change 1<=N9;lia,λt f=>?_⟩)
 show⟨b,t,x.map V.int,[.int v],Z,Z,bh.of (aj (aq e f)<|e),bh.of af,λz=>hx (List.map_eq_nil_iff.mp z),by rw[Jb];change ↑x+1<=_;lia,(λz=>nomatch z),λ_ p d=>?_⟩
 let a:p≠t:=λz=>by rw[z,af] at d;cases d
 show q v p _ pv (((au.refl H).upd f).upd d) ?_ (by rw[af,Jf];rfl)
 rw[aj a] at d
 show d
theorem yy {g:Gd}{F:-(Nat×V)}{x y w:Int}{i:Nat}{c:T3}(h:(uO x y w)[i]?>c):((uO x y w).take (i+1)).filter (dI g.R g.C F)=((uO x y w).take i).filter (dI g.R g.C F)++(if dI g.R g.C F c=true then [c] else []):=by
 rw[aN h,LD]
 cases e:dI g.R g.C F c with
 |false=>rw[K6 (by rw[e];decide)];rfl
 |true=>rw[K5 e];rfl
noncomputable def Hg:-T3:=[[-1,0,0],[0,-1,0],[0,0,-1],[0,0,1],[0,1,0],[1,0,0]]
theorem E7 {x y w:Int}{i:Nat}{c:T3}(h:Hg[i]?>c):∃p q r:Int,c=[p,q,r]/\(uO x y w)[i]?>[x+p,y+q,w+r]:=by
 match i,h with
 |0,h=>cases h;show⟨-1,0,0,Z,by change some _>_;simp;lia⟩
 |1,h=>cases h;show⟨0,-1,0,Z,by change some _>_;simp;lia⟩
 |2,h=>cases h;show⟨0,0,-1,Z,by change some _>_;simp;lia⟩
 |3,h=>cases h;show⟨0,0,1,Z,by change some _>_;simp⟩
 |4,h=>cases h;show⟨0,1,0,Z,by change some _>_;simp⟩
 |5,h=>cases h;show⟨1,0,0,Z,by change some _>_;simp⟩
 |n+6,h=>simp[Hg] at h
theorem cM (ls:-(T3×V))(c:T3):bg (aJ ls) (iK c)=bg ls c:=by
 induction ls with
 |nil=>rfl
 |cons p r ih=>
  change bg ((iK p.1,p.2)::aJ r) (iK c)=_
  by_cases z:p.1=c
  ·rw[b9 z,b9 (p:=(iK p.1,p.2)) (by rw[z])]
  ·rw[b_ z,b_ (p:=(iK p.1,p.2)) (λh=>z (gV h)),ih]
theorem kJ{ls:-(T3×V)}{b:-(T3×Int×Int)}(h:Nb (o3 H) ls b)(c:T3):(bg ls c=none/\C4 b c=none)\/∃t q,bg ls c>.ref t/\C4 b c>q/\H t>.tup [.int q.1,.int q.2]:=by
 induction h with
 |nil=>show .inl ⟨Z,Z⟩
 | @cons p q ls b r t ih=>
  let⟨e,a,g,d⟩:=r
  by_cases z:p.1=c
  ·show .inr ⟨a,q.2,?_,?_,d⟩
   ·rw[b9 z,g]
   ·unfold C4;rw[List.find?_cons_of_pos (by rw[<-e];show N3 z)];rfl
  ·let f:¬q.1=c:=by rw[<-e];show z
   rw[b_ z]
   have:C4 (q::b) c=C4 b c:=by unfold C4;rw[List.find?_cons_of_neg (N5 f<|Jw)]
   rw[this]
   show ih
theorem jG.same{hs:-(T3×Int×Int)}(h:jG H d hs)(s:au H H'):jG H' d hs:=by
 let⟨ls,h1,h2⟩:=h
 show⟨ls,s _ _ h1,Nb.mapP h2 λ_ _ z=>?_⟩
 let⟨e,t,b,a⟩:=z
 show⟨e,t,b,s _ _ a⟩
theorem FK.same {b:N8}{H H':Hp}{p w:N8}{c a:Int}{hs:-(T3×Int×Int)}(h:FK b H p w c a hs)(s:au H H'):FK b H' p w c a hs:=by
 let⟨dx,d,h1,e⟩:=h.ex
 show⟨dx,d,s _ _ h1,e.same s⟩
theorem Ii {w d:N8}{a b:Int}:(fB w d a b).lookup ("wires" :Nh)>.ref w:=by kernel_rfl
theorem DF {w d:N8}{b a:Int}:(fB w d b a).lookup ("depth" :Nh)>.int a:=by kernel_rfl
theorem Er {w d:N8}{a b:Int}:(fB w d a b).lookup ("heights" :Nh)>.ref d:=by kernel_rfl
theorem GS {w d:N8}{a b:Int}:(fB w d a b).lookup ("lows_and_highs" :Nh)=none:=by kernel_rfl
theorem D1.same{W:-(T3×T3)}(h:D1 H d W)(s:∀b o,H b>o->(∀xs,o≠.lst xs\/True)->H' b>o):D1 H' d W:=by
 let⟨ls,h1,h2⟩:=h
 show⟨ls,s _ _ h1 (λ_=> .inr trivial),λx a=>?_⟩
 let⟨l,e,z⟩:=h2 x a
 show⟨l,e,z.same λb o q=>s b o q λ_=> .inr trivial⟩
theorem D1.at{W:-(T3×T3)}(h:D1 H d W)(hx:Wr.adj W x≠[])(a:H b>.tup (x.map V.int)):∃l,gx H d (.ref b) (some (.ref l))/\fH H l (Wr.adj W x):=by
 let⟨ls,h1,h2⟩:=h
 let⟨l,e,z⟩:=h2 x hx
 let g:=gx.t (k:=iK x) h1 (show H b>.tup ((iK x).map kV) by unfold iK;rw[cC];show a)
 rw[cM,e] at g
 show⟨l,g,z⟩
theorem yZ {K:Je}{ta d:TE}{c:St}{H:Hp}{a b:N8}{x y:T3}(h1:Ev ta c H (.ref a))(e:Ev d c H (.ref b))(f:H a>.tup (x.map V.int))(g:H b>.tup (y.map V.int)):Ev (gb (B6 K) ta d) c H (.bl (decide (x=y))):=λQ q=>by
 show h1 _ (e _ ⟨_,_,Dp.ints (bh.of f),Dp.ints (bh.of g),Jt (dB x) (by decide),?_⟩)
 rw[gB]
 show q
theorem qO(h:bG H as [u,v]):∃a b,as=[a,b]/\H a>.tup (u.map V.int)/\H b>.tup (v.map V.int):=by
 cases h with
 |cons r t=>
  cases t with
  |cons r2 t2=>
   cases t2
   show⟨_,_,Z,r,r2⟩
theorem rf(h:bG H as [u]):∃a,as=[a]/\H a>.tup (u.map V.int):=by
 cases h with
 |cons r t=>
  cases t
  show⟨_,Z,r⟩
theorem tG {a:Type}{l:-a}(h:↑l=1):∃u,l=[u]:=by
 rcases l with _|⟨u,_|⟨v,r⟩⟩
 ·cases h
 ·show⟨u,Z⟩
 ·cases h
theorem B0(g:G3 c)(i:G3 e)(h:Np (aU P w) (iK c)=Np (aU P w) (iK e)):c=e:=by
 let⟨l,r,x,rfl,l1,f,b⟩:=g
 let⟨l',r',x',rfl,l2,d,a⟩:=i
 rw[pw,pw] at h
 simp only[Jq,List.map_nil,dD (show l<16 by lia),dD f,dD b,dD (show l'<16 by lia),dD d,dD a] at h
 rw[<-ui l r x f b,<-ui l' r' x' d a] at h
 have:=ve () () h
 let k:l=l':=by lia
 let j:r=r':=by lia
 let m:x=x':=by lia
 rw[k,j,m]
theorem fV{ls:-(T3×V)}{a:-(T3×Int×Int)}(h:Nb (o3 H) ls a):ls.map (·.1)=a.map (·.1):=by
 induction h with
 |nil=>rfl
 |cons r t ih=>rw[Jq,Jq,ih,r.1]
theorem vK{ls:-(T3×V)}{a:-(T3×Int×Int)}(h:Nb (o3 H) ls a)(nd:(a.map (·.1)).Nodup)(g:∀q∈a,G3 q.1):kR P w (aJ ls):=by
 unfold kR aJ
 rw[JF]
 let e:(ls.map ((λp=>Np (aU P w) p.1)∘λp:T3×V=>(iK p.1,p.2)))=(a.map (·.1)).map λc=>Np (aU P w) (iK c):=by
  rw[<-fV h,JF]
  rfl
 rw[e]
 show gv nd λc b d j z=>?_
 let⟨l,f,rfl⟩:=Jh.mp b
 let⟨k,i,rfl⟩:=Jh.mp j
 show B0 (g _ f) (g _ i) z
theorem IV:eQ "wires" v []=[(("wires" :Nh),v)]:=by kernel_rfl
theorem IA:eQ "price" v [("wires",u)]=[(("wires" :Nh),u),("price",v)]:=by kernel_rfl
theorem IZ:eQ "depth" x [("wires",u),("price",v)]=[(("wires" :Nh),u),("price",v),("depth",x)]:=by kernel_rfl
theorem Iy {w d:N8}{a de:Int}:eQ "heights" (.ref d) [("wires",.ref w),("price",.int a),("depth",.int de)]=fB w d a de:=by kernel_rfl
theorem mh {ls:-(T3×N8)}:(∃l,(x,l)∈ls/\bg (ls.map λp=>(p.1,V.ref p.2)) x>.ref l)\/((∀l,(x,l)∉ls)/\bg (ls.map λp=>(p.1,V.ref p.2)) x=none):=by
 induction ls with
 |nil=>show .inr ⟨(λ_ h=>by cases h),Z⟩
 |cons p r ih=>
  rw[Jq]
  by_cases z:p.1=x
  ·show .inl ⟨p.2,?_,b9 (p:=(p.1,V.ref p.2)) z⟩
   rw[<-z];show JA
  ·rw[b_ (p:=(p.1,V.ref p.2)) z]
   rcases ih with ⟨l,h1,h2⟩|⟨h1,h2⟩
   ·show .inl ⟨l,JC _ h1,h2⟩
   ·show .inr ⟨λl h=>?_,h2⟩
    rcases Jk.mp h with e|e
    ·show z (by rw[<-e])
    ·show h1 l e
theorem vd {ls:-(T3×N8)}(nd:(ls.map (·.1)).Nodup)(h1:(x,a)∈ls)(c:(x,b)∈ls):a=b:=by
 induction ls with
 |nil=>cases h1
 |cons p r ih=>
  rw[Jq,JE] at nd
  rcases Jk.mp h1 with e1|e1<;>rcases Jk.mp c with e2|e2
  ·rw[<-e1] at e2;show(Prod.mk.inj e2).2.symm
  ·show absurd (JG (f:=(·.1)) e2) (by rw[<-e1] at nd;show nd.1)
  ·show absurd (JG (f:=(·.1)) e1) (by rw[<-e2] at nd;show nd.1)
  ·show ih nd.2 e1 e2
theorem BQ {ls:-(T3×N8)}(nd:(ls.map (·.2)).Nodup)(h1:(x,a)∈ls)(b:(z,a)∈ls):x=z:=by
 induction ls with
 |nil=>cases h1
 |cons p r ih=>
  rw[Jq,JE] at nd
  rcases Jk.mp h1 with e1|e1<;>rcases Jk.mp b with e2|e2
  ·rw[<-e1] at e2;show(Prod.mk.inj e2).1.symm
  ·show absurd (JG (f:=(·.2)) e2) (by rw[<-e1] at nd;show nd.1)
  ·show absurd (JG (f:=(·.2)) e1) (by rw[<-e2] at nd;show nd.1)
  ·show ih nd.2 e1 e2
theorem iW (j:Nat){H F:Hp}{d P b2:N8}{ls:-(T3×N8)}{A:T3->-T3}{x y:T3}{n m:Nat}{L:St}{Q:VK}(h:q_ H F d ls A)(e0:L[j]?>some (.ref d))(e1:L[n]?>some (.ref P))(U:L[m]?>some (.ref b2))
  (hx:F P>.tup (x.map V.int)) (Y:F b2>.tup (y.map V.int)) (len:↑ls<=1000) (la:↑(A x)<=900)
  (q:∀H2 N,q_ H H2 d N (λz=>if z=x then A z++[y] else A z)->(∀b xs,F b>.tup xs->H2 b>.tup xs)->↑N<=↑ls+1->Q .non H2):
  yl K "list" vm (yl K "dict" v3 (cR j) (bX (cR n) (bX (rL fE) fE))) (bX (cR m) fE) L F Q:=by
 let E:N9=2^24:=rfl
 let nA:(λz=>if z=x then A z++[y] else A z) x≠[]:=by change(if x=x then _ else _)≠[];rw[N1 Z];simp
 unfold yl
 show(ae e0:Ev (cR j) L F (.ref d)) _ ?_
 show⟨.inr (.inr (.inl ⟨Z,.inr ⟨_,h.dt⟩⟩)),?_⟩
 show(ae e1:Ev (cR n) L F (.ref P)) _ ?_
 show gY (vs:=[]) aw (Ju _) λt M=>?_
 let s1:au F (Oc F t (.lst [])):=(au.refl F).upd M
 let ht:Oc F t (.lst []) t>.lst []:=af
 let r:d≠t:=aq h.dt M
 let u:∀p∈ls,p.2≠t:=λp hp=>by
  let⟨as,z,_⟩:=h.li p hp
  show aq z M
 let X:H t=none:=by
  cases e:H t with
  |none=>rfl
  |some o=>have:=h.sm _ _ e;rw[M] at this;cases this
 show⟨d,P,_,iK x,.ref t,Z,Z,s1 _ _ h.dt,by unfold iK;rw[cC];show s1 _ _ hx,by unfold aJ;rw[Jb,Jb];lia,λv hv=>?_,λhv=>?_⟩
 ·rw[cM] at hv
  rcases mh (ls:=ls) (x:=x) with ⟨l,I,e⟩|⟨_,e⟩
  ·rw[hv] at e
   cases e
   let⟨as,Z0,W⟩:=h.li _ I
   let i:=s1 _ _ Z0
   let D:d≠l:=λz=>by have:=h.dt;rw[z,Z0] at this;cases this
   show⟨.inl ⟨Z,_,aM.of i⟩,(ae U) _ ⟨l,_,_,Z,Z,i,by have:↑as=↑(A x):=Nb.length W;rw[Jb];lia,?_⟩⟩
   let J:∀b xs,F b>.tup xs->Oc (Oc F t (.lst [])) l (.lst (as.map V.ref++[.ref b2])) b>.tup xs:=λb xs e=>bj i _ _ (s1 _ _ e)
   show q _ ls ⟨aj D<|s1 _ _ h.dt,λz=>?_,h.nk,h.na,λp hp=>?_,h.fr,?_,h.nd⟩ J ()
   ·by_cases c:z=x
    ·subst c
     show⟨λ_=>nA,λ_=>⟨l,I⟩⟩
    ·change _↔(if z=x then _ else A z)≠[]
     rw[N0 c];show h.ky z
   ·let⟨z,l2⟩:=p
    change fH _ l2 (if z=x then A z++[y] else A z)
    by_cases c:z=x
    ·subst c
     obtain rfl:=vd h.nk hp I
     rw[N1 Z]
     show⟨as++[b2],by rw[af,Jf];rfl,cG (ay W J) (.cons (J _ _ Y) .nil)⟩
    ·rw[N0 c]
     let⟨k,O,R⟩:=h.li _ hp
     let S:l2≠l:=λw=>c (BQ h.na (w▸hp) I)
     show⟨k,aj S<|s1 _ _ O,ay R J⟩
   ·intro b o e
    let S:b≠l:=λw=>by have:=h.fr _ I;rw[<-w,e] at this;cases this
    rw[aj S]
    show s1 _ _ (h.sm _ _ e)
  ·rw[hv] at e;cases e
 ·let B:bg (ls.map λp=>(p.1,V.ref p.2)) x=none:=by rw[<-cM];show hv
  let T:∀l,(x,l)∉ls:=by
   rcases mh (ls:=ls) (x:=x) with ⟨l,_,e⟩|⟨e,_⟩
   ·rw[B] at e;cases e
   ·show e
  let ax:A x=[]:=by
   by_cases c:A x=[]
   ·show c
   ·let⟨l,z⟩:=(h.ky x).mpr c
    show absurd z (T l)
  rw[jJ _ hv]
  let g:Oc (Oc F t (.lst [])) d (.dT (aJ (ls.map λp=>(p.1,V.ref p.2))++[(iK x,.ref t)])) d>.dT (aJ ((ls++[(x,t)]).map λp=>(p.1,V.ref p.2))):=by
   rw[af];unfold aJ;rw[Jf,Jf];rfl
  let f:Oc (Oc F t (.lst [])) d (.dT (aJ (ls.map λp=>(p.1,V.ref p.2))++[(iK x,.ref t)])) t>.lst []:=aj r.symm<|ht
  let kp:∀b o,b≠d->F b>o->Oc (Oc F t (.lst [])) d (.dT (aJ (ls.map λp=>(p.1,V.ref p.2))++[(iK x,.ref t)])) b>o:=λb o hb e=>by rw[aj hb];show s1 _ _ e
  revert g f kp
  generalize Oc (Oc F t (.lst [])) d (.dT (aJ (ls.map λp=>(p.1,V.ref p.2))++[(iK x,.ref t)]))=H2
  intro g f kp
  show⟨.inl ⟨Z,_,aM.of f⟩,(ae U:Ev (cR m) L H2 (.ref b2)) _ ⟨t,_,_,Z,Z,f,by change 0<N9;decide,?_⟩⟩
  let J:∀b xs,F b>.tup xs->Oc H2 t (.lst ([]++[.ref b2])) b>.tup xs:=λb xs e=>by
   rw[aj (aq e M)]
   show kp _ _ (bu e h.dt (λz=>by cases z)) e
  show q _ (ls++[(x,t)]) ⟨aj r<|g,λz=>?_,?_,?_,λp hp=>?_,λp hp=>?_,?_,h.nd⟩ J (Jo<|Jd _)
  ·change _↔(if z=x then A z++[y] else A z)≠[]
   by_cases c:z=x
   ·rw[N1 c]
    show⟨λ_=>by simp,λ_=>⟨t,by rw[c];simp⟩⟩
   ·rw[N0 c,<-h.ky z]
    show⟨λw=>by
     let⟨l,I⟩:=w
     rcases Jz.mp I with e|e
     ·show⟨l,e⟩
     ·show absurd (Prod.mk.inj (Jg.mp e)).1 c,λw=>by
     let⟨l,I⟩:=w
     show⟨l,Ld _ I⟩⟩
  ·rw[Jf]
   show Kh.mpr ⟨h.nk,JE.mpr ⟨JJ,Ka⟩,λa ha b hb e=>?_⟩
   rw[Jg.mp hb] at e
   let⟨p,hp,rfl⟩:=Jh.mp ha
   show T p.2 (by rw[<-show p.1=x from e];show hp)
  ·rw[Jf]
   show Kh.mpr ⟨h.na,JE.mpr ⟨JJ,Ka⟩,λa ha b hb e=>?_⟩
   rw[Jg.mp hb] at e
   let⟨p,hp,rfl⟩:=Jh.mp ha
   show u p hp e
  ·change fH _ p.2 (if p.1=x then A p.1++[y] else A p.1)
   rcases Jz.mp hp with e|e
   ·let c:¬p.1=x:=λz=>T p.2 (by rw[<-z];show e)
    rw[N0 c]
    let⟨k,O,R⟩:=h.li _ e
    let C:p.2≠d:=λz=>by have:=h.dt;rw[<-z,O] at this;cases this
    show⟨k,aj (u p e)<|kp _ _ C O,ay R J⟩
   ·rw[Jg.mp e,N1 Z,ax]
    show⟨[b2],af,.cons (J _ _ Y) .nil⟩
  ·rcases Jz.mp hp with e|e
   ·show h.fr p e
   ·rw[Jg.mp e];show X
  ·intro b o e
   let n1:b≠t:=λw=>by rw[w,X] at e;cases e
   let n2:b≠d:=λw=>by rw[w,h.nd] at e;cases e
   rw[aj n1]
   show kp _ _ n2 (h.sm _ _ e)
theorem q_.same{ls:-(T3×N8)}{A:T3->-T3}(h:q_ H H1 d ls A)(s:au H1 H2):q_ H H2 d ls A:=⟨s _ _ h.dt,h.ky,h.nk,h.na,λp hp=>(h.li p hp).same s,h.fr,h.sm.trans s,h.nd⟩
theorem q_.cong{ls:-(T3×N8)}{A B:T3->-T3}(h:q_ H H1 d ls A)(e:∀x,A x=B x):q_ H H1 d ls B:=by rw[<-funext e];show h
theorem q_.s{ls:-(T3×N8)}{A:T3->-T3}(h:q_ H H1 d ls A):yq H1 d ls A:=⟨h.dt,h.ky,h.nk,h.li⟩
theorem yq.same{ls:-(T3×N8)}{A:T3->-T3}(h:yq H d ls A)(s:au H H1):yq H1 d ls A:=⟨s _ _ h.dt,h.ky,h.nk,λp hp=>(h.li p hp).same s⟩
theorem yq.nr{ls:-(T3×N8)}{W:-(T3×T3)}(h:yq H d ls (Wr.adj W)):D1 H d W:=by
 show⟨ls,h.dt,λx b=>?_⟩
 rcases mh (ls:=ls) (x:=x) with ⟨l,a,e⟩|⟨c,_⟩
 ·show⟨l,e,h.li _ a⟩
 ·let⟨l,z⟩:=(h.ky x).mpr b
  show absurd z (c l)
theorem iI (j n:Nat){a:Hp}{d f:N8}{ls:-(T3×N8)}{A:T3->-T3}{x:T3}{b:St}{Q:VK}(h:yq a d ls A)(g:b[j]?>some (.ref d))(i:b[n]?>some (.ref f))(hx:a f>.tup (x.map V.int))
  (q:∀H2 l,au a H2->fH H2 l (A x)->Q (.ref l) H2):yl K "dict" lS (cR j) (bX (cR n) (bX (rL fE) fE)) b a Q:=by
 unfold yl
 show(ae g:Ev (cR j) b a (.ref d)) _ ⟨.inr (.inr (.inl ⟨Z,.inr ⟨_,h.dt⟩⟩)),?_⟩
 show(ae i:Ev (cR n) b a (.ref f)) _ ?_
 show gY (vs:=[]) aw (Ju _) λt m=>?_
 let s1:au a (Oc a t (.lst [])):=(au.refl a).upd m
 show⟨d,.ref f,.ref t,_,Z,Z,gx.t (k:=iK x) (s1 _ _ h.dt) (by unfold iK;rw[cC];show s1 _ _ hx),?_⟩
 rw[cM]
 rcases mh (ls:=ls) (x:=x) with ⟨l,p,e⟩|⟨r,e⟩
 ·rw[e]
  show q _ l s1 ((h.li _ p).same s1)
 ·rw[e]
  let o:A x=[]:=by
   by_cases c:A x=[]
   ·show c
   ·let⟨l,z⟩:=(h.ky x).mpr c
    show absurd z (r l)
  show q _ t s1 (o<|⟨[],af,.nil⟩)
theorem q_.nil(nd:H d=none):q_ H (Oc H d (.dT [])) d [] (λx=>Wr.adj ([]:-(T3×T3)) x):=⟨af,λx=>⟨λh=>by(let⟨l,h⟩:=h;cases h),λh=>absurd Z h⟩,Ka,Ka,(λp h=>by cases h),(λp h=>by cases h),(au.refl H).upd nd,nd⟩
theorem wg (W:-(T3×T3))(x:T3):↑(Wr.adj W x)<=↑W:=List.length_filterMap_le _ _
theorem kD.bad {st:T3×T3->Bool}{W:-(T3×T3)}{e:T3×T3}(a:W[i]?>e)(h:st e=false\/e.2∈Wr.adj (W.take i) e.1):¬kD st W:=λz=>by
 rcases h with h|h
 ·rw[(z i e a).1] at h;cases h
 ·show(z i e a).2 h
theorem kD.go {st:T3×T3->Bool}{W:-(T3×T3)}{e:T3×T3}(b:W[i]?>e)(z:kD st (W.take i))(h1:st e=true)(a:e.2∉Wr.adj (W.take i) e.1):kD st (W.take (i+1)):=λj f hf=>by
 rw[List.getElem?_take] at hf
 split at hf
 ·by_cases c:j<i
  ·have:=z j f (List.getElem?_take<|N1 c<|hf)
   rw[List.take_take,LF ()] at this
   rw[List.take_take,LF ()];show this
  ·obtain rfl:j=i:=by lia
   rw[b] at hf;cases hf
   rw[List.take_take,LF ()];show⟨h1,a⟩
 ·cases hf
theorem kD.all {st:T3×T3->Bool}{W:-(T3×T3)}(a:n=↑W)(z:kD st (W.take n)):kD st W:=by rw[a,Jx] at z;show z
theorem wm {W:-(T3×T3)}{e:T3×T3}(b:W[i]?>e)(c:e.1≠e.2)(x:T3):(λz=>if z=e.2 then (λz=>if z=e.1 then Wr.adj (W.take i) z++[e.2] else Wr.adj (W.take i) z) z++[e.1] else (λz=>if z=e.1 then Wr.adj (W.take i) z++[e.2] else Wr.adj (W.take i) z) z) x=Wr.adj (W.take (i+1)) x:=by
 rw[aN b,Wr.adj_snoc]
 change(if x=e.2 then (if x=e.1 then _ else _)++[e.1] else if x=e.1 then _ else _)=_
 by_cases c1:x=e.1
 ·let a:¬x=e.2:=λz=>c (by rw[<-c1,<-z])
  rw[N0 a,N1 c1,N1 c1.symm]
 ·by_cases a:x=e.2
  ·rw[N1 a,N0 c1,N0 (λz=>c1 z.symm),N1 a.symm]
  ·rw[N0 a,N0 c1,N0 (λz=>c1 z.symm),N0 (λz=>a z.symm),Km]
theorem dS(h:↑c=3):∃x y z,c=[x,y,z]:=by
 match c,h with
 |[x,y,z],_=>show⟨x,y,z,Z⟩
theorem iX(h:te σ H λ_ H1=>u D σ H1):gr (yQ te) u D σ H:=h
theorem dR(h:te σ H λ_ H1=>D.nx σ H1):yQ te D σ H:=h
theorem lM (x y w:Int):xr [x,y,w] [x,y,w]=false:=by
 show N5 λh=>?_
 simp[jD,uO] at h
 lia
theorem mx.same(h:mx K H)(s:au H H'):mx K H':=by
 rcases h with z|⟨c,e,d,b,a⟩
 ·show .inl (s _ _ z)
 ·show .inr ⟨c,e,s _ _ d,s _ _ b,a⟩
theorem FA.frz {r:N8}{H:Hp}{p k q rd td h:N8}{g:Gd}{i:-(-dh×V)}{o:HO}(j:FA r H p k q rd td g)(n:H h>.dT i)(nr:h≠rd)(v:h≠td):FA r (Oc H h o) p k q rd td g:=by
 let a:∀l∈[h],(∀xs,H l≠some (.tup xs))/\∀C dx fs,H l≠some (.ins C dx fs):=λl u=>by
  rw[Jg.mp u,n];show⟨(λ_ z=>by cases z),λ_ _ _ z=>by cases z⟩
 let c:∀{b:N8} {zs:-V},H b>.lst zs->b∉[h]:=fun{b zs} e m=>by rw[Jg.mp m,n] at e;cases e
 let⟨f,d,_⟩:=id j.pr
 show j.bt ((Bt.refl _ H).set (Jg.mpr Z)) a (c d) (c j.vi) (λm=>nr (Jg.mp m).symm) (λm=>v (Jg.mp m).symm)
theorem thaw(e:H d>u)(s:au (Oc H d v) H2):au H (Oc H2 d u):=λb x a=>by
 by_cases z:b=d
 ·subst z;rw[e] at a;cases a;show af
 ·rw[aj z];show s _ _ (aj z<|a)
theorem lI {ls:-(T3×V)}{i:Nat}{k:-dh}{v:V}(h:(aJ ls)[i]?>(k,v)):∃c,ls[i]?>(c,v)/\k=iK c:=by
 unfold aJ at h
 rw[Jn] at h
 let⟨y,b,a⟩:=JH.mp h
 cases a
 show⟨y.1,b,Z⟩
theorem fR{c:-(-dh×V)}(f:H e>.dT c)(sb:Sb e H H')(a:H b>x)(d:∀k,x≠.dT k):H' b>x:=sb _ _ (λz=>by rw[z,f] at a;cases a;show d _ Z) a
theorem jG.sb{hs:-(T3×Int×Int)}{a:-(-dh×V)}(h:jG H d hs)(g:H e>.dT a)(sb:Sb e H H')(i:d≠e):jG H' d hs:=by
 let⟨ls,h1,h2⟩:=h
 show⟨ls,sb _ _ i h1,Nb.mapP h2 λ_ _ z=>?_⟩
 let⟨f,t,c,b⟩:=z
 show⟨f,t,c,fR g sb b λ_ w=>by cases w⟩
theorem qX.sb {c:N8}{H H':Hp}{p w d e:N8}{b f:Int}{hs:-(T3×Int×Int)}{a:-(-dh×V)}(h:qX c H p w d b f hs)(g:H e>.dT a)(sb:Sb e H H')(i:d≠e):qX c H' p w d b f hs:=by
 let⟨dx,h1,h2⟩:=h
 show⟨dx,fR g sb h1 (λ_ w=>by cases w),h2.sb g sb i⟩
theorem qX.same {b:N8}{H H':Hp}{p w d:N8}{c a:Int}{hs:-(T3×Int×Int)}(h:qX b H p w d c a hs)(s:au H H'):qX b H' p w d c a hs:=by
 let⟨dx,h1,h2⟩:=h
 show⟨dx,s _ _ h1,h2.same s⟩
theorem qX.pp {b:N8}{H:Hp}{p w d:N8}{c a:Int}{hs:-(T3×Int×Int)}(h:qX b H p w d c a hs):FK b H p w c a hs:=by
 let⟨dx,h1,h2⟩:=h
 show⟨dx,d,h1,h2⟩
theorem mx.sb{a:-(-dh×V)}(h:mx K H)(b:H e>.dT a)(sb:Sb e H H'):mx K H':=by
 rcases h with z|⟨c,i,g,f,d⟩
 ·show .inl (fR b sb z (λ_ w=>by cases w))
 ·show .inr ⟨c,i,fR b sb g (λ_ w=>by cases w),fR b sb f (λ_ w=>by cases w),d⟩
theorem mx.keep(h:mx K H)(s:Bb K H H'){b:N8}{x:HO}(e:H b>x)(a:∀ps,x≠.tbl ps):H' b>x:=s _ _ (λw=>by
 rcases h with z|⟨_,_,z,_⟩<;>(rw[w,z] at e;cases e;show a _ Z)) e
theorem iG.sb{F:-(Nat×V)}{d:-(-dh×V)}(h:iG mg H f g F e)(C:H e>.dT d)(s:Sb e H H'):iG mg H' f g F e:=by
 let⟨c,D,a,E,o,rd,j,h1,h2,u,A,y,ls,r,w,n⟩:=h
 let kp:∀{b:N8} {x:HO},H b>x->(∀d,x≠.dT d)->H' b>x:=λi v=>fR C s i v
 show⟨c,D,a,E,o,rd,j,kp h1 (λ_ z=>by cases z),kp h2 (λ_ z=>by cases z),u,kp A (λ_ z=>by cases z),y,ls,s _ _ j r,w,λq hq=>?_⟩
 let⟨l,m,p,k,B⟩:=n q hq
 show⟨l,m,p,kp k (λ_ z=>by cases z),eh B λb ys i=>kp i (λ_ z=>by cases z)⟩
theorem qX.keep {b:N8}{K:Je}{H H':Hp}{p w d:N8}{a c:Int}{hs:-(T3×Int×Int)}(h:qX b H p w d a c hs)(t:mx K H)(s:Bb K H H'):qX b H' p w d a c hs:=by
 let⟨dx,h1,ls,h2,f⟩:=h
 show⟨dx,t.keep s h1 (λ_ w=>by cases w),ls,t.keep s h2 (λ_ w=>by cases w),Nb.mapP f λ_ _ z=>?_⟩
 let⟨e,i,j,g⟩:=z
 show⟨e,i,j,t.keep s g (λ_ w=>by cases w)⟩
theorem zG {a:Type}{f:a->Bool}{xs:-a}{x:a}(h:xs[i]?>x)(h1:(xs.take i).all f=true)(b:f x=true):(xs.take (i+1)).all f=true:=by
 rw[aN h,List.all_append,h1,Bool.true_and,List.all_cons,b];rfl
theorem E1 {a:Type}{f:a->Bool}{xs:-a}{i:Nat}{x:a}(h:xs[i]?>x)(b:f x=false):xs.all f=false:=by
 rw[<-Bool.not_eq_true,JV]
 intro z
 rw[z x (Jl h)] at b;cases b
theorem gT(q:tc σ H λb H1=>if b=true then t D σ H1 else u D σ H1):mG tc t u D σ H:=q
theorem EG {H:Hp}{d:-N8}{xs:-(T3×Int)}{i:Nat}{a:N8}(h:Nb (Co H) d xs)(e:d[i]?>a):∃c v b,xs[i]?>(c,v)/\H a>.tup [.ref b,.int v]/\H b>.tup (c.map V.int):=by
 let⟨⟨c,v⟩,h1,b,h2,f⟩:=gC h e
 show⟨c,v,b,h1,h2,f⟩
theorem Ak (g:Gd)(F:-(Nat×V))(c:T3):↑(fx g F c)<=6:=by
 unfold fx gW
 show Jt (LC _ _) ?_
 split
 ·show Ju _
 ·rw[Jb];show LC _ _
noncomputable def uH (W:-(T3×T3)) (s:T3):-T3:=(List.range (Wr.wl W s+1)).map (Wr.tr W s)
theorem fH.sb{a:-(-dh×V)}(h:fH H l cs)(e:H d>.dT a)(sb:Sb d H H'):fH H' l cs:=by
 let⟨as,h1,h2⟩:=h
 show⟨as,fR e sb h1 (λ_ z=>by cases z),ay h2 λb xs z=>fR e sb z (λ_ w=>by cases w)⟩
theorem kq {a:Type}{f:a->Bool}{xs:-a}(h:xs.any f=false){x:a}(hx:x∈xs):f x=false:=by
 cases e:f x with
 |false=>rfl
 |true=>rw[List.any_eq_true.mpr ⟨x,hx,e⟩] at h;cases h
theorem iZ {a:Type}{f:a->Bool}{xs:-a}(h:xs.any f=true):∃x∈xs,f x=true:=List.any_eq_true.mp h
theorem zU{ls:-(T3×N8)}{W:-(T3×T3)}(h:yq H d ls (Wr.adj W))(g:↑W<=100):↑ls<=200:=by
 let h1:∀x∈ls.map (·.1),x∈W.map (·.1)++W.map (·.2):=λx f=>by
  let⟨p,hp,rfl⟩:=Jh.mp f
  have:=(h.ky p.1).mp ⟨p.2,hp⟩
  let⟨y,b⟩:=List.exists_mem_of_ne_nil _ this
  unfold Wr.adj at b
  let⟨e,a,z⟩:=KW.mp b
  split at z
  ·rename_i c;show Ld _ (Jh.mpr ⟨e,a,c⟩)
  ·split at z
   ·rename_i c;show Kf _ (Jh.mpr ⟨e,a,c⟩)
   ·cases z
 have:=Wr.sub_len h.nk h1
 rw[Jb,Jo,Jb,Jb] at this
 lia
theorem yq.val{ls:-(T3×N8)}{A:T3->-T3}(h:yq H d ls A){c:T3}{l:N8}(a:(c,l)∈ls):bg (aJ (ls.map λp=>(p.1,V.ref p.2))) (iK c)>.ref l:=by
 rw[cM]
 rcases mh (ls:=ls) (x:=c) with ⟨f,h',e⟩|⟨b,_⟩
 ·rw[e,vd h.nk h' a]
 ·show absurd a (b l)
theorem cD(h:Ev te σ H (.ref l))(a:H l>.lst xs):Ev (BI (λxs H Q=>∃x n,xs=[x]/\B_ K x H n/\Q (.int (n:Nat)) H) (bX te fE)) σ H (.int (↑xs:Nat)):=dH (ag h aw) λ_ q=>⟨_,_,Z,.inl ⟨_,aM.of a,Z⟩,q⟩
theorem sU:decide (V.int (n:Nat)=V.int 1)=decide (n=1):=decide_eq_decide.mpr ⟨λz=>by injection z;lia,λz=>by rw[z];rfl⟩
theorem jN(h:fH H l cs):∃xs,H l>.lst xs/\↑xs=↑cs:=by
 let⟨as,h1,h2⟩:=h
 show⟨_,h1,Jb<|Nb.length h2⟩
theorem Az{W:-(T3×T3)}(h:Nb (λl s=>fH H l (uH W s)) ws cs)(s:au H H'):Nb (λl s=>fH H' l (uH W s)) ws cs:=Nb.mapP h λ_ _ z=>z.same s
theorem EI {d c:Type}{R:d->c->Prop}{as:-d}{bs:-c}{a:d}{b:c}(h:Nb R as bs)(r:R a b):Nb R (as++[a]) (bs++[b]):=cG h (.cons r .nil)
theorem Ae{W:-(T3×T3)}(h:fH H l (uH W s)):∃as a,H l>.lst ((as++[a]).map V.ref)/\H a>.tup ((Wr.tr W s (Wr.wl W s)).map V.int)/\↑as=Wr.wl W s:=by
 let⟨as,h1,h2⟩:=h
 let len:↑as=Wr.wl W s+1:=by rw[Nb.length h2];unfold uH;rw[Jb,Ks]
 let b:as≠[]:=λz=>by rw[z] at len;cases len
 let e:=(Ma b).symm
 let f:↑as.dropLast=Wr.wl W s:=by rw[List.length_dropLast,len];rfl
 show⟨as.dropLast,as.getLast b,by rw[<-e];show h1,?_,f⟩
 let⟨c,d,ha⟩:=br h2 (i:=Wr.wl W s) (a:=as.getLast b) (by rw[List.getLast_eq_getElem,JI ()];congr 1;congr 1;lia)
 unfold uH at d
 rw[Jn,LX (J9 _)] at d
 rw[Option.some.inj d]
 show ha
theorem EL {d c:Type}{R S:d->c->Prop}{as:-d}{bs:-c}(h:Nb R as bs)(f:∀a b,a∈as->R a b->S a b):Nb S as bs:=by
 induction h with
 |nil=>show .nil
 |cons r t ih=>show .cons (f _ _ JA r) (ih λa b ha=>f a b (JC _ ha))
theorem B4 (f:T3->Nat)(l:-T3):(l.map λc=>((f c:Nat):Int)).sum=(((l.map f).sum:Nat):Int):=by
 induction l with
 |nil=>rfl
 |cons a t ih=>rw[Jq,List.sum_cons,ih,Jq,List.sum_cons];lia
theorem DR(ok:fu g){e:T3×T3}(h1:↑e.1=3)(m:↑e.2=3)(h:yi g e=true):rp g e:=by
 let⟨c,d⟩:=e
 let⟨x,y,w,rfl⟩:=dS h1
 let⟨l,k,w',rfl⟩:=dS m
 unfold yi at h
 simp only[Jv] at h
 let⟨b,a,f⟩:=h
 let i1:kg g.L g.R g.C x y w:=by unfold jk at a;simp only[Jv] at a;show N4 a.1
 let i2:kg g.L g.R g.C l k w':=by unfold jk at f;simp only[Jv] at f;show N4 f.1
 let j:=wB ok.S i1
 let i:=wB ok.S i2
 let hm:=ok.M
 show⟨xi g.R g.C [x,y,w],xi g.R g.C [l,k,w'],(),(),by rw[j.1,i.1],?_,?_,?_⟩
 ·rw[j.1,i.1];show b
 ·rw[j.1];show a
 ·rw[i.1];show f
theorem kD.sim{W:-(T3×T3)}(d:L3 W)(h:kD (yi g) W):Wr.Sim W:=by
 have:∀n,n<=↑W->Wr.Sim (W.take n):=λn=>by
  induction n with
  |zero=>intro _;show Wr.Sim.nil
  |succ n ih=>
   intro f
   let b:W[n]?=some W[n]:=JI f
   let⟨a,c⟩:=h n _ b
   rw[aN b]
   show Wr.Sim.snoc (ih ()) (λz=>?_) c
   let⟨x,y,w,e⟩:=dS (d _ (Jl b)).1
   unfold yi at a
   rw[<-z,e,lM] at a
   cases a
 have:=this ↑W (Jd _)
 rw[Jx] at this
 show this
theorem Ba.same(h:Ba cU H u A B)(s:au H H'):Ba cU H' u A B:=by
 let⟨dx,a,b,fs,h1,h2,d,f,⟨as,e,c⟩,⟨bs,g,b2⟩⟩:=h.ex
 show⟨dx,a,b,fs,s _ _ h1,h2,d,f,⟨as,s _ _ e,ay c λ_ _ z=>s _ _ z⟩,⟨bs,s _ _ g,ay b2 λ_ _ z=>s _ _ z⟩⟩
theorem Bb.of(s:au H H'):Bb K H H':=λb x _ e=>s _ _ e
theorem G6 {w d:N8}{a b:Int}:(fB w d a b).lookup ("price" :Nh)>.int a:=by kernel_rfl
theorem II {w d:N8}{a b:Int}:(fB w d a b).lookup ("ends_hold" :Nh)=none:=by kernel_rfl
theorem IW {w d:N8}{a b:Int}:(fB w d a b).lookup ("climbs_hold" :Nh)=none:=by kernel_rfl
theorem DO (i:Int):(if i<0 then 0 else i)=max i 0:=by split<;>lia
theorem jZ(h:sd ta σ H [.int j])(h1: -2^62<=j)(a:j<2^62)(q:nM (λ_ H R=>R (Dc 0 j.toNat) H) g tb D σ H):nM (vT ta) g tb D σ H:=h _ ⟨j,Z,h1,a,q⟩
theorem Bz(h:sd ta σ H [.int i,.int j])(h1: -2^62<=i/\i<2^62/\ -2^62<=j/\j<2^62)(q:nM (λ_ H R=>R (Dc i (j - i).toNat) H) g tb {D with nx:=u D} σ H):gr (nM (Dt ta) g tb) u D σ H:=h _ ⟨i,j,Z,h1,q⟩
theorem zS(h:tv σ H λv H1=>td σ H1 λx H2=>ty σ H2 λy H3=>∃a H4,x=.ref a/\ip H3 a y v H4/\u D σ H4):gr (rA td ty tv) u D σ H:=h
theorem iU {X:St->Hp->Prop}{a σ':St}{H:Hp}(e:a=σ')(h:X σ' H):X a H:=e▸h
theorem zF(h:jm tc σ H b)(q:Q b H):tc σ H Q:=h _ q
theorem Dy {xs:-N8}{i:Int}(h0:0<=i)(h1:i<↑xs):∃b,xs[i.toNat]?>b/\jH (xs.map V.ref) i>.ref b:=by
 let⟨n,rfl⟩:=Lb h0
 let hi:n<↑xs:=by lia
 show⟨xs[n],JI hi,bC ?_⟩
 rw[Jn,JI hi];rfl
theorem jI (ns:-Int):(Lz ns:Int)=1+bZ ns 0%2/\1<=Lz ns/\Lz ns<=2:=by unfold Lz;lia
theorem vp (ns:-Int):(Rz ns:Int)=1+bZ ns 1%4/\1<=Rz ns/\Rz ns<=4:=by unfold Rz;lia
theorem kZ (ns:-Int):(Cz ns:Int)=2+bZ ns 2%5/\2<=Cz ns/\Cz ns<=6:=by unfold Cz;lia
theorem m9 (ns:-Int):1<=Nz ns/\Nz ns<=8:=by
 let h1:=jI ns
 let h2:=vp ns
 unfold Nz
 generalize Lz ns=l at*
 generalize Rz ns=r at*
 have:l=1\/l=2:=by lia
 rcases this with rfl|rfl<;>lia
theorem vz {r c i x:Nat}(hx:x<c):lN r i++[(x:Int)]=sN (r:Int) (c:Int) (i*c+x):=by
 unfold lN sN
 let h1:(i*c+x)/c=i:=by
  rw[Kt,Nat.mul_add_div (),LB hx,K9]
 let h2:(i*c+x)%c=x:=by
  rw[Kt,Nat.mul_add_mod,Nat.mod_eq_of_lt hx]
 rw[<-Ll,<-Ll,<-Int.natCast_emod,<-Int.natCast_emod,h1,h2]
 rfl
theorem D_(h:lN r i=lN r j):i=j:=by
 unfold lN at h
 injection h with h1 h
 injection h with h2 _
 rw[<-Nat.div_add_mod i r,<-Nat.div_add_mod j r,Int.ofNat_inj.mp h1,Int.ofNat_inj.mp h2]
theorem qD {c i j x y:Nat}(hx:x<c)(a:y<c)(h:i*c+x=j*c+y):i=j/\x=y:=by
 let h1:(i*c+x)/c=i:=by rw[Kt,Nat.mul_add_div (),LB hx,K9]
 let h2:(j*c+y)/c=j:=by rw[Kt,Nat.mul_add_div (),LB a,K9]
 let e:i=j:=by rw[<-h1,<-h2,h]
 subst e
 show⟨Z,()⟩
theorem jE {c n i x:Nat}(a:i<n)(hx:x<c):i*c+x<n*c:=by
 have:(i+1)*c<=n*c:=Nat.mul_le_mul_right _ a
 rw[Nat.add_mul] at this
 lia
theorem BV (ns:-Int):Nz ns*Cz ns<=48:=by
 let h1:=m9 ns
 let h2:=kZ ns
 calc Nz ns*Cz ns<=8*6:=LG h1.2 h2.2.2
  _=48:=rfl
theorem kW (ns:-Int):pD (Lz ns:Int) (Rz ns:Int) (Cz ns:Int):=by
 have:=jI ns;have:=vp ns;have:=kZ ns
 show⟨(),(),(),(),(),()⟩
def mZ (r n:Nat):-T3:=(List.range n).map (lN r)
theorem ff(h:Ev te σ H v)(q:Q v H):te σ H Q:=h _ q
theorem cE{tr:TA}{Q:-V->Hp->Prop}(h:te σ H λx H1=>tr σ H1 λxs H2=>Q (x::xs) H2):bX te tr σ H Q:=h
theorem bK {K:Je}{b:St}{H:Hp}{ta:TA}{a:N8}{ns:-Int}(i:Nat)(h:sd ta b H [.ref a,.int (i:Int)])(c:aM K H a (ns.map V.int)):Ev (jP (eE K) [] E0 ta) b H (.int (bZ ns i)):=zN h λ_ z=>⟨a,ns,i,Z,c,z⟩
def GH (te:TE) (a:St) (H:Hp) (P:Int->Prop):Prop:=∀Q:VK,(∀v,P v->Q (.int v) H)->te a H Q
theorem qE(h:sd ta σ H [.int c,.int k,.int p])(a:1<=p)(b:p<=2000000):GH (jP pV [] E0 ta) σ H (λv=>0<=v):=λ_ z=>eK h ⟨c,k,p,Z,a,b,z⟩
theorem qo(h:GH ta σ H (λv=>0<=v))(b:Ev tb σ H (.int m))(a:0<m):GH (gb (rI (λ_ j=>0<j) λi j=> .int (i%j)) ta tb) σ H (λv=>0<=v/\v<m):=
 λ_ z=>h _ λv _=>b _ ⟨v,m,Z,Z,a,z _ ⟨JO _ (),JQ _ a⟩⟩
theorem Fx {K:Je}{ta d:TE}{c:St}{H:Hp}{a:N8}{as:-N8}{Q:VK}(f:Ev ta c H (.ref a))(e:GH d c H (λv=>0<=v/\v<(↑as:Int)))(g:aM K H a (as.map V.ref))(q:∀(i:Nat) b,as[i]?>b->Q (.ref b) H):gb (nu K) ta d c H Q:=
 f _ (e _ λv hv=>by
  let⟨b,h1,h2⟩:=Dy (xs:=as) hv.1 hv.2
  show⟨a,_,v,_,Z,Z,g,h2,q _ b h1⟩)
theorem sW {b a:Type}{F:b->a->Prop}{as:-b}{cs:-a}(h:Nb F as cs):∀k,Nb F (as.eraseIdx k) (cs.eraseIdx k):=by
 induction h with
 |nil=>show λ_=> .nil
 |cons r t ih=>
  intro k
  cases k with
  |zero=>show t
  |succ k=>show .cons r (ih k)
theorem mJ(h:aM K H a xs)(k:∀o,H a>o->H' a>o):aM K H' a xs:=by
 rcases h with (z|⟨o,z⟩)|z
 ·show .inl (.inl (k _ z))
 ·show .inl (.inr ⟨o,k _ z⟩)
 ·show .inr z
theorem tM {b:Type}{l:-b}:∀{i:Nat} (h:i<↑l),(l[i]::l.eraseIdx i).Perm l:=by
 induction l with
 |nil=>intro i h;cases h
 |cons a l ih=>
  intro i h
  cases i with
  |zero=>show List.Perm.refl _
  |succ i=>show(List.Perm.swap _ _ _).trans ((ih (i:=i) (by simpa using h)).cons a)
theorem FG(a:j<r):lN r (i*r+j)=[(i:Int),(j:Int)]:=by
 unfold lN
 rw[show(i*r+j)/r=i by rw[Kt,Nat.mul_add_div (),LB a,K9],show(i*r+j)%r=j by rw[Kt,Nat.mul_add_mod,Nat.mod_eq_of_lt a]]
theorem tR (r n:Nat):mZ r (n+1)=mZ r n++[lN r n]:=by
 unfold mZ
 rw[List.range_succ,Jf];rfl
theorem nX (r n:Nat):↑(mZ r n)=n:=by unfold mZ;rw[Jb,Ks]
theorem BK (ns:-Int):∃m:Nat,1+bZ ns 3%(if ((Nz ns:Nat):Int)<6 then ((Nz ns:Nat):Int) else 6)=(m:Int)/\1<=m/\m<=6/\m<=Nz ns/\0<(if ((Nz ns:Nat):Int)<6 then ((Nz ns:Nat):Int) else 6):=by
 let f:=m9 ns
 generalize Nz ns=n at*
 obtain⟨d,a,c,e⟩:∃d:Int,(if ((n:Nat):Int)<6 then ((n:Nat):Int) else 6)=d/\1<=d/\d<=6/\d<=n:=by split<;>show⟨_,Z,(),(),()⟩
 rw[a]
 let b:=JO (bZ ns 3) (show d≠0 by lia)
 let h1:=JQ (bZ ns 3) (show 0<d by lia)
 show⟨(1+bZ ns 3%d).toNat,(),(),(),(),()⟩
theorem En {cs:-Int}{i:Int}(h0:0<=i)(h1:i<↑cs):∃c,jH (cs.map V.int) i>.int c:=by
 let⟨n,rfl⟩:=Lb h0
 let hi:n<↑cs:=by lia
 show⟨cs[n],bC ?_⟩
 rw[Jn,JI hi];rfl
theorem Ib (x y i:Int):∃c,jH ([x,y].map V.int) (i%2)>.int c/\(c=x\/c=y):=by
 let a:=JO i (show(2:Int)≠0 by decide)
 let h1:=JQ i (show(0:Int)<2 by decide)
 have:i%2=((0:Nat):Int)\/i%2=((1:Nat):Int):=by lia
 rcases this with e|e<;>rw[e]
 ·show⟨x,bC Z,.inl Z⟩
 ·show⟨y,bC Z,.inr Z⟩
theorem TV.put {a:-(Nat×V)}(h:TV a)(h0:0<=i)(h1:i<=1000000000000):TV (bW a n (.int i)):=λp hp=>by
 rcases jU hp with z|z
 ·show h p z
 ·rw[z];show⟨i,Z,h0,h1⟩
theorem AF{a:-(Nat×V)}(h:TV a)(c:T3):dJ R C a c<=1000000000000:=by
 unfold dJ
 cases e:bg (aZ R C a) (iK c) with
 |none=>change(0:Int)<=_;decide
 |some v=>
  let⟨p,hp,b⟩:=Jh.mp (gS e)
  let⟨i,d,_,i1⟩:=h p hp
  let f:p.2=v:=congrArg Prod.snd b
  rw[<-f,d];show i1
theorem eB {K:Je}{te e:TE}{a:St}{H:Hp}{b:N8}{r c j x:Nat}{Q:VK}(h:Ev te a H (.ref b))(f:H b>.tup ((lN r j).map V.int))(hx:x<c)(hv:Ev e a H (.int (x:Int)))
  (q:∀p H',au H H'->H p=none->H' p>.tup ((sN (r:Int) (c:Int) (j*c+x)).map V.int)->Q (.ref p) H'):gb (v7 K) te (p_ (bX e fE)) a H Q:=
 vU (x:=lN r j) (λv=>v=(x:Int)) h f (λz=>by cases z) (by change 2<=10;decide) (λQ' z=>hv _ (z _ Z)) λv p H' d s g hp=>by
  subst d
  rw[vz hx] at hp
  show q p H' s g hp
theorem u_ {ns:-Int}{a b:-Nat}(h:(a++b).Perm (List.range (Nz ns))):(∀j∈a,j<Nz ns)/\(∀j∈b,j<Nz ns)/\↑a+↑b=Nz ns/\(∀j∈a,j∉b)/\a.Nodup/\b.Nodup:=by
 let nd:(a++b).Nodup:=h.nodup_iff.mpr List.nodup_range
 have:=Kh.mp nd
 show⟨λj c=>J8.mp (h.mem_iff.mp (Ld _ c)),λj c=>J8.mp (h.mem_iff.mp (Kf _ c)),?_,λj c hr=>this.2.2 j c j hr Z,this.1,this.2.1⟩
 have:=h.length_eq
 rw[Jo,Ks] at this
 show this
theorem BP {b:Type} [DecidableEq b](a:-(b×V))(k:b)(v:V):bW a k v≠[]:=λz=>by
 have:=qK a k k v
 rw[z,N1 Z] at this
 cases this
theorem C3.same {H H':Hp}{t j i g a b:N8}{ns:-Int}{aW c:Int}{e f d:-Nat}{k F:-(Nat×V)}(h:C3 H t j i g a b ns aW c e f d k F)(s:au H H'):C3 H' t j i g a b ns aW c e f d k F:=⟨s _ _ h.tp,h.la.same s,h.ot.same s,h.ro.same s,s _ _ h.tl,s _ _ h.dd⟩
theorem cW(b:Ev ta σ H (.ref p))(a:Ev tb σ H (.int i))(c:H p>.tup xs)(d:jH xs i>v):Ev (gb (mX K) ta tb) σ H v:=λQ q=>b _ (a _ ⟨p,xs,i,v,Z,Z,bh.of c,d,q⟩)
theorem uE (R C:Int)(n:Nat):↑(sN R C n)=3:=rfl
theorem An{ns:-Int}(h:n<Nz ns*Cz ns):G3 (sN (Rz ns) (Cz ns) n):=by
 let d:=jI ns
 let a:=vp ns
 let b:=kZ ns
 let h1:n/Cz ns<Nz ns:=L4 (Kt<|h)
 let h2:n/Cz ns/Rz ns<Lz ns:=L4 (Kt<|h1)
 let e:n/Cz ns%Rz ns<Rz ns:=Nat.mod_lt _ ()
 let c:n%Cz ns<Cz ns:=Nat.mod_lt _ ()
 show⟨n/Cz ns/Rz ns,n/Cz ns%Rz ns,n%Cz ns,?_,(),(),()⟩
 unfold sN
 rw[<-Ll,<-Ll,<-Int.natCast_emod,<-Int.natCast_emod]
theorem jG.new{f:-(T3×Int×Int)}{ls:-(T3×V)}(k:Nb (o3 H) ls f)(o:∀q∈f,q.1≠c)(e:H' h>.dT (bW (aJ ls) (iK c) (.ref t)))(l:∀b xs,H b>.tup xs->H' b>.tup xs)(ht:H' t>.tup [.int lo,.int hi]):∃a,H' h>.dT (aJ a)/\Nb (o3 H') a (f++[(c,lo,hi)]):=by
 let n:bg (aJ ls) (iK c)=none:=by
  rw[cM]
  rcases kJ k c with ⟨z,_⟩|⟨j,q,g,d,_⟩
  ·show z
  ·unfold C4 at d
   let⟨y,i,_⟩:=JH.mp d
   let w:=List.find?_some i
   show absurd (N4 w) (o y (L9 i))
 show⟨ls++[(c,.ref t)],by rw[e,jJ _ n];unfold aJ;rw[Jf];rfl,?_⟩
 show cG (Nb.mapP k λ_ _ z=>?_) (.cons ⟨Z,t,Z,ht⟩ .nil)
 let⟨g,j,d,m⟩:=z
 show⟨g,j,d,l _ _ m⟩
theorem CH(h:te σ H λv H1=>D.nx (σ.set n (some v)) H1):lu te (eM n) D σ H:=h
theorem IM (x y z i:Int):∃c,jH ([x,y,z].map V.int) (i%3)>.int c/\(c=x\/c=y\/c=z):=by
 let a:=JO i (show(3:Int)≠0 by decide)
 let h1:=JQ i (show(0:Int)<3 by decide)
 have:i%3=((0:Nat):Int)\/i%3=((1:Nat):Int)\/i%3=((2:Nat):Int):=by lia
 rcases this with e|e|e<;>rw[e]
 ·show⟨x,bC Z,.inl Z⟩
 ·show⟨y,bC Z,.inr (.inl Z)⟩
 ·show⟨z,bC Z,.inr (.inr Z)⟩
theorem qk(h:Ev te σ H (.bl b)):Ev (BI (λxs H Q=>(∃i,xs=[.int i]/\Q (.int i) H)\/∃k,xs=[.bl k]/\Q (.int (if k=true then 1 else 0)) H) (bX te fE)) σ H (.int (if b=true then 1 else 0)):=dH (ag h aw) λ_ q=> .inr ⟨b,Z,q⟩
theorem Cb (b:Bool): -2^64<(if b=true then (1:Int) else 0)/\(if b=true then (1:Int) else 0)<2^64:=by cases b<;>decide
theorem oA{c:-(-dh×V)}(h:aM K H a xs)(e:H d>.dT c)(k:∀b o,b≠d->H b>o->(∀z,o≠.dT z)->H' b>o):aM K H' a xs:=by
 rcases h with (z|⟨o,z⟩)|z
 ·show .inl (.inl (k _ _ (λw=>by rw[w,e] at z;cases z) z (λ_ w=>by cases w)))
 ·show .inl (.inr ⟨o,k _ _ (λw=>by rw[w,e] at z;cases z) z (λ_ w=>by cases w)⟩)
 ·show .inr z
theorem EH(a:Ev ta σ H x)(h:tb σ H λy H2=>r x y H2 Q):gb r ta tb σ H Q:=a _ h
theorem lK(h:ta σ H λx H1=>tb σ H1 λy H2=>r x y H2 λv H3=>∃k,v=.bl k/\if k=true then Q true H3 else t2 σ H3 Q):F9 (k9 (gb r ta tb)) t2 σ H Q:=h
theorem BS {F:-(Nat×V)}{f:Nat->T3}(nd:(F.map (·.1)).Nodup)(h:∀i∈F.map (·.1),∀j∈F.map (·.1),f i=f j->i=j):(F.map λp=>f p.1).Nodup:=by
 have:=gv nd h
 rw[JF] at this
 show this
theorem F5:r8 (Nh.ofString "b"):=⟨by decide+kernel,by decide+kernel,by decide+kernel,⟨98,[],by decide+kernel,by decide+kernel⟩,by decide+kernel⟩
theorem FM:r8 (Nh.ofString "b1"):=⟨by decide+kernel,by decide+kernel,by decide+kernel,⟨98,[49],by decide+kernel,by decide+kernel⟩,by decide+kernel⟩
theorem Gi{tr:TA}{Q:-V->Hp->Prop}(h:Ev te σ H v)(q:tr σ H λxs H2=>Q (v::xs) H2):bX te tr σ H Q:=h _ q
theorem wM(h:bG H as cs):∀n,bG H (as.drop n) (cs.drop n):=by
 induction h with
 |nil=>intro n;rw[List.drop_nil,List.drop_nil];show .nil
 |cons r t ih=>
  intro n
  cases n with
  |zero=>show .cons r t
  |succ n=>show ih n
theorem xq {b c:Type}{f:b->c}{l:-b}(h:(l.map f).Nodup):l.Nodup:=by
 induction l with
 |nil=>show Ka
 |cons a t ih=>
  rw[Jq,JE] at h
  show JE.mpr ⟨λz=>h.1 (JG z),ih h.2⟩
theorem tN(h:((A++B).map c_).Nodup)(h1:↑A<=200)(a:↑B<=200):Ho (some (A,B)):=by
 let nd:(A++B).Nodup:=xq h
 have:=Kh.mp nd
 show⟨this.1,λs hs z=>this.2.2 s hs s z Z,h1,a⟩
theorem Hx{nm:Nh}(c:H x=none)(nd:H dx=none)(g:fH H l A)(d:fH H m B)(o:((A++B).map c_).Nodup)(w:1<=↑A)(v:↑A<=6)(p:↑A<=↑B)(e:↑B<=12)(i:r8 nm)(n:0<=r)(j:r<=3)
  (q:∀H',au H H'->Ba cU H' x A B->Q .non H'):lP cU [.ref x,.str nm,.ref l,.ref m,.int r] (Oc (Oc H dx (.own x)) x (.ins cU dx [])) Q E0:=by
 let a:au H (Oc (Oc H dx (.own x)) x (.ins cU dx [])):=i_ c nd
 let⟨as,h,b⟩:=g
 let⟨bs,k,b2⟩:=d
 let y:↑as=↑A:=Nb.length b
 let u:↑bs=↑B:=Nb.length b2
 show⟨x,dx,l,m,as,bs,A,B,nm,r,Z,af,a _ _ h,a _ _ k,ay b λ_ _ z=>a _ _ z,ay b2 λ_ _ z=>a _ _ z,o,(),(),(),(),i,n,j,λH' bt f=>q H' (fM.same a c bt) f⟩
theorem wj{F:-(Nat×V)}:∃F':-(Nat×V),lz (aZ R C F) k=aZ R C F'/\F'.Sublist F:=by
 show⟨F.filter λp=>decide (iK (sN R C p.1)≠k),?_,List.filter_sublist⟩
 unfold lz aZ
 rw[List.filter_map];rfl
theorem Ay {ls:-(T3×V)}:∃a:-(T3×V),lz (aJ ls) k=aJ a/\a.Sublist ls:=by
 show⟨ls.filter λp=>decide (iK p.1≠k),?_,List.filter_sublist⟩
 unfold lz aJ
 rw[List.filter_map];rfl
theorem w5.same {H H':Hp}{m w h:N8}{b a:Int}{as:-N8}{W:-(T3×T3)}{hs:-(T3×Int×Int)}(x:w5 H m w h b a as W hs)(s:au H H'):w5 H' m w h b a as W hs:=⟨s _ _ x.m,s _ _ x.w,x.W.same s,x.h.same s⟩
theorem Ed (xs:-V)(k:Int)(h:0<=k):∃n,gh xs (some k) none=xs.drop n:=by
 let⟨n,rfl⟩:=Lb h
 show⟨HT.sIx ↑xs 0 (some (n:Int)),?_⟩
 unfold gh
 rw[LY]
 rw[KA]
 change _<=↑xs - _
 show Jd _
theorem kD.simJ{F:-(Nat×V)}{W:-(T3×T3)}(d:L3 W)(h:kD (sS g F) W):Wr.Sim W:=by
 have:∀n,n<=↑W->Wr.Sim (W.take n):=λn=>by
  induction n with
  |zero=>intro _;show Wr.Sim.nil
  |succ n ih=>
   intro f
   let b:W[n]?=some W[n]:=JI f
   let⟨a,c⟩:=h n _ b
   rw[aN b]
   show Wr.Sim.snoc (ih ()) (λz=>?_) c
   unfold sS at a
   rw[Jv,decide_eq_true_iff] at a
   let m:=(Ke.mp a.2).1
   let⟨x,y,w,e⟩:=dS (d _ (Jl b)).1
   have:=lM x y w
   rw[<-z,e] at m
   show absurd m (N6 this)
 have:=this ↑W (Jd _)
 rw[Jx] at this
 show this
structure Fz (W:-(T3×T3)) (A B:-T3) (c:T3):Prop where
 l2:↑(Wr.adj W c)=1
 l3:∀i,0<i->i<Wr.wl W c->Wr.tr W c i∉A/\Wr.tr W c i∉B
 l4:Wr.tr W c (Wr.wl W c)∈B
 l5:↑(Wr.adj W (Wr.tr W c (Wr.wl W c)))=1
theorem Fz.of {W:-(T3×T3)}(h:Wr.LV W A B)(a:c∈A):Fz W A B c:=⟨h.l2 c a,h.l3 c a,(h.l4 c a).1,(h.l4 c a).2⟩
theorem Dk{h:-(T3×Int×Int)}(h1:Ev td σ H (.ref d))(m:Ev ty σ H (.ref b))(r:Ev tz σ H (.ref p))(o:jG H d h)(l:H b>.tup (c.map V.int))(k:H p>.tup [.int de,.int de]):
  Ev (gb (mX K) (yl K "dict" lS td (bX ty (bX tz fE))) (tC (.int 0))) σ H (.int (hv h de c).1)/\Ev (gb (mX K) (yl K "dict" lS td (bX ty (bX tz fE))) (tC (.int 1))) σ H (.int (hv h de c).2):=by
 let⟨ls,i,n⟩:=o
 let g:=dg (.inl i) l
 rw[cM] at g
 let e:=lJ (K:=K) h1 m r i g
 unfold hv
 rcases kJ n c with ⟨f,a⟩|⟨t,q,f,a,j⟩
 ·rw[f] at e
  rw[a]
  show⟨cW e az k Z,cW e az k Z⟩
 ·rw[f] at e
  rw[a]
  show⟨cW e az j Z,cW e az j Z⟩
theorem wH(ok:fu g)(d:g.L<=2){F:-(Nat×V)}(c:Tb g.M F){x y w:Int}(h:dI g.R g.C F [x,y,w]=true):0<=x/\x<=1/\kg g.L g.R g.C x y w:=by
 unfold dI at h
 let⟨v,hv⟩:=K0.mp h
 let⟨p,hp,e⟩:=Jh.mp (gS hv)
 let a:iK (sN g.R g.C p.1)=iK [x,y,w]:=congrArg Prod.fst e
 let i:=mC ok (c.lt p hp) (gV a).symm
 let b:=i
 unfold kg at i
 show⟨(),(),b⟩
theorem yN {ls:-(T3×V)}{i:Nat}{c:T3}{v:V}(nd:(ls.map (·.1)).Nodup)(h:ls[i]?>(c,v)):bg (aJ ls) (iK c)>v:=by
 rw[cM]
 induction ls generalizing i with
 |nil=>cases h
 |cons p r ih=>
  rw[Jq,JE] at nd
  cases i with
  |zero=>cases h;show b9 Z
  |succ i=>
   let hm:c∈r.map (·.1):=JG (f:=(·.1)) (Jl (show r[i]?>(c,v) from h))
   rw[b_ (λz=>nd.1 (z<|hm))]
   show ih nd.2 h
theorem wu{cs:-(-Int)}(e:Ev ta σ H (.ref b))(a:Ev tb σ H (.ref p))(h1:H b>.tup (c.map V.int))(d:bh K H p (as.map V.ref))(f:bG H as cs):Ev (gb (o7 K false) ta tb) σ H (.bl (decide (c∈cs))):=λQ q=>e _ (a _ ⟨b,p,as,c,cs,Z,Z,h1,d,f,q⟩)
theorem kQ(h:d∈jD c):∃x y w,d=[x,y,w]:=by
 unfold jD uO at h
 simp only[Jk,JJ,or_false] at h
 rcases h with z|z|z|z|z|z<;>show⟨_,_,_,z⟩
theorem sk(h:A8 H s A)(x:au H H'):A8 H' s A:=by
 let⟨as,b,a⟩:=h
 show⟨as,x _ _ b,ay a λ_ _ z=>x _ _ z⟩
theorem Au (ls:-(T3×V))(c:T3)(v:V):bW (aJ ls) (iK c) v=aJ (bW ls c v):=by
 unfold bW
 rw[dG,dG,cM]
 by_cases h:(bg ls c).isSome=true
 ·rw[N1 h,N1 h]
  unfold aJ
  rw[JF,JF]
  show K4 λp _=>?_
  change(if iK p.1=iK c then (iK p.1,v) else (iK p.1,p.2))=(iK (if p.1=c then (p.1,v) else p).1,(if p.1=c then (p.1,v) else p).2)
  by_cases e:p.1=c
  ·rw[N1 (by rw[e]),N1 e]
  ·rw[N0 (λz=>e (gV z)),N0 e]
 ·rw[N0 h,N0 h]
  unfold aJ
  rw[Jf];rfl
theorem DD{ls:-(T3×V)}(h:∀p∈ls,∃t lo hi,p.2=.ref t/\H t>.tup [.int lo,.int hi]):∃hs,Nb (o3 H) ls hs:=by
 induction ls with
 |nil=>show⟨[],.nil⟩
 |cons p r ih=>
  let⟨hs,i⟩:=ih λq hq=>h q (JC _ hq)
  let⟨t,lo,hi,b,a⟩:=h p JA
  show⟨(p.1,lo,hi)::hs,.cons ⟨Z,t,b,a⟩ i⟩
theorem ue{ls:-(T3×V)}{c:-(T3×Int×Int)}(h:Nb (o3 H) ls c):∀p∈ls,∃t lo hi,p.2=.ref t/\H t>.tup [.int lo,.int hi]:=λp hp=>by
 let⟨i,hi⟩:=KG.mp hp
 let⟨q,_,_,t,b,a⟩:=gC h hi
 show⟨t,_,_,b,a⟩
theorem jG.put{o:-(T3×Int×Int)}{ls:-(T3×V)}(C:Nb (o3 H) ls o)(nd:(o.map (·.1)).Nodup)(B:∀q∈o,G3 q.1)(g:G3 c)(e:H' h>.dT (bW (aJ ls) (iK c) (.ref t)))(D:∀b xs,H b>.tup xs->H' b>.tup xs)(ht:H' t>.tup [.int lo,.int hi]):
  ∃l,jG H' h l/\(l.map (·.1)).Nodup/\(∀q∈l,G3 q.1)/\↑l<=↑o+1/\((bg ls c).isSome=true->↑l=↑o):=by
 let⟨l,d⟩:=DD (H:=H') (ls:=bW ls c (.ref t)) λp A=>by
  rcases jU A with z|z
  ·let⟨K,i,j,I,E⟩:=ue C p z
   show⟨K,i,j,I,D _ _ E⟩
  ·rw[z];show⟨t,lo,hi,Z,ht⟩
 let n:=fV d
 let u:=fV C
 rw[o9] at n
 let len:↑(l.map (·.1))=↑l:=Jb _
 let k:↑(ls.map (·.1))=↑o:=by rw[u,Jb]
 show⟨l,⟨_,by rw[e,Au],d⟩,?_⟩
 by_cases z:(bg ls c).isSome=true
 ·rw[N1 z,u] at n
  show⟨by rw[<-n];show nd,λq hq=>?_,by rw[<-len,<-n,Jb];lia,λ_=>by rw[<-len,<-n,Jb]⟩
  let m:=JG (f:=(·.1)) hq
  rw[<-n] at m
  let⟨r,a,v⟩:=Jh.mp m
  change G3 q.1
  rw[<-show r.1=q.1 from v]
  show B r a
 ·rw[N0 z,u] at n
  let F:c∉o.map (·.1):=λm=>z (eX.mpr (u<|m))
  show⟨?_,λq hq=>?_,by rw[<-len,<-n,Jo,Jb];show Jd _,λy=>absurd y z⟩
  ·rw[<-n]
   show Kh.mpr ⟨nd,JE.mpr ⟨JJ,Ka⟩,λx L y J e=>F (by rw[Jg.mp J] at e;rw[<-e];show L)⟩
  ·let m:=JG (f:=(·.1)) hq
   rw[<-n] at m
   rcases Jz.mp m with w|w
   ·let⟨r,a,v⟩:=Jh.mp w
    change G3 q.1
    rw[<-show r.1=q.1 from v]
    show B r a
   ·change G3 q.1
    rw[show q.1=c from Jg.mp w];show g
theorem jG.del{l:-(T3×Int×Int)}{ls:-(T3×V)}(o:Nb (o3 H) ls l)(nd:(l.map (·.1)).Nodup)(w:∀q∈l,G3 q.1)(e:H' h>.dT (lz (aJ ls) k))(u:∀b xs,H b>.tup xs->H' b>.tup xs):
  ∃j,jG H' h j/\(j.map (·.1)).Nodup/\(∀q∈j,G3 q.1)/\↑j<=↑l:=by
 let⟨a,x,n⟩:=Ay (ls:=ls) (k:=k)
 let⟨j,c⟩:=DD (H:=H') (ls:=a) λp m=>by
  let⟨A,g,i,y,z⟩:=ue o p (n.subset m)
  show⟨A,g,i,y,u _ _ z⟩
 let sub:(j.map (·.1)).Sublist (l.map (·.1)):=by rw[<-fV c,<-fV o];show n.map _
 show⟨j,⟨a,by rw[e,x],c⟩,sub.nodup nd,λq hq=>?_,by have:=sub.length_le;rw[Jb,Jb] at this;show this⟩
 let⟨r,d,v⟩:=Jh.mp (sub.subset (JG (f:=(·.1)) hq))
 change G3 q.1
 rw[<-show r.1=q.1 from v]
 show w r d
theorem IE (x y z u i:Int):∃c,jH ([x,y,z,u].map V.int) (i%4)>.int c/\(c=x\/c=y\/c=z\/c=u):=by
 let a:=JO i (show(4:Int)≠0 by decide)
 let h1:=JQ i (show(0:Int)<4 by decide)
 have:i%4=((0:Nat):Int)\/i%4=((1:Nat):Int)\/i%4=((2:Nat):Int)\/i%4=((3:Nat):Int):=by lia
 rcases this with e|e|e|e<;>rw[e]
 ·show⟨x,bC Z,.inl Z⟩
 ·show⟨y,bC Z,.inr (.inl Z)⟩
 ·show⟨z,bC Z,.inr (.inr (.inl Z))⟩
 ·show⟨u,bC Z,.inr (.inr (.inr Z))⟩
theorem qa {as:-N8}(i:Int)(h:1<=↑as):∃(j:Nat) (b:N8),as[j]?>b/\jH (as.map V.ref) (i%(↑as:Nat))>.ref b/\AZ ↑(as.map V.ref) (i%(↑as:Nat))>j/\j<↑as:=by
 let a:=JO i (show(↑as:Int)≠0 by lia)
 let h1:=JQ i (show(0:Int)<(↑as:Nat) by lia)
 let⟨b,d,c⟩:=Dy (xs:=as) a h1
 show⟨_,b,d,c,?_,()⟩
 unfold AZ
 rw[N1 a,N1 (Jb<|h1)]
theorem Hw (x y:V)(i:Int):∃c,jH [x,y] (i%2)>c/\(c=x\/c=y):=by
 let a:=JO i (show(2:Int)≠0 by decide)
 let h1:=JQ i (show(0:Int)<2 by decide)
 have:i%2=((0:Nat):Int)\/i%2=((1:Nat):Int):=by lia
 rcases this with e|e<;>rw[e]
 ·show⟨x,bC Z,.inl Z⟩
 ·show⟨y,bC Z,.inr Z⟩
theorem Ek {d c:Type}{R:d->c->Prop}{as:-d}{bs:-c}{a:d}{b:c}(h:Nb R as bs)(r:R a b):∀j,Nb R (as.set j a) (bs.set j b):=by
 induction h with
 |nil=>show λ_=> .nil
 |cons r' t ih=>
  intro j
  cases j with
  |zero=>show .cons r t
  |succ j=>show .cons r' (ih j)
section
variable {H2 H' HA:Hp} {wr h dd:N8} {R C:Int} {as:-N8} {W:-(T3×T3)} {hs:-(T3×Int×Int)} {F:-(Nat×V)} {n k:Nat}
theorem ke.same (J:ke H2 H' wr h dd R C as W hs F)(s:au H' HA):ke H2 HA wr h dd R C as W hs F:=⟨J.bt.same s,s _ _ J.w,J.W.same s,J.h.same s,s _ _ J.d⟩
theorem ke.nhw (J:ke H2 H' wr h dd R C as W hs F):h≠wr/\dd≠wr:=by
 let⟨ls,e,_⟩:=J.h
 show⟨λz=>(by rw[z,J.w] at e;cases e),λz=>by have:=J.d;rw[z,J.w] at this;cases this⟩
theorem ke.wset (J:ke H2 H' wr h dd R C as W hs F)(s:au H' HA){as':-N8}{W':-(T3×T3)}(k:fP HA as' W'):ke H2 (Oc HA wr (.lst (as'.map V.ref))) wr h dd R C as' W' hs F:=by
 let j:=s _ _ J.w
 let a:∀b xs,HA b>.tup xs->Oc HA wr (.lst (as'.map V.ref)) b>.tup xs:=bj j
 let⟨ls,e,c⟩:=J.h.same s
 show⟨(J.bt.same s).set (by simp),af,k.tups a,⟨ls,aj J.nhw.1<|e,Nb.mapP c λ_ _ z=>?_⟩,aj J.nhw.2<|s _ _ J.d⟩
 let⟨i,t,g,f⟩:=z
 show⟨i,t,g,a _ _ f⟩
theorem ke.hset (J:ke H2 H' wr h dd R C as W hs F)(g:dd≠h)(s:au H' HA){a:-(T3×Int×Int)}{x:-(-dh×V)}(f:jG (Oc HA h (.dT x)) h a):ke H2 (Oc HA h (.dT x)) wr h dd R C as W a F:=by
 let⟨ls,e,_⟩:=J.h.same s
 let c:∀b xs,HA b>.tup xs->Oc HA h (.dT x) b>.tup xs:=λb xs z=>by rw[aj (bu z e (λy=>by cases y))];show z
 show⟨(J.bt.same s).set (by simp),aj J.nhw.1.symm<|s _ _ J.w,(J.W.same s).tups c,f,aj g<|s _ _ J.d⟩
theorem ke.put (J:ke H2 H' wr h dd R C as W hs F)(r:dd≠h)(O:kL W hs n k){ls:-(T3×V)}(j:H' h>.dT (aJ ls))(i:Nb (o3 H') ls hs)(s:au H' HA){c:T3}{t:N8}{f q:Int}(g:G3 c)(ht:HA t>.tup [.int f,.int q]):
  ∃a,ke H2 (Oc HA h (.dT (bW (aJ ls) (iK c) (.ref t)))) wr h dd R C as W a F/\kL W a n (k+1)/\((bg ls c).isSome=true->kL W a n k):=by
 let p:=s _ _ j
 let d:∀b xs,HA b>.tup xs->Oc HA h (.dT (bW (aJ ls) (iK c) (.ref t))) b>.tup xs:=λb xs z=>by rw[aj (bu z p (λy=>by cases y))];show z
 let⟨a,o,p2,e,u,m⟩:=jG.put (H':=Oc HA h (.dT (bW (aJ ls) (iK c) (.ref t)))) i O.nd O.g3 g af (λb xs z=>d b xs (s _ _ z)) (d _ _ ht)
 let l:=O.hl
 show⟨a,J.hset r s o,⟨O.l3,O.wl,p2,e,()⟩,λz=>⟨O.l3,O.wl,p2,e,m z<|l⟩⟩
theorem kL.more (O:kL W hs n k){a k':Nat}(h1:n<=a)(b:k<=k'):kL W hs a k':=⟨O.l3,Jt O.wl h1,O.nd,O.g3,Jt O.hl b⟩
theorem kL.app (O:kL W hs n k){e:T3×T3}(h1:↑e.1=3)(a:↑e.2=3):kL (W++[e]) hs (n+1) k:=⟨λd b=>by
 rcases Jz.mp b with z|z
 ·show O.l3 d z
 ·rw[Jg.mp z];show⟨h1,a⟩,Jo<|KS O.wl,O.nd,O.g3,O.hl⟩
end
theorem qz(h:ta σ H λx H1=>tb σ H1 λy H2=>r x y H2 Q):gb r ta tb σ H Q:=h
theorem Bc(h:te σ H λv H1=>g v σ H1 D.nx):lu te g D σ H:=h
theorem pJ(J:St->Hp->Prop)(h1:∀R:St->Hp->Prop,(∀σ H,J σ H->R σ H)->t {D with nx:=R} σ H)(a:∀σ H,J σ H->u D σ H):gr t u D σ H:=h1 _ a
theorem DI{ns:-Int}(h:u<Nz ns*Cz ns){a b c:Int}(e:sN (Rz ns) (Cz ns) u=[a,b,c]):0<=a/\a<=1:=by
 let d:=jI ns
 let h1:u/Cz ns<Nz ns:=L4 (Kt<|h)
 let h2:u/Cz ns/Rz ns<Lz ns:=L4 (Kt<|h1)
 unfold sN at e
 injection e with e _
 have:a=((u/Cz ns/Rz ns:Nat):Int):=Ll<|Ll<|e.symm
 generalize u/Cz ns/Rz ns=k at h2 this
 lia
def Kp (H H':Hp):Prop:=∀b x,H b>x->(∀ps,x≠.tbl ps)->H' b>x
theorem Kp.of(s:au H H'):Kp H H':=λb x e _=>s _ _ e
theorem Kp.trans {H d H2:Hp}(a:Kp H d)(b:Kp d H2):Kp H H2:=λc x e n=>b _ _ (a _ _ e n) n
theorem Kp.tup(k:Kp H H'):∀b xs,H b>.tup xs->H' b>.tup xs:=λb xs e=>k _ _ e (λ_ z=>by cases z)
theorem Kp.hta(k:Kp H H'){d:N8}{hs:-(T3×Int×Int)}(h:jG H d hs):jG H' d hs:=by
 let⟨ls,h1,h2⟩:=h
 show⟨ls,k _ _ h1 (λ_ z=>by cases z),Nb.mapP h2 λ_ _ z=>?_⟩
 let⟨c,t,b,a⟩:=z
 show⟨c,t,b,k.tup _ _ a⟩
theorem Kp.mda(k:Kp H H'){m w h:N8}{b a:Int}{as:-N8}{W:-(T3×T3)}{hs:-(T3×Int×Int)}(x:w5 H m w h b a as W hs):w5 H' m w h b a as W hs:=⟨k _ _ x.m (λ_ z=>by cases z),k _ _ x.w (λ_ z=>by cases z),x.W.tups k.tup,k.hta x.h⟩
theorem Kp.tpl(k:Kp H H'){s:N8}{A:-T3}(h:A8 H s A):A8 H' s A:=by
 let⟨as,b,a⟩:=h
 show⟨as,k.tup _ _ b,ay a k.tup⟩
theorem Kp.tha(k:Kp H H'){a b t:N8}{ob:Option (-T3×-T3)}(h:Fe a b H t ob):Fe a b H' t ob:=by
 cases ob with
 |none=>
  let⟨dx,fs,e⟩:=h
  show⟨dx,fs,k _ _ e (λ_ z=>by cases z)⟩
 |some y=>
  let⟨m,l1,l2⟩:=h
  let⟨l,d,g,i,n,f,j,o,c,p⟩:=m.ex
  show⟨⟨l,d,g,i,k _ _ n (λ_ z=>by cases z),f,j,o,k.tpl c,k.tpl p⟩,l1,l2⟩
theorem Kp.fa(k:Kp H H'){b p c a rd td:N8}{g:Gd}(h:FA b H p c a rd td g):FA b H' p c a rd td g:=by
 let⟨dx,z,h1,h2⟩:=h.ex
 let⟨as,e,d⟩:=h.pr
 show⟨⟨dx,z,k _ _ h1 (λ_ z=>by cases z),k.tup _ _ h2⟩,⟨as,k _ _ e (λ_ z=>by cases z),ay d k.tup⟩,k _ _ h.vi (λ_ z=>by cases z),k _ _ h.rd (λ_ z=>by cases z),k _ _ h.td (λ_ z=>by cases z)⟩
structure GG (cF cN cU:N8) (H:Hp) (m w h dd th pl tl p pr' vi rd td:N8) (pr de:Int) (as:-N8) (W:-(T3×T3)) (hs:-(T3×Int×Int)) (g:Gd) (F:-(Nat×V)) (ob:Option (-T3×-T3)) (ps:-Int):Prop where
 md:w5 H m w h pr de as W hs
 dd:H dd>.dT (aZ g.R g.C F)
 tl:H tl>.dT (aZ g.R g.C g.ts)
 pl:H pl>.lst (ps.map V.int)
 th:Fe cN cU H th ob
 fa:FA cF H p pr' vi rd td g
theorem Kp.lwa(k:Kp H H'){n c f m w h d e pl b p a j rd td:N8}{i l:Int}{as:-N8}{W:-(T3×T3)}{o:-(T3×Int×Int)}{g:Gd}{F:-(Nat×V)}{ob:Option (-T3×-T3)}{ps:-Int}(x:GG n c f H m w h d e pl b p a j rd td i l as W o g F ob ps):GG n c f H' m w h d e pl b p a j rd td i l as W o g F ob ps:=⟨k.mda x.md,k _ _ x.dd (λ_ z=>by cases z),k _ _ x.tl (λ_ z=>by cases z),k _ _ x.pl (λ_ z=>by cases z),k.tha x.th,k.fa x.fa⟩
theorem mx.kp(t:mx K H)(s:Bb K H H'):Kp H H':=λb x e n=>t.keep s e n
noncomputable def gL (ns:-Int) (a c f b:Int) (e:-Nat) (d:-(Nat×V)):Gd:=⟨Lz ns,Rz ns,Cz ns,Nz ns*Cz ns,([[a,c],[a,f]]:-T3).take (Lz ns),[b].take (Lz ns - 1),e,d⟩
theorem FC{ns:-Int}{aW:Int}{d F:-(Nat×V)}(a:GR ns aW nw fj rj rs d F)(b:1<=p0/\p0<=1000000000000)(a1:1<=p1/\p1<=1000000000000)(e:1<=p3/\p3<=1000000000000)(g:1<=p4/\p4<=1000000000000):fu (gL ns p0 p1 p3 p4 rs d):=by
 let h:=jI ns
 let m:=BV ns
 show⟨kW ns,?_,by change Nz ns*Cz ns<=128;lia,?_,?_,?_,?_,a.rl,a.rr,a.tt,a.tv⟩
 ·change((Nz ns*Cz ns:Nat):Int)=(Lz ns:Int)*(Rz ns:Int)*(Cz ns:Int)
  unfold Nz
  rw[Int.natCast_mul,Int.natCast_mul]
 ·change(↑(List.take (Lz ns) _):Int)=(Lz ns:Int)
  rw[JT]
  change((min (Lz ns) 2:Nat):Int)=_
  lia
 ·intro c f
  have:=List.mem_of_mem_take f
  simp only[Jk,JJ,or_false] at this
  rcases this with z|z
  ·show⟨p0,p1,z,b.1,b.2,a1.1,a1.2⟩
  ·show⟨p0,p3,z,b.1,b.2,e.1,e.2⟩
 ·change(↑(List.take (Lz ns - 1) _):Int)=(Lz ns:Int) - 1
  rw[JT]
  change((min (Lz ns - 1) 1:Nat):Int)=_
  lia
 ·intro v hv
  have:=List.mem_of_mem_take hv
  rw[Jg.mp this]
  show g
theorem yv{ns:-Int}{a:-(Nat×V)}(h1:uT (gL ns p0 p1 p3 p4 rs a) c=true)(l:uT (gL ns p0 p1 p3 p4 rs a) o=true):iH [p0,p1,p0,p3,p4] (Rz ns) (Cz ns) a c o=e8 (gL ns p0 p1 p3 p4 rs a) c o:=by
 let m:=jI ns
 let i1:kg (Lz ns:Int) (Rz ns:Int) (Cz ns:Int) (c.getD 0 0) (c.getD 1 0) (c.getD 2 0):=N4 h1
 let i2:kg (Lz ns:Int) (Rz ns:Int) (Cz ns:Int) (o.getD 0 0) (o.getD 1 0) (o.getD 2 0):=N4 l
 unfold kg at i1 i2
 unfold iH e8
 change dJ (Rz ns) (Cz ns) a c+dJ (Rz ns) (Cz ns) a o+_=dJ (Rz ns) (Cz ns) a c+dJ (Rz ns) (Cz ns) a o+_
 congr 1
 unfold bare
 change _=if c.getD 0 0≠o.getD 0 0 then (List.take (Lz ns - 1) [p4]).getD (min (c.getD 0 0) (o.getD 0 0)).toNat 0 else if c.getD 1 0=o.getD 1 0 then ((List.take (Lz ns) ([[p0,p1],[p0,p3]]:-T3)).getD (c.getD 0 0).toNat []).getD 0 0 else ((List.take (Lz ns) ([[p0,p1],[p0,p3]]:-T3)).getD (c.getD 0 0).toNat []).getD 1 0
 generalize c.getD 0 0=b at i1
 generalize c.getD 1 0=h at i1
 generalize o.getD 0 0=i at i2
 generalize o.getD 1 0=g at i2
 by_cases e:b=i
 ·subst e
  simp only[ne_eq,not_true_eq_false,if_false]
  have:b=0\/(b=1/\Lz ns=2):=by lia
  rcases this with z|⟨z,d⟩
  ·subst z
   obtain⟨k,j⟩:∃k,Lz ns=k+1:=⟨Lz ns - 1,()⟩
   rw[j]
   by_cases f:h=g
   ·subst f
    simp only[not_true_eq_false,if_false,if_true];rfl
   ·simp only[f,not_false_eq_true,if_true,if_false];rfl
  ·subst z
   rw[d]
   by_cases f:h=g
   ·subst f
    simp only[not_true_eq_false,if_false,if_true];rfl
   ·simp only[f,not_false_eq_true,if_true,if_false];rfl
 ·simp only[ne_eq,e,not_false_eq_true,if_true]
  let d:Lz ns=2:=by lia
  let z:min b i=0:=by lia
  rw[d,z];rfl
theorem jh(k:∀{b:N8} {o:HO},H b>o->(∀z,o≠.dT z)->H' b>o){l:N8}{cs:-T3}(h:fH H l cs):fH H' l cs:=by
 let⟨as,h1,h2⟩:=h
 show⟨as,k h1 (λ_ z=>by cases z),ay h2 λb xs z=>k z (λ_ z=>by cases z)⟩
theorem zZ (xs:-V)(n:Nat)(h:n<=↑xs):gh xs none (some (n:Int))=xs.take n:=by
 unfold gh
 rw[HT.sIx_nat,HT.sIx_none,LF h,Nat.sub_zero,List.drop_zero]
theorem Dq {r:V->Option Int->Option Int->Hp->VK->Prop}(h:te σ H λx H1=>tl σ H1 λl H2=>th σ H2 λu H3=>r x l u H3 Q):HY r te tl th σ H Q:=h
theorem Bh {b a:Type}{R:b->a->Prop}{as:-b}{bs:-a}(h:Nb R as bs):∀n,Nb R (as.take n) (bs.take n):=by
 induction h with
 |nil=>intro n;rw[List.take_nil,List.take_nil];show .nil
 |cons r t ih=>
  intro n
  cases n with
  |zero=>show .nil
  |succ n=>show .cons r (ih n)
theorem DU {w d:N8}{a b:Int}:(fB w d a b).lookup ("holds" :Nh)=none:=by kernel_rfl
theorem IK {w d:N8}{a b:Int}:(fB w d a b).lookup ("is_laid" :Nh)=none:=by kernel_rfl
theorem zd {b:Type} [DecidableEq b]{a:-(b×V)}(nd:(a.map (·.1)).Nodup){p:b×V}(h:p∈a):bg a p.1>p.2:=by
 induction a with
 |nil=>cases h
 |cons q r ih=>
  rw[Jq,JE] at nd
  rcases Jk.mp h with z|z
  ·rw[z];show b9 Z
  ·rw[b_ (λe=>nd.1 (e<|JG z))]
   show ih nd.2 z
theorem rK{c:-(-dh×V)}(g:a≠b)(f:H a>.dT c)(e:H b>.dT c)(d:w_ c)(nd:(c.map (·.1)).Nodup)(ok:∀p∈c,jX p.2=true):FO K H (.ref a) (.ref b):=
 ⟨a,b,c,c,Z,Z,g,.inl f,.inl e,d,d,Z,λp hp=>⟨p.2,zd nd hp,.inl ⟨Z,ok p hp⟩⟩⟩
theorem ki (ls:-(T3×V))(nd:(ls.map (·.1)).Nodup):w_ (aJ ls)/\((aJ ls).map (·.1)).Nodup:=by
 constructor
 ·intro p hp
  let⟨q,_,rfl⟩:=Jh.mp hp
  show⟨q.1,Z⟩
 ·unfold aJ
  rw[JF]
  have:=gv (f:=iK) nd λa _ b _ e=>gV e
  rw[JF] at this
  show this
theorem Eo(S:pD L R C){F:-(Nat×V)}(h:Tb M F):w_ (aZ R C F)/\((aZ R C F).map (·.1)).Nodup:=by
 constructor
 ·intro p hp
  let⟨q,_,rfl⟩:=Jh.mp hp
  show⟨sN R C q.1,Z⟩
 ·unfold aZ
  rw[JF]
  have:=gv (f:=λn=>iK (sN R C n)) h.nd λa _ b _ e=>by
   let e:=gV e
   have:sN R C a∈[b].map (sN R C):=e<|Jg.mpr Z
   show Jg.mp ((m4 S).mp this)
  rw[JF] at this
  show this
theorem rF (as:-N8):∀x∈as.map V.ref,jX x=true:=λx b=>by
 let⟨a,_,rfl⟩:=Jh.mp b
 rfl
theorem DP(h:sd ta σ H vs)(q:∀x dx,H x=none->H dx=none->dx≠x->sp (.ref x::(vs++ds)) (Oc (Oc H dx (.own x)) x (.ins C dx [])) (λv H2=>v=.non/\Q (.ref x) H2) E):oj C sp ds E ta σ H Q:=h _ q
theorem AY(h:jm t σ H false)(q:u σ H Q):F9 t u σ H Q:=h _ (cK q)
theorem DJ{h f:-(T3×V)}{g:-(T3×Int×Int)}(r:a≠b)(x:H a>.dT (aJ h))(A:H b>.dT (aJ f))(j:Nb (o3 H) h g)(k:Nb (o3 H) f g)(nd:(g.map (·.1)).Nodup):FO K H (.ref a) (.ref b):=by
 let B:=ki h (fV j<|nd)
 let d:(f.map (·.1)).Nodup:=fV k<|nd
 let w:=ki f d
 let l1:↑h=↑g:=Nb.length j
 let l2:↑f=↑g:=Nb.length k
 show⟨a,b,_,_,Z,Z,r,.inl x,.inl A,B.1,w.1,by unfold aJ;rw[Jb,Jb,l1,l2],λp hp=>?_⟩
 let⟨q,hq,rfl⟩:=Jh.mp hp
 let⟨i,hi⟩:=KG.mp hq
 let⟨⟨c,lo,e⟩,F,m,t,n,C⟩:=gC j hi
 let⟨⟨y,u⟩,E,l,t2,o,D⟩:=pW k F
 let⟨v,z⟩:=q
 let m:v=c:=m
 let l:y=c:=l
 let n:z=.ref t:=n
 let o:u=.ref t2:=o
 subst m l n o
 show⟨.ref t2,yN d E,.inr ⟨_,_,Dp.ints (ns:=[lo,e]) (bh.of C),Dp.ints (ns:=[lo,e]) (bh.of D),Jt (dB _) (by decide),?_⟩⟩
 rw[gB]
 show N3 Z
section
variable {g:Gd} {F:-(Nat×V)} {W:-(T3×T3)} {A B:-T3} {x de:Int} {hs:-(T3×Int×Int)} {ps:-Int}
theorem iP:dI g.R g.C F c=true↔∃p∈F,c=sN g.R g.C p.1:=by
 unfold dI
 constructor
 ·intro h
  let⟨v,hv⟩:=K0.mp h
  let⟨p,hp,e⟩:=Jh.mp (gS hv)
  show⟨p,hp,(gV (congrArg Prod.fst e)).symm⟩
 ·rintro⟨p,hp,rfl⟩
  show eX.mpr (Jh.mpr ⟨(iK (sN g.R g.C p.1),p.2),JG hp,Z⟩)
theorem jL (ok:fu g)(b:Tb g.M F)(a:∀p∈F,p.1∉g.rs){c:T3}(h:dI g.R g.C F c=true):jk g c=true:=by
 let⟨p,hp,rfl⟩:=iP.mp h
 unfold jk
 rw[Jv]
 show⟨N3 (mC ok (b.lt p hp) Z),?_⟩
 unfold BH
 rw[N5 (λz=>a p hp ((m4 ok.S).mp z))];rfl
theorem jQ:o∈Ef g F c↔o∈jD c/\dI g.R g.C F o=true:=Ke
theorem zW (ok:fu g)(d:Tb g.M F)(c:∀p∈F,p.1∉g.rs):kD (sS g F) W↔kD (yi g) W/\(W.all λe=>dI g.R g.C F e.1&&dI g.R g.C F e.2)=true:=by
 constructor
 ·intro h
  let b:∀e∈W,dI g.R g.C F e.1=true/\e.2∈jD e.1/\dI g.R g.C F e.2=true:=λe a=>by
   let⟨i,hi⟩:=KG.mp a
   have:=(h i e hi).1
   unfold sS at this
   rw[Jv,decide_eq_true_iff,jQ] at this
   show this
  show⟨λi e a=>⟨?_,(h i e a).2⟩,JV.mpr λe a=>by rw[(b e a).1,(b e a).2.2];rfl⟩
  have:=b e (Jl a)
  unfold yi
  rw[jL ok d c this.1,jL ok d c this.2.2,Bool.and_true,Bool.and_true]
  show N3 this.2.1
 ·rintro⟨h,h2⟩ i e a
  show⟨?_,(h i e a).2⟩
  let h2:=JV.mp h2 e (Jl a)
  rw[Jv] at h2
  let h1:=(h i e a).1
  unfold yi at h1
  rw[Jv] at h1
  unfold sS
  rw[h2.1,N3 (jQ.mpr ⟨N4 h1.1,h2.2⟩)];rfl
theorem DL(h:∀q∈hs,q.1≠c):hv hs de c=(de,de):=by
 unfold hv C4
 rw[List.find?_eq_none.mpr λq hq z=>h q hq (N4 z)];rfl
theorem sZ:(o,v)∈fx g F c↔BH g c=false/\o∈jD c/\jk g o=true/\dI g.R g.C F o=true/\v=e8 g c o:=by
 unfold fx gW
 rw[Ke]
 constructor
 ·rintro⟨h1,h2⟩
  split at h1
  ·cases h1
  ·rename_i hr
   let⟨d,i,e⟩:=Jh.mp h1
   cases e
   let⟨a,b⟩:=Ke.mp i
   show⟨by simpa using hr,a,b,h2,Z⟩
 ·rintro⟨h1,h2,h,f,rfl⟩
  rw[N0 (by rw[h1];decide)]
  show⟨Jh.mpr ⟨o,Ke.mpr ⟨h2,h⟩,Z⟩,f⟩
theorem pC (ok:fu g)(l:Tb g.M F)(k:∀p∈F,p.1∉g.rs)(H:L3 W)(I:A.Nodup)(K:∀s∈A,s∉B)
  (r:∀c o,dI g.R g.C F c=true->o∈jD c->dI g.R g.C F o=true->iH ps g.R g.C g.ts c o=e8 g c o):
  Ij g F W A B x de hs↔(kD (sS g F) W/\Wr.LV W A B)/\GK g F W A B x de hs ps:=by
 let a:kD (sS g F) W->(W.map λe=>iH ps g.R g.C g.ts e.1 e.2)=W.map (FT g):=λh=>by
  show K4 λe L=>?_
  let⟨i,hi⟩:=KG.mp L
  have:=(h i e hi).1
  unfold sS at this
  rw[Jv,decide_eq_true_iff,jQ] at this
  show r _ _ this.1 this.2.1 this.2.2
 constructor
 ·intro h
  let f:=(zW ok l k).mpr ⟨h.li.nb,h.li.fr⟩
  let S:=f.simJ H
  let w:=h.en
  rw[Jv] at w
  show⟨⟨f,h.li.pv.lv S⟩,a f<|h.li.pr.symm,λq hq=>?_,h.re,λp hp=>⟨λha=>?_,λhb=>?_,λo u=>?_⟩⟩
  ·have:=JV.mp h.cl q hq
   rw[Jv] at this
   show this.1
  ·let N:(A.any λc=>decide (0<(hv hs de c).1))=false:=by
    cases z:A.any λc=>decide (0<(hv hs de c).1) with
    |false=>rfl
    |true=>have:=w.1;rw[z] at this;cases this
   have:¬0<(hv hs de (sN g.R g.C p.1)).1:=N6 (kq N ha)
   lia
  ·show N4 (JV.mp w.2 _ hb)
  ·let⟨n,j⟩:=jQ.mp u
   let d:dI g.R g.C F (sN g.R g.C p.1)=true:=iP.mpr ⟨p,hp,Z⟩
   rw[r _ _ d n j]
   let cb:=JV.mp h.cb p hp
   let E:=jL ok l k d
   unfold jk at E
   rw[Jv] at E
   let rk:BH g (sN g.R g.C p.1)=false:=by
    cases z:BH g (sN g.R g.C p.1) with
    |false=>rfl
    |true=>have:=E.2;rw[z] at this;cases this
   let Q:=(sZ (g:=g) (F:=F) (v:=e8 g (sN g.R g.C p.1) o)).mpr ⟨rk,n,jL ok l k j,j,Z⟩
   let J:((fx g F (sN g.R g.C p.1)).any λx=>decide ((hv hs de (sN g.R g.C p.1)).2+x.2<(hv hs de x.1).1))=false:=by
    cases z:(fx g F (sN g.R g.C p.1)).any λx=>decide ((hv hs de (sN g.R g.C p.1)).2+x.2<(hv hs de x.1).1) with
    |false=>rfl
    |true=>rw[z] at cb;cases cb
   have:¬(hv hs de (sN g.R g.C p.1)).2+e8 g (sN g.R g.C p.1) o<(hv hs de o).1:=N6 (kq J Q)
   lia
 ·rintro⟨⟨f,lv⟩,fa⟩
  let S:=f.simJ H
  let⟨T,D⟩:=(zW ok l k).mp f
  show⟨⟨T,lv.pv S K I,by rw[<-a f];show fa.sm.symm,D⟩,JV.mpr λq hq=>?_,fa.re,?_,JV.mpr λp hp=>?_⟩
  ·have:=fa.hk q hq
   rw[this,jL ok l k this];rfl
  ·rw[Jv]
   constructor
   ·have:(A.any λc=>decide (0<(hv hs de c).1))=false:=by
     cases z:A.any λc=>decide (0<(hv hs de c).1) with
     |false=>rfl
     |true=>
      let⟨c,d,e⟩:=iZ z
      let l2:=lv.l2 c d
      let⟨y,O⟩:=tG l2
      let P:y∈Wr.adj W c:=O<|Jg.mpr Z
      let b:dI g.R g.C F c=true:=by
       rcases(Wr.mem_adj S).mp P with m|m
       ·have:=JV.mp D _ m
        rw[Jv] at this
        show this.1
       ·have:=JV.mp D _ m
        rw[Jv] at this
        show this.2
      let⟨p,hp,rfl⟩:=iP.mp b
      have:=(fa.fs p hp).1 d
      have:=N4 e
      lia
    rw[this];rfl
   ·show JV.mpr λc d=>N3 ?_
    cases z:dI g.R g.C F c with
    |true=>
     let⟨p,hp,rfl⟩:=iP.mp z
     show(fa.fs p hp).2.1 d
    |false=>
     rw[DL λq hq e=>by have:=fa.hk q hq;rw[e,z] at this;cases this]
     show Int.le_refl _
  ·let d:dI g.R g.C F (sN g.R g.C p.1)=true:=iP.mpr ⟨p,hp,Z⟩
   have:((fx g F (sN g.R g.C p.1)).any λx=>decide ((hv hs de (sN g.R g.C p.1)).2+x.2<(hv hs de x.1).1))=false:=by
    cases z:(fx g F (sN g.R g.C p.1)).any λx=>decide ((hv hs de (sN g.R g.C p.1)).2+x.2<(hv hs de x.1).1) with
    |false=>rfl
    |true=>
     let⟨⟨o,v⟩,U,e⟩:=iZ z
     let⟨_,n,_,j,rfl⟩:=sZ.mp U
     have:=(fa.fs p hp).2.2 o (jQ.mpr ⟨n,j⟩)
     rw[r _ _ d n j] at this
     let e:(hv hs de (sN g.R g.C p.1)).2+e8 g (sN g.R g.C p.1) o<(hv hs de o).1:=N4 e
     lia
   rw[this];rfl
theorem zC (ok:fu g)(f:Tb g.M F)(d:∀p∈F,p.1∉g.rs)(b:L3 W){ob:Option (-T3×-T3)}(a:Ho ob)
  (e:∀c o,dI g.R g.C F c=true->o∈jD c->dI g.R g.C F o=true->iH ps g.R g.C g.ts c o=e8 g c o):GP g F W x de hs ob↔Gu g F W x de hs ps ob:=by
 cases ob with
 |none=>show Iff.rfl
 |some y=>show pC ok f d b a.1 a.2.1 e
end
end
set_option maxHeartbeats 4000000
section
variable {P:Ni} {w:Nr} {K:Je} {mg:Nh->Option N7} {Oa:Ng}
variable {cThing Oh cBundle cPaper cBundlePaper Od cMS:N8} (T:Txt K mg cThing Oh cBundle cPaper cBundlePaper Od cMS)
include T
theorem xI:jo P w K mg Oa 1 "inside" vL ["sizes", "spot"] m7:=by
 show rd ["sizes", "spot", "layers", "rows", "columns", "layer", "row", "column"] λnd _ _ _ _ _ H vs Q E hr h=>?_
 let⟨a,b,L,R,C,l,r,c,rfl,ha,hb,q⟩:=h
 show⟨_,(ak (e_ (ao 0) (eJ Z (aB (bp 2 nd) (aB (bp 3 nd) (aB (bp 4 nd) bT))))) (bc (e_ (ao 1) (eJ Z (aB (bp 5 nd) (aB (bp 6 nd) (aB (bp 7 nd) bT))))) (aD (gu (mS eN mV ai (ao 5) (ao 2)) (gu (mS eN mV ai (ao 6) (ao 3)) (gR (mS eN mV ai (ao 7) (ao 4)))))))),?_⟩
 show tE ∅ (bh.of ha) ?_
 show tE ∅ (bh.of hb) ?_
 show dy (cA (zr (dM az ∅ ∅) λ_=>zr (dM az ∅ ∅) λ_=>dM az ∅ ∅) (congrArg V.bl Ga)) q
theorem xX (A:K.In Oa):jo P w K mg Oa 1 "check_sizes" vG ["sizes", "prices", "vias"] se:=by
 show rd ["sizes", "prices", "vias", "size", "most"] λnd _ _ _ _ _ H vs Q E hr h=>?_
 let⟨z,pr,vi,L,R,C,xs,ys,rfl,g,sz,hp,b,hv,c,q⟩:=h
 show⟨_,(ak (dU (Cr (by rfl) T.zip_ (aC (ao 0) (dN (by rfl) (by show T.g_MOST_SIZES)))) (eJ Z (aB (bp 3 nd) (aB (bp 4 nd) bT))) (a9 (bH (dw (fK eN eN ai (ao 3) (ao 4))) dz))) (bc (bH (bS f9 (bz aO T.len_ (aE (ao 1))) (aP aH (ao 0) ai)) dz) (bH (bS f9 (bz aO T.len_ (aE (ao 2))) (aA cV (aP aH (ao 0) ai) ai)) dz))),?_⟩
 show⟨_,Z,z,cMS,Z,⟨_,bh.of g⟩,⟨_,T.t_MOST_SIZES _⟩,?_⟩
 show AD (K:=K) (xs:=[.int L,.int R,.int C]) (ys:=[.int 4,.int 16,.int 16]) Z (λi σ H'=>∃k j:Option V,σ=[some (.ref z),some (.ref pr),some (.ref vi),k,j]/\au H H') ⟨none,none,Z,au.refl H⟩ (λi σ H' _ g=>by let⟨_,_,_,s⟩:=g;show⟨bh.of (s _ _ g),T.t_MOST_SIZES _⟩) ?_ ?_
 ·rintro i x y p σ H2 e d o ⟨k,j,rfl,f⟩
  obtain⟨n,m,rfl,rfl,u,r⟩:∃n m:Int,x=.int n/\y=.int m/\1<=n/\n<=m:=by
   match i,e,d with
   |0,e,d=>show⟨L,4,(Option.some.inj e).symm,(Option.some.inj d).symm,sz.l0,sz.l1⟩
   |1,e,d=>show⟨R,16,(Option.some.inj e).symm,(Option.some.inj d).symm,sz.r0,sz.r1⟩
   |2,e,d=>show⟨C,16,(Option.some.inj e).symm,(Option.some.inj d).symm,sz.c0,sz.c1⟩
  show⟨p,_,Z,bh.of af,Z,_,_,Z,_,_,Z,Z,?_⟩
  show pN (gq (fg (aI (dM az ∅ ∅)) (by rw[N3 u,N3 r];rfl))) Z ⟨_,_,Z,f.upd o⟩
 ·rintro σ H2 ⟨k,j,rfl,f⟩
  let a:=f _ _ g
  show st ?_
  show jv (fg (aI (gX (dH (ag ∅ aw) λQ' l=>⟨_,_,Z,.inl ⟨_,aM.of (f _ _ hp),Z⟩,l⟩) (cf (v:=.int L) ∅ az (bh.of a) Z))) (by rw[N3 b];rfl)) Z ?_
  show pN (fg (aI (gX (dH (ag ∅ aw) λQ' l=>⟨_,_,Z,.inl ⟨_,aM.of (f _ _ hv),Z⟩,l⟩) (aQ (cf (v:=.int L) ∅ az (bh.of a) Z) az))) (by rw[N3 c];rfl)) Z (q _ f)
theorem ya (a:K.In Oa):jo P w K mg Oa 1 "check_price" wq ["price", "least"] rB:=by
 show rd ["price", "least"] λnd _ _ _ _ _ H vs Q E hr h=>?_
 let⟨x,m,rfl,h1,h2,q⟩:=h
 show⟨_,(a9 (bH (dw (fK eN eN (ao 1) (ao 0) (dN (by rfl) (by show T.g_MOST_PRICE)))) dz)),?_⟩
 show pN (gq (fg (aI (dM ∅ ∅ az)) (by rw[N3 h1,N3 h2];rfl))) Z q
theorem uw (p:aT P w K mg Oa "check_price" 1 ["price", "least"] rB):jo P w K mg Oa 2 "check_prices" sX ["prices", "vias", "tolls"] oE:=by
 show rd ["prices", "vias", "tolls", "ahead", "across", "price", "toll"] λnd _ _ _ _ _ H vs Q E hr h=>?_
 let⟨pr,vi,d,ps,W,f,rfl,⟨as,hp,ht⟩,n,hv,m,S,l,q⟩:=h
 show⟨_,(ak (dU (bF (ao 0)) (eJ Z (aB (bp 3 nd) (aB (bp 4 nd) bT))) (bc (aV (bq p hr (aC (ao 3) ai))) (aV (bq p hr (aC (ao 4) ai))))) (bc (dU (bF (ao 1)) (bp 5 nd) (a9 (aV (bq p hr (aC (ao 5) ai))))) (iE (dU (oY (ao 2)) (bp 6 nd) (a9 (aV (bq p hr (aC (ao 6) ai)))))))),?_⟩
 show⟨_,Z,pr,Z,⟨_,aM.of hp⟩,?_⟩
 show bf (K:=K) (xs:=as.map V.ref) (λi σ H'=>∃y r:Option V,σ=[some (.ref pr),some (.ref vi),some (.ref d),y,r,none,none]/\au H H') ⟨none,none,Z,au.refl H⟩ (λi σ H' _ A=>by let⟨_,_,_,s⟩:=A;show aM.of (s _ _ hp)) ?_ ?_
 ·rintro i x σ H2 J ⟨y,r,rfl,z⟩
  let⟨a,ha,rfl⟩:=bJ J
  let⟨c,L,e⟩:=br ht ha
  let⟨u,v,rfl,R,O,M,T⟩:=n c (Jl L)
  show⟨a,_,Z,bh.of (z _ _ e),Z,_,_,Z,_,_,Z,Z,?_⟩
  show⟨_,Z,u,1,Z,R,O,?_⟩
  show⟨_,Z,v,1,Z,M,T,_,_,Z,z⟩
 ·rintro σ H2 ⟨y,r,rfl,z⟩
  show st ?_
  show⟨_,Z,vi,Z,⟨_,aM.of (z _ _ hv)⟩,?_⟩
  show bf (K:=K) (xs:=W.map V.int) (λi σ H'=>∃B:Option V,σ=[some (.ref pr),some (.ref vi),some (.ref d),y,r,B,none]/\au H H') ⟨none,Z,z⟩ (λi σ H' _ A=>by let⟨_,_,s⟩:=A;show aM.of (s _ _ hv)) ?_ ?_
  ·rintro i x σ H3 J ⟨B,rfl,C⟩
   let⟨j,rfl,N⟩:=EE J
   let⟨D,F⟩:=m j (Jl N)
   show gn ?_
   show⟨_,Z,j,1,Z,D,F,_,Z,C⟩
  ·rintro σ H3 ⟨B,rfl,C⟩
   let g:=C _ _ S
   show⟨d,.dT f,g,trivial,λo=>?_⟩
   show⟨_,Z,d,o,.dT f,Z,af,trivial,?_⟩
   show rJ (λi σ H'=>∃I:Option V,σ=[some (.ref pr),some (.ref vi),some (.ref d),y,r,B,I]/\H'=Oc H3 d (.frz o (.dT f))) ⟨none,Z,Z⟩ (λi σ H' _ A=>by let⟨_,_,e⟩:=A;show e▸af) ?_ ?_
   ·rintro i x v σ H' ⟨k,b,U,rfl,_⟩ hi ⟨I,rfl,rfl⟩
    let⟨j,e,D,F⟩:=l _ (Jl U)
    let e:v=.int j:=e
    subst e
    show gn ?_
    show⟨_,Z,j,0,Z,D,F,_,Z,Z⟩
   ·rintro σ H' ⟨I,rfl,rfl⟩
    show⟨af,q _ (C.trans (o_ g))⟩
theorem tW (e:K.In Oa)(d:aT P w K mg Oa "inside" 1 ["sizes", "spot"] m7):jo P w K mg Oa 2 "check_inside" sQ ["sizes", "spot"] iY:=by
 show rd ["sizes", "spot"] λnd _ _ _ _ _ H vs Q E hr h=>?_
 let⟨a,b,L,R,C,l,r,c,rfl,ha,hb,hi,q⟩:=h
 show⟨_,(a9 (bH (dw (dq (bq d hr (aC (ao 0) (ao 1))))) dz)),?_⟩
 show Du ⟨_,Z,_,Z,a,b,L,R,C,l,r,c,Z,ha,hb,_,Z,?_⟩
 rw[N3 hi]
 show cK q
theorem xM:jo P w K mg Oa 1 "spots_round" vg ["spot"] vc:=by
 show rd ["spot", "layer", "row", "column"] λnd _ _ _ _ _ H vs Q E hr h=>?_
 let⟨b,x,y,w,rfl,hb,q⟩:=h
 show⟨_,(bc (e_ (ao 0) (eJ Z (aB (bp 1 nd) (aB (bp 2 nd) (aB (bp 3 nd) bT))))) (aD (bB (av (aS (av (aA cV (ao 1) ai) (aC (ao 2) (ao 3)))) (av (aS (av (ao 1) (aC (aA cV (ao 2) ai) (ao 3)))) (av (aS (av (ao 1) (aC (ao 2) (aA cV (ao 3) ai)))) (av (aS (av (ao 1) (aC (ao 2) (aA aX (ao 3) ai)))) (aC (aS (av (ao 1) (aC (aA aX (ao 2) ai) (ao 3)))) (aS (av (aA aX (ao 1) ai) (aC (ao 2) (ao 3)))))))))))),?_⟩
 show tE ∅ (bh.of hb) ?_
 show BZ ?_
 let X:au H H:=au.refl H
 show fz (vs:=[.int (x - 1),.int y,.int w]) ?_ (by change 3<=N9;decide) λj T=>?_
 ·show ag (aQ ∅ az) (ag ∅ (ag ∅ aw))
 let s1:au H (Oc H j (.tup [.int (x - 1),.int y,.int w])):=(au.refl H).upd T
 let J:Oc H j (.tup [.int (x - 1),.int y,.int w]) j>.tup [.int (x - 1),.int y,.int w]:=af
 revert s1 J
 generalize Oc H j (.tup [.int (x - 1),.int y,.int w])=H1
 intro s1 J
 show fz (vs:=[.int x,.int (y - 1),.int w]) ?_ (by change 3<=N9;decide) λp2 S=>?_
 ·show ag ∅ (ag (aQ ∅ az) (ag ∅ aw))
 let B:au H1 (Oc H1 p2 (.tup [.int x,.int (y - 1),.int w])):=(au.refl H1).upd S
 let C:Oc H1 p2 (.tup [.int x,.int (y - 1),.int w]) p2>.tup [.int x,.int (y - 1),.int w]:=af
 revert B C
 generalize Oc H1 p2 (.tup [.int x,.int (y - 1),.int w])=H2
 intro B C
 show fz (vs:=[.int x,.int y,.int (w - 1)]) ?_ (by change 3<=N9;decide) λr O=>?_
 ·show ag ∅ (ag ∅ (ag (aQ ∅ az) aw))
 let A:au H2 (Oc H2 r (.tup [.int x,.int y,.int (w - 1)])):=(au.refl H2).upd O
 let L:Oc H2 r (.tup [.int x,.int y,.int (w - 1)]) r>.tup [.int x,.int y,.int (w - 1)]:=af
 revert A L
 generalize Oc H2 r (.tup [.int x,.int y,.int (w - 1)])=z
 intro A L
 show fz (vs:=[.int x,.int y,.int (w+1)]) ?_ (by change 3<=N9;decide) λo U=>?_
 ·show ag ∅ (ag ∅ (ag (aQ ∅ az) aw))
 let n:au z (Oc z o (.tup [.int x,.int y,.int (w+1)])):=(au.refl z).upd U
 let D:Oc z o (.tup [.int x,.int y,.int (w+1)]) o>.tup [.int x,.int y,.int (w+1)]:=af
 revert n D
 generalize Oc z o (.tup [.int x,.int y,.int (w+1)])=u
 intro n D
 show fz (vs:=[.int x,.int (y+1),.int w]) ?_ (by change 3<=N9;decide) λp R=>?_
 ·show ag ∅ (ag (aQ ∅ az) (ag ∅ aw))
 let i:au u (Oc u p (.tup [.int x,.int (y+1),.int w])):=(au.refl u).upd R
 let I:Oc u p (.tup [.int x,.int (y+1),.int w]) p>.tup [.int x,.int (y+1),.int w]:=af
 revert i I
 generalize Oc u p (.tup [.int x,.int (y+1),.int w])=v
 intro i I
 show fz (vs:=[.int (x+1),.int y,.int w]) ?_ (by change 3<=N9;decide) λm W=>?_
 ·show ag (aQ ∅ az) (ag ∅ (ag ∅ aw))
 let g:au v (Oc v m (.tup [.int (x+1),.int y,.int w])):=(au.refl v).upd W
 let M:Oc v m (.tup [.int (x+1),.int y,.int w]) m>.tup [.int (x+1),.int y,.int w]:=af
 revert g M
 generalize Oc v m (.tup [.int (x+1),.int y,.int w])=F
 intro g M
 show⟨by change 6<=N9;decide,λl N=>?_⟩
 let k:au F (Oc F l (.lst [.ref j,.ref p2,.ref r,.ref o,.ref p,.ref m])):=(au.refl F).upd N
 let a:=((((B.trans A).trans n).trans i).trans g).trans k
 let d:=(((A.trans n).trans i).trans g).trans k
 let f:=((n.trans i).trans g).trans k
 let e:=(i.trans g).trans k
 let c:=g.trans k
 show q _ l (s1.trans a) (mR (((((s1.trans B).trans A).trans n).trans i).trans g) N) ⟨[j,p2,r,o,p,m],af,?_⟩
 show .cons (a _ _ J) (.cons (d _ _ C) (.cons (f _ _ L) (.cons (e _ _ D) (.cons (c _ _ I) (.cons (k _ _ M) .nil)))))
theorem yI:jo P w K mg Oa 1 "neighbours" yu ["one", "two"] vE:=by
 show rd ["one", "two"] λnd _ _ _ _ _ H vs Q E hr h=>?_
 let⟨a,b,x,y,w,f,e,d,rfl,ha,hb,q⟩:=h
 show⟨_,(a9 (aD (je cT (aA aX (aA aX (bz mT T.abs_ (aE (aA cV (aP aH (ao 0) ai) (aP aH (ao 1) ai)))) (bz mT T.abs_ (aE (aA cV (aP aH (ao 0) ai) (aP aH (ao 1) ai))))) (bz mT T.abs_ (aE (aA cV (aP aH (ao 0) ai) (aP aH (ao 1) ai))))) ai))),?_⟩
 show dy (cA (dY (aQ (aQ (dH (v:=.int (if x - f<0 then -(x - f:_) else x - f)) (ag (aQ (cf (v:=.int x) ∅ az (bh.of ha) Z) (cf (v:=.int f) ∅ az (bh.of hb) Z)) aw) λQ' c=>⟨_,Z,c⟩) (dH (v:=.int (if y - e<0 then -(y - e:_) else y - e)) (ag (aQ (cf (v:=.int y) ∅ az (bh.of ha) Z) (cf (v:=.int e) ∅ az (bh.of hb) Z)) aw) λQ' c=>⟨_,Z,c⟩)) (dH (v:=.int (if w - d<0 then -(w - d:_) else w - d)) (ag (aQ (cf (v:=.int w) ∅ az (bh.of ha) Z) (cf (v:=.int d) ∅ az (bh.of hb) Z)) aw) λQ' c=>⟨_,Z,c⟩)) az) ?_) q
 rw[qj]
 congr 1
 show decide_eq_decide.mpr ?_
 rw[tU,tU,tU]
 omega
theorem yw(F:xO K "__init__" "Floor.__init__" g_ f fd)(dj:aT P w K mg Oa "check_sizes" 1 ["sizes", "prices", "vias"] se)(dc:aT P w K mg Oa "check_prices" 2 ["prices", "vias", "tolls"] oE)(da:aT P w K mg Oa "check_inside" 2 ["sizes", "spot"] iY):fq P w K mg Oa kf 3 f fd ["self", "sizes", "prices", "vias", "rocks", "tolls"] (pU Od):=by
 let sc:ei ["self", "sizes", "prices", "vias", "rocks", "tolls", "told_rocks", "told_tolls", "spot"] ["self", "sizes", "prices", "vias", "rocks", "tolls"] (aK g_):=⟨Z,Z,Z,by decide+kernel,Z,by decide+kernel,by decide+kernel⟩
 let nd:=sc.nd
 show F.ok sc (λvs H Q E h=>by first|(cases h;subst_vars;rfl)|repeat (first|(let⟨rfl,_⟩:=h;rfl)|(let⟨_,h⟩:=h))) (λhs A e4 s H vs Q E hr h=>?_)
 let⟨p,dx,z,pr,vi,r,t,g,rfl,hp,hg,hz,ac,ab,hR,hT,q⟩:=h
 show⟨_,(ak (bo 6 nd (jW (bS yY (ao 4) qF) (bB cO) (ao 4))) (ak (bo 7 nd (jW (bS yY (ao 5) qF) fJ (ao 5))) (ak (aV (bq dj hr (av (ao 1) (aC (ao 2) (ao 3))))) (ak (aV (bq dc hr (av (ao 2) (aC (ao 3) (ao 7))))) (ak (dU (bF (ao 6)) (bp 8 nd) (a9 (aV (bq da hr (aC (ao 1) (ao 8)))))) (ak (iE (dU (fU (ao 7)) (bp 8 nd) (a9 (aV (bq da hr (aC (ao 1) (ao 8))))))) (ak (eL (ao 0) (ao 1) Z) (ak (eL (ao 0) (il ["ahead", "across"] [] [] (bF (ao 2)) (gZ (K:=K) (n:=2) Z Z (aB (eU 0) (aB (eU 1) bT)) Z Z) dF (aS (aC (ao 0) (ao 1)))) Z) (ak (eL (ao 0) (iw fW T.list_ (aE (ao 3))) Z) (bc (eL (ao 0) (iw (mF Z hr) T.dict_ (aE (il ["spot"] [] [] (bF (ao 6)) (eU 0) dF (aS (aC (ao 0) cI))))) Z) (eL (ao 0) (iw gE T.dict_ (aE (ao 7))) Z))))))))))),?_⟩
 let c3:N9=2^24:=rfl
 let S:=hg.S
 let hm:=hg.m
 let c7:=hg.rl
 let few:=hg.tt.few
 show vN (λv H1=>∃ro,v=.ref ro/\au H H1/\fH H1 ro (g.rs.map (sN g.R g.C))) (λQ' hQ=>?_) ?_
 ·rcases hR with ⟨rfl,e⟩|⟨ro,rfl,h⟩
  ·show Cj (fg (aI (qw ∅ az)) (by rfl)) ⟨Ju _,λd nd=>?_⟩
   show hQ _ _ ⟨d,Z,(au.refl H).upd nd,[],af,e<|.nil⟩
  ·show Be (fg (aI (qw ∅ az)) (by rfl)) ⟨_,Z,?_⟩
   show hQ _ _ ⟨ro,Z,au.refl H,h⟩
 rintro v1 H1 ⟨ro,rfl,s1,cv⟩
 show vN (λv H2=>∃td,v=.ref td/\au H1 H2/\H2 td>.dT (aZ g.R g.C g.ts)) (λQ' hQ=>?_) ?_
 ·rcases hT with ⟨rfl,e⟩|⟨td,rfl,h⟩
  ·show Cj (fg (aI (qw ∅ az)) (by rfl)) λd nd=>?_
   show hQ _ _ ⟨d,Z,(au.refl H1).upd nd,e<|af⟩
  ·show Be (fg (aI (qw ∅ az)) (by rfl)) ⟨_,Z,?_⟩
   show hQ _ _ ⟨td,Z,au.refl H1,s1 _ _ h⟩
 rintro v2 H2 ⟨d,rfl,cd,ce⟩
 let s2:=s1.trans cd
 let⟨ps,h3,h4⟩:=ac.same s2
 let cr:↑ps=↑g.ps:=Nb.length h4
 let c1:=S.l1
 let c0:=hg.pl
 show bQ λRa eH=>?_
 show⟨_,Z,_,Z,_,Z,z,pr,vi,g.L,g.R,g.C,_,_,Z,s2 _ _ hz,S,h3,Jb<|cr<|hg.pl,s2 _ _ ab,Jb<|hg.vl,λH3 dp=>?_⟩
 show eH _ _ ?_
 let s3:=s2.trans dp
 show bQ λRb ex=>?_
 show⟨_,Z,_,Z,_,Z,pr,vi,d,g.ps,g.vs,_,Z,ac.same s3,hg.pp,s3 _ _ ab,hg.vv,dp _ _ ce,?_,λH4 d3=>?_⟩
 ·intro x hx
  let⟨y,hy,rfl⟩:=Jh.mp hx
  show hg.tv y hy
 show ex _ _ ?_
 let s4:=s3.trans d3
 let ah:=d3 _ _ (dp _ _ ce)
 let⟨as,L,am⟩:=((cv.same cd).same dp).same d3
 let c5:↑as=↑g.rs:=by rw[Nb.length am,Jb]
 let bd:∀n,n<g.M->∃x y w:Int,sN g.R g.C n=[x,y,w]/\kg g.L g.R g.C x y w/\Bd x y w:=λn hn=>by
  let i:=kj S (n:=n) (by have:=hg.M;omega)
  show⟨_,_,_,Z,i,?_⟩
  let⟨a1,a2,a3,a4,a5,a6⟩:=i
  have:=S.r1;have:=S.c1
  show⟨⟨by omega,by omega⟩,⟨by omega,by omega⟩,⟨by omega,by omega⟩⟩
 show bQ λRc ez=>?_
 show⟨_,Z,ro,Z,⟨_,aM.of L⟩,?_⟩
 show bf (K:=K) (xs:=as.map V.ref) (λi σ H'=>∃x8:Option V,σ=[some (.ref p),some (.ref z),some (.ref pr),some (.ref vi),some r,some t,some (.ref ro),some (.ref d),x8]/\H4=H') ⟨none,Z,Z⟩ (λi σ H' _ hz=>by let⟨_,_,e⟩:=hz;show e▸aM.of L) ?_ ?_
 ·rintro i x σ H' hx ⟨x8,rfl,rfl⟩
  let⟨a,ha,rfl⟩:=bJ hx
  let⟨c,hc,J⟩:=br am ha
  let⟨n,hn,rfl⟩:=Jh.mp (Jl hc)
  let⟨x,y,w,e,hi,hb⟩:=bd n (hg.rr n hn)
  rw[e] at J
  show gn ?_
  show⟨_,Z,_,Z,z,a,g.L,g.R,g.C,x,y,w,Z,s4 _ _ hz,J,hi,⟨_,Z,Z⟩⟩
 rintro σ H' ⟨x8,rfl,rfl⟩
 show ez _ _ ?_
 show bQ λRd fj=>?_
 show⟨d,.dT (aZ g.R g.C g.ts),ah,trivial,λo=>?_⟩
 show⟨_,Z,d,o,.dT (aZ g.R g.C g.ts),Z,af,trivial,?_⟩
 let ct:z≠d:=bu (s4 _ _ hz) ah (λz=>by cases z)
 show eV (λi σ H'=>∃x8:Option V,σ=[some (.ref p),some (.ref z),some (.ref pr),some (.ref vi),some r,some t,some (.ref ro),some (.ref d),x8]/\H'=Oc H4 d (.frz o (.dT (aZ g.R g.C g.ts)))) ⟨x8,Z,Z⟩ (λi σ H' _ hz=>by let⟨_,_,e⟩:=hz;show e▸af) ?_ ?_
 ·rintro i x v σ H' ⟨k,b,hk,rfl,hb⟩ hi ⟨x8,rfl,rfl⟩
  let⟨y,hy,e⟩:=Jh.mp (Jl hk)
  let e:(iK (sN g.R g.C y.1),y.2)=(k,v):=e
  cases e
  let⟨x,y',w,e,hi,c4⟩:=bd y.1 (hg.tt.lt y hy)
  let hb:Oc H4 d (.frz o (.dT (aZ g.R g.C g.ts))) b>.tup ((sN g.R g.C y.1).map V.int):=by
   have:=hb
   unfold iK at this
   rw[cC] at this
   show this
  rw[e] at hb
  show gn ?_
  show⟨_,Z,_,Z,z,b,g.L,g.R,g.C,x,y',w,Z,(by change Oc H4 d _ z=_;rw[aj ct];show s4 _ _ hz),hb,hi,⟨_,Z,Z⟩⟩
 rintro σ H5 ⟨x8,rfl,rfl⟩
 show⟨af,?_⟩
 show fj _ _ ?_
 let B:au H4 (Oc (Oc H4 d (.frz o (.dT (aZ g.R g.C g.ts)))) d (.dT (aZ g.R g.C g.ts))):=o_ ah
 revert B
 generalize Oc (Oc H4 d (.frz o (.dT (aZ g.R g.C g.ts)))) d (.dT (aZ g.R g.C g.ts))=H5
 intro B
 let s5:=s4.trans B
 let ck:=B _ _ ah
 let m:=s5 _ _ hp
 let Z0:d≠p:=bu ck m (λz=>by cases z)
 let ch:z≠p:=bu (s5 _ _ hz) m (λz=>by cases z)
 let bn:ro≠p:=bu (B _ _ L) m (λz=>by cases z)
 let ci:vi≠p:=bu (s5 _ _ ab) m (λz=>by cases z)
 let cN:pr≠p:=bu (ac.same s5).choose_spec.1 m (λz=>by cases z)
 show bQ λRe fh=>?_
 show⟨_,Z,_,Z,p,Od,dx,[],Z,m,T.cl_Floor,T.na_Floor_sizes,(by decide),?_⟩
 show fh _ _ ?_
 rw[IH]
 let b6:fM H (Oc H5 p (.ins Od dx [("sizes",.ref z)])) p:=(fM.of s5).up
 let C:Oc H5 p (.ins Od dx [("sizes",.ref z)]) p>.ins Od dx [("sizes",.ref z)]:=af
 let bm:Oc H5 p (.ins Od dx [("sizes",.ref z)]) d>.dT (aZ g.R g.C g.ts):=aj Z0<|ck
 let an:fH (Oc H5 p (.ins Od dx [("sizes",.ref z)])) ro (g.rs.map (sN g.R g.C)):=⟨as,aj bn<|B _ _ L,ay am λb xs e=>by rw[aj (bu (B _ _ e) m (λz=>by cases z))];show B _ _ e⟩
 let be:Oc H5 p (.ins Od dx [("sizes",.ref z)]) vi>.lst (g.vs.map V.int):=b6 _ _ ci ab
 let U:fH (Oc H5 p (.ins Od dx [("sizes",.ref z)])) pr g.ps:=by
  let⟨j,e1,e2⟩:=ac.same s5
  show⟨j,aj cN<|e1,ay e2 λb xs e=>by rw[aj (bu e m (λz=>by cases z))];show e⟩
 revert b6 C bm an be U
 generalize Oc H5 p (.ins Od dx [("sizes",.ref z)])=H6
 intro b6 C bm an be U
 let⟨cc,e6,t6⟩:=U
 show bQ λRf er=>?_
 show⟨_,Z,pr,Z,⟨_,aM.of e6⟩,λD nD=>?_⟩
 show bf (K:=K) (xs:=cc.map V.ref) (λi τ H'=>∃(x0 x1:Option V) (us:-N8),τ=[x0,x1]/\au H6 H'/\H' D>.lst (us.map V.ref)/\bG H' us (g.ps.take i)/\↑us=i) ⟨none,none,[],Z,(au.refl H6).upd nD,af,.nil,Z⟩ (λi τ H' _ hz=>by let⟨_,_,_,_,s,_⟩:=hz;show aM.of (s _ _ e6)) ?_ ?_
 ·rintro i x τ H' hx ⟨x0,x1,us,rfl,s,hD,cB,cw⟩
  let⟨a,ha,rfl⟩:=bJ hx
  let⟨c,hc,J⟩:=br t6 ha
  let⟨u,v,rfl,_⟩:=hg.pp c (Jl hc)
  let hi:i<↑cc:=(Js.mp ha).1
  have:=Nb.length t6
  show⟨a,_,Z,bh.of (s _ _ J),Z,?_⟩
  show⟨_,_,Z,gn ?_⟩
  show⟨_,_,Z,gn ?_⟩
  show⟨Z,?_⟩
  show eT ?_
  show⟨_,Z,_,Z,(by change 2<=N9;decide),λt nt=>?_⟩
  let R:t≠D:=Jr (aq hD nt)
  show⟨us.map V.ref,(aj (Jr R)<|hD),by rw[Jb];omega,_,_,us++[t],Z,bE (s.upd nt) nD,by rw[af,Jf];rfl,?_,by simp[cw]⟩
  rw[aN hc]
  show rT (ay cB (fL hD nt)) (.cons (by rw[aj R,af];rfl) .nil)
 rintro τ H7 ⟨x0,x1,us,rfl,s7,cF,cj,_⟩
 rw[Jb,Nb.length t6,Jx] at cj
 let aa:D≠p:=Jr (aq C nD)
 show⟨_,Z,p,Od,dx,_,Z,s7 _ _ C,T.cl_Floor,T.na_Floor_prices,(by simp),?_⟩
 show er _ _ ?_
 rw[IB]
 let n6:∀a,H6 a=none->H a=none:=λa n=>by
  cases e:H a with
  |none=>rfl
  |some o=>
   by_cases ap:a=p
   ·subst ap;rw[C] at n;cases n
   ·rw[b6 a o ap e] at n;cases n
 let b8:fM H (Oc H7 p (.ins Od dx [("sizes",.ref z),("prices",.ref D)])) p:=(b6.st s7).up
 let O:Oc H7 p (.ins Od dx [("sizes",.ref z),("prices",.ref D)]) p>.ins Od dx [("sizes",.ref z),("prices",.ref D)]:=af
 let kp:∀a o,a≠p->H7 a>o->Oc H7 p (.ins Od dx [("sizes",.ref z),("prices",.ref D)]) a>o:=λa o n e=>by rw[aj n];show e
 let X:fH (Oc H7 p (.ins Od dx [("sizes",.ref z),("prices",.ref D)])) D g.ps:=⟨us,kp _ _ aa cF,ay cj λb xs e=>kp _ _ (bu e (s7 _ _ C) (λz=>by cases z)) e⟩
 let bi:fH (Oc H7 p (.ins Od dx [("sizes",.ref z),("prices",.ref D)])) ro (g.rs.map (sN g.R g.C)):=by
  let⟨j,e1,e2⟩:=an.same s7
  show⟨j,kp _ _ bn e1,ay e2 λb xs e=>kp _ _ (bu e (s7 _ _ C) (λz=>by cases z)) e⟩
 let b1:=kp _ _ Z0 (s7 _ _ bm)
 let bb:=kp _ _ ci (s7 _ _ be)
 let n8:∀a,Oc H7 p (.ins Od dx [("sizes",.ref z),("prices",.ref D)]) a=none->H a=none:=λa n=>n6 a (by
  cases e:H6 a with
  |none=>rfl
  |some o=>
   by_cases ap:a=p
   ·subst ap;rw[af] at n;cases n
   ·rw[kp _ _ ap (s7 _ _ e)] at n;cases n)
 revert b8 O X bi b1 bb n8
 clear kp
 generalize Oc H7 p (.ins Od dx [("sizes",.ref z),("prices",.ref D)])=H8
 intro b8 O X bi b1 bb n8
 let cZ:H D=none:=n6 D nD
 show bQ λRg f1=>?_
 show⟨_,Z,vi,_,Z,.inl (aM.of bb),λl nl=>?_⟩
 let cx:=n8 l nl
 let s9:au H8 (Oc H8 l (.lst (g.vs.map V.int))):=(au.refl H8).upd nl
 let b4:Oc H8 l (.lst (g.vs.map V.int)) l>.lst (g.vs.map V.int):=af
 revert s9 b4
 generalize Oc H8 l (.lst (g.vs.map V.int))=H9
 intro s9 b4
 let a0:l≠p:=Jr (aq O nl)
 show⟨_,Z,p,Od,dx,_,Z,s9 _ _ O,T.cl_Floor,T.na_Floor_vias,(by simp),?_⟩
 show f1 _ _ ?_
 rw[IS]
 let kp:∀a o,a≠p->H9 a>o->Oc H9 p (.ins Od dx [("sizes",.ref z),("prices",.ref D),("vias",.ref l)]) a>o:=λa o n e=>by rw[aj n];show e
 let kt:∀b xs,H8 b>.tup xs->Oc H9 p (.ins Od dx [("sizes",.ref z),("prices",.ref D),("vias",.ref l)]) b>.tup xs:=λb xs e=>kp _ _ (bu e O (λz=>by cases z)) (s9 _ _ e)
 let bA:fM H (Oc H9 p (.ins Od dx [("sizes",.ref z),("prices",.ref D),("vias",.ref l)])) p:=(b8.st s9).up
 let N:Oc H9 p (.ins Od dx [("sizes",.ref z),("prices",.ref D),("vias",.ref l)]) p>.ins Od dx [("sizes",.ref z),("prices",.ref D),("vias",.ref l)]:=af
 let W:fH (Oc H9 p (.ins Od dx [("sizes",.ref z),("prices",.ref D),("vias",.ref l)])) D g.ps:=by
  let⟨j,e1,e2⟩:=X
  show⟨j,kp _ _ aa (s9 _ _ e1),ay e2 kt⟩
 let b0:fH (Oc H9 p (.ins Od dx [("sizes",.ref z),("prices",.ref D),("vias",.ref l)])) ro (g.rs.map (sN g.R g.C)):=by
  let⟨j,e1,e2⟩:=bi
  show⟨j,kp _ _ bn (s9 _ _ e1),ay e2 kt⟩
 let b3:=kp _ _ Z0 (s9 _ _ b1)
 let ar:=kp _ _ a0 b4
 let nA:∀a,Oc H9 p (.ins Od dx [("sizes",.ref z),("prices",.ref D),("vias",.ref l)]) a=none->H a=none:=λa n=>n8 a (by
  cases e:H8 a with
  |none=>rfl
  |some o=>
   by_cases ap:a=p
   ·subst ap;rw[af] at n;cases n
   ·rw[kp _ _ ap (s9 _ _ e)] at n;cases n)
 revert bA N W b0 b3 ar nA
 clear kp kt
 generalize Oc H9 p (.ins Od dx [("sizes",.ref z),("prices",.ref D),("vias",.ref l)])=HA
 intro bA N W b0 b3 ar nA
 let⟨bl,eA,tA⟩:=b0
 let cm:↑bl=↑g.rs:=by rw[Nb.length tA,Jb]
 show bQ λRi ew=>?_
 show⟨_,Z,ro,Z,⟨_,aM.of eA⟩,λD2 d8=>?_⟩
 show bf (K:=K) (xs:=bl.map V.ref) (λi τ H'=>∃(x0:Option V) (es:-N8),τ=[x0]/\au HA H'/\H' D2>.lst (es.map V.ref)/\yk H' es ((g.rs.take i).map λn=>(iK (sN g.R g.C n),V.bl true))/\↑es=i) ⟨none,[],Z,(au.refl HA).upd d8,af,.nil,Z⟩ (λi τ H' _ hz=>by let⟨_,_,_,s,_⟩:=hz;show aM.of (s _ _ eA)) ?_ ?_
 ·rintro i x τ H' hx ⟨x0,es,rfl,s,hD,ad,ca⟩
  let⟨a,ha,rfl⟩:=bJ hx
  let⟨c,hc,J⟩:=br tA ha
  rw[Jn] at hc
  let⟨n,hn,rfl⟩:=JH.mp hc
  let hi:i<↑bl:=(Js.mp ha).1
  show gn (eT ?_)
  show⟨_,Z,(by change 2<=N9;decide),λt nt=>?_⟩
  let R:t≠D2:=Jr (aq hD nt)
  show⟨es.map V.ref,(aj (Jr R)<|hD),by rw[Jb];omega,_,es++[t],Z,bE (s.upd nt) d8,by rw[af,Jf];rfl,?_,by simp[ca]⟩
  rw[aN hn,Jf]
  show Ca (yk.mono ad (fL hD nt)) (.cons ⟨a,by rw[aj R,af],fL hD nt _ _ (fS (s _ _ J))⟩ .nil)
 rintro τ HB ⟨c2,es,rfl,sB,cs,ad,ca⟩
 rw[Jb,cm,Jx] at ad
 show⟨D2,es,g.rs.map λn=>(iK (sN g.R g.C n),V.bl true),Z,cs,ad,λrd d0=>?_⟩
 rw[Ea S]
 let co:H rd=none:=nA rd (mR sB d0)
 let sC:au HB (Oc HB rd (.dT (aZ g.R g.C (rk g.rs)))):=(au.refl HB).upd d0
 let a7:Oc HB rd (.dT (aZ g.R g.C (rk g.rs))) rd>.dT (aZ g.R g.C (rk g.rs)):=af
 let b5:rd≠p:=Jr (aq (sB _ _ N) d0)
 revert sC a7
 generalize Oc HB rd (.dT (aZ g.R g.C (rk g.rs)))=HC
 intro sC a7
 let I:=sB.trans sC
 show⟨_,Z,p,Od,dx,_,Z,I _ _ N,T.cl_Floor,T.na_Floor_rocks,(by simp),?_⟩
 show ew _ _ ?_
 rw[IQ]
 let kp:∀a o,a≠p->HC a>o->Oc HC p (.ins Od dx [("sizes",.ref z),("prices",.ref D),("vias",.ref l),("rocks",.ref rd)]) a>o:=λa o n e=>by rw[aj n];show e
 let kt:∀b xs,HA b>.tup xs->Oc HC p (.ins Od dx [("sizes",.ref z),("prices",.ref D),("vias",.ref l),("rocks",.ref rd)]) b>.tup xs:=λb xs e=>kp _ _ (bu e N (λz=>by cases z)) (I _ _ e)
 let bD:fM H (Oc HC p (.ins Od dx [("sizes",.ref z),("prices",.ref D),("vias",.ref l),("rocks",.ref rd)])) p:=(bA.st I).up
 let M:Oc HC p (.ins Od dx [("sizes",.ref z),("prices",.ref D),("vias",.ref l),("rocks",.ref rd)]) p>.ins Od dx [("sizes",.ref z),("prices",.ref D),("vias",.ref l),("rocks",.ref rd)]:=af
 let Y:fH (Oc HC p (.ins Od dx [("sizes",.ref z),("prices",.ref D),("vias",.ref l),("rocks",.ref rd)])) D g.ps:=by
  let⟨j,e1,e2⟩:=W
  show⟨j,kp _ _ aa (I _ _ e1),ay e2 kt⟩
 let ax:=kp _ _ Z0 (I _ _ b3)
 let b7:=kp _ _ a0 (I _ _ ar)
 let bv:=kp _ _ b5 a7
 let bx:∀a,Oc HC p (.ins Od dx [("sizes",.ref z),("prices",.ref D),("vias",.ref l),("rocks",.ref rd)]) a=none->H a=none:=λa n=>nA a (by
  cases e:HA a with
  |none=>rfl
  |some o=>
   by_cases ap:a=p
   ·subst ap;rw[af] at n;cases n
   ·rw[kp _ _ ap (I _ _ e)] at n;cases n)
 revert bD M Y ax b7 bv bx
 clear kp kt
 generalize Oc HC p (.ins Od dx [("sizes",.ref z),("prices",.ref D),("vias",.ref l),("rocks",.ref rd)])=HD
 intro bD M Y ax b7 bv bx
 show⟨_,Z,d,Z,.inr ⟨_,.inl ax,qe S hg.M hg.tt,λt nt=>?_⟩⟩
 let cy:=bx t nt
 let sE:au HD (Oc HD t (.dT (aZ g.R g.C g.ts))):=(au.refl HD).upd nt
 let ba:Oc HD t (.dT (aZ g.R g.C g.ts)) t>.dT (aZ g.R g.C g.ts):=af
 let cU:t≠p:=Jr (aq M nt)
 revert sE ba
 generalize Oc HD t (.dT (aZ g.R g.C g.ts))=HE
 intro sE ba
 show⟨_,Z,p,Od,dx,_,Z,sE _ _ M,T.cl_Floor,T.na_Floor_tolls,(by simp),?_⟩
 rw[IP]
 show q _ D l rd t (bD.st sE).up cZ cx co cy ⟨⟨dx,z,af,?_⟩,?_,?_,?_,?_⟩
 ·change Oc HE p _ z=_
  rw[aj ch];show sE _ _ (bD _ _ ch hz)
 ·let⟨j,e1,e2⟩:=Y
  show⟨j,aj aa<|sE _ _ e1,ay e2 λb xs e=>by rw[aj (bu e M (λz=>by cases z))];show sE _ _ e⟩
 ·rw[aj a0];show sE _ _ b7
 ·rw[aj b5];show sE _ _ bv
 ·rw[aj cU];show ba
theorem xo (a:aT P w K mg Oa "check_inside" 2 ["sizes", "spot"] iY):mK P w K mg Oa 3 "is_rock" "Floor.is_rock" vh ["self", "spot"] (tf Od):=by
 show rd ["self", "spot"] λnd _ _ _ _ _ H vs Q E hr h=>?_
 let⟨p,pr,vi,rd,td,b,g,x,y,w,rfl,c,hg,hb,hi,q⟩:=h
 show⟨_,(bc (aV (bq a hr (aC (bI (ao 0) Z) (ao 1)))) (aD (mW (f_ (aR.one hr) (ao 1) (bI (ao 0) Z))))),?_⟩
 let⟨dx,z,h1,h2⟩:=c.ex
 show⟨_,Z,p,Od,dx,_,_,Z,h1,T.cl_Floor,T.na_Floor_sizes,GI,_,Z,z,b,g.L,g.R,g.C,x,y,w,Z,h2,hb,hi,?_⟩
 show⟨_,Z,_,Z,p,Od,dx,_,_,Z,h1,T.cl_Floor,T.na_Floor_rocks,Il,rd,_,Z,dg (x:=[x,y,w]) (.inl c.rd) hb,?_⟩
 rw[Ds hg.S]
 show q
theorem xt (a:aT P w K mg Oa "inside" 1 ["sizes", "spot"] m7):mK P w K mg Oa 2 "is_open" "Floor.is_open" wA ["self", "spot"] (jM Od):=by
 show rd ["self", "spot"] λnd _ _ _ _ _ H vs Q E hr h=>?_
 let⟨p,pr,vi,rd,td,b,g,x,y,w,rfl,c,hg,hb,q⟩:=h
 show⟨_,(a9 (aD (gu (bq a hr (aC (bI (ao 0) Z) (ao 1))) (gR (mW (iT (aR.one hr) (ao 1) (bI (ao 0) Z))))))),?_⟩
 let⟨dx,z,h1,h2⟩:=c.ex
 show dr ⟨_,Z,p,Od,dx,_,_,Z,h1,T.cl_Floor,T.na_Floor_sizes,GI,_,Z,z,b,g.L,g.R,g.C,x,y,w,Z,h2,hb,_,Z,?_⟩
 unfold jk uT at q
 by_cases hi:kg g.L g.R g.C x y w
 ·rw[N3 hi]
  show c9 ?_
  let d:=dg (x:=[x,y,w]) (.inl c.rd) hb
  show(xB ∅ (gN ∅ h1 T.cl_Floor T.na_Floor_rocks Il) d) _ ?_
  rw[Ds hg.S]
  rw[show decide (kg g.L g.R g.C ([x,y,w].getD 0 0) ([x,y,w].getD 1 0) ([x,y,w].getD 2 0))=true from N3 hi] at q
  show q
 ·rw[N5 hi]
  show cK ?_
  rw[show decide (kg g.L g.R g.C ([x,y,w].getD 0 0) ([x,y,w].getD 1 0) ([x,y,w].getD 2 0))=false from N5 hi] at q
  show q
theorem xk (d:aT P w K mg Oa "neighbours" 1 ["one", "two"] vE)(c:bU P w K mg Oa Od "is_open" 2 ["self", "spot"] (jM Od)):mK P w K mg Oa 3 "is_step" "Floor.is_step" vO ["self", "one", "two"] (m_ Od):=by
 show rd ["self", "one", "two"] λnd _ _ _ _ _ H vs Q E hr h=>?_
 let⟨p,pr,vi,rd,td,a,b,g,x,y,w,j,f,e,rfl,i,hg,ha,hb,q⟩:=h
 show⟨_,(a9 (aD (gu (bq d hr (aC (ao 1) (ao 2))) (gu (cP (ao 0) T.cl_Floor c (hr.mono (by decide)) (aE (ao 1))) (gR (cP (ao 0) T.cl_Floor c (hr.mono (by decide)) (aE (ao 2)))))))),?_⟩
 let⟨dx,z,h1,h2⟩:=i.ex
 show dr ⟨_,Z,_,Z,a,b,x,y,w,j,f,e,Z,ha,hb,_,Z,?_⟩
 cases e1:xr [x,y,w] [j,f,e] with
 |false=>rw[e1] at q;show cK q
 |true=>
  rw[e1] at q
  show c9 ⟨_,Z,p,dx,_,Z,h1,GO,_,Z,p,pr,vi,rd,td,a,g,x,y,w,Z,i,hg,ha,_,Z,?_⟩
  cases e2:jk g [x,y,w] with
  |false=>rw[e2] at q;show cK q
  |true=>rw[e2] at q;show c9 ⟨_,Z,p,dx,_,Z,h1,GO,_,Z,p,pr,vi,rd,td,b,g,j,f,e,Z,i,hg,hb,q⟩
theorem ye:mK P w K mg Oa 1 "priced" "Floor.priced" vM ["self", "one", "two"] (mE Od):=by
 show rd ["self", "one", "two", "tolls", "ahead", "across"] λnd _ _ _ _ _ H vs Q E hr h=>?_
 let⟨p,pr,vi,rd,td,a,b,g,x,y,w,x',r,A,rfl,B,hg,ha,hb,hi,m,I,q⟩:=h
 show⟨_,(ak (bo 3 nd (aA aX (bR JL JZ J7 (dk hr) (bI (ao 0) Z) (aC (ao 1) ai)) (bR JL JZ J7 (dk hr) (bI (ao 0) Z) (aC (ao 2) ai)))) (ak (bH (bS f9 (aP aH (ao 1) ai) (aP aH (ao 2) ai)) (aD (aA aX (aP aF (bI (ao 0) Z) (bz (kz Z) T.min_ (aC (aP aH (ao 1) ai) (aP aH (ao 2) ai)))) (ao 3)))) (bc (e_ (aP aF (bI (ao 0) Z) (aP aH (ao 1) ai)) (eJ Z (aB (bp 4 nd) (aB (bp 5 nd) bT)))) (aD (aA aX (jW (bS cT (aP aH (ao 1) ai) (aP aH (ao 2) ai)) (ao 4) (ao 5)) (ao 3)))))),?_⟩
 let⟨dx,z,h1,h2⟩:=B.ex
 let⟨i1,i2,S,i4,i5,Z0⟩:=hi
 let⟨W,Y,X,j4,j5,U⟩:=m
 let L:=dg (x:=[x,y,w]) (.inl B.td) ha
 let M:=dg (x:=[x',r,A]) (.inl B.td) hb
 show bV (v:=.int (dJ g.R g.C g.ts [x,y,w]+dJ g.R g.C g.ts [x',r,A])) (aQ (cA (lJ (gN ∅ h1 T.cl_Floor T.na_Floor_tolls Ik) ∅ az B.td L) (jb hg.tv _)) (cA (lJ (gN ∅ h1 T.cl_Floor T.na_Floor_tolls Ik) ∅ az B.td M) (jb hg.tv _))) ?_
 let o:=hg.vl
 let n:=hg.pl
 let adj:x'=x\/x'=x - 1\/x'=x+1:=by
  unfold t9 uO at I
  simp only[Jk,List.cons.injEq,JJ,or_false,and_true] at I
  lia
 show gH (aI (gX (cf (v:=.int x) ∅ az (bh.of ha) Z) (cf (v:=.int x') ∅ az (bh.of hb) Z))) (λe=>?_) (λe=>?_)
 ·let e:x≠x':=by simpa using e
  let hm:(min x x').toNat<↑g.vs:=by lia
  let d:jH (g.vs.map V.int) (if x'<x then x' else x)>.int (g.vs.getD (min x x').toNat 0):=by
   rw[FL]
   have:min x x'=(((min x x').toNat:Nat):Int):=by lia
   rw[this]
   show bC ?_
   rw[Kn,Jn,JP,JI hm];rfl
  show dy (cA (aQ (c8 (v:=.int (g.vs.getD (min x x').toNat 0)) (gN ∅ h1 T.cl_Floor T.na_Floor_vias IT) (dH (v:=.int (if x'<x then x' else x)) (ag (cf (v:=.int x) ∅ az (bh.of ha) Z) (ag (cf (v:=.int x') ∅ az (bh.of hb) Z) aw)) λQ' N=>⟨_,_,Z,N⟩) (aM.of B.vi) d) ∅) (c:=.int (e8 g [x,y,w] [x',r,A])) ?_) q
  unfold e8 bare
  rw[N1 (show [x,y,w].getD 0 0≠[x',r,A].getD 0 0 from e)]
  change V.int (_+_)=V.int _
  congr 1
  show Lj _ _
 ·let e:x=x':=by simpa using e
  let⟨as,J,p2⟩:=B.pr
  let O:x.toNat<↑g.ps:=by lia
  let j:x.toNat<↑as:=Nb.length p2<|O
  obtain⟨aa,D⟩:∃aa,as[x.toNat]?>aa:=⟨_,JI j⟩
  let⟨c,F,l⟩:=br p2 D
  let⟨u,v,rfl,_⟩:=hg.pp c (Jl F)
  let i:g.ps.getD x.toNat []=[u,v]:=by rw[JP,F];rfl
  let d:jH (as.map V.ref) x>.ref aa:=by
   have:x=((x.toNat:Nat):Int):=by lia
   rw[this]
   show bC ?_
   rw[Jn,D];rfl
  show⟨_,Z,p,Od,dx,_,_,Z,h1,T.cl_Floor,T.na_Floor_prices,IR,_,Z,_,_,_,_,Z,Z,bh.of ha,Z,_,_,_,_,Z,Z,aM.of J,d,aa,_,Z,bh.of l,Z,_,_,Z,_,_,Z,Z,?_⟩
  let f:bare g [x,y,w] [x',r,A]=if y=r then u else v:=by
   unfold bare
   rw[N0 (show¬[x,y,w].getD 0 0≠[x',r,A].getD 0 0 from λh=>h e)]
   change(if y=r then (g.ps.getD x.toNat []).getD 0 0 else (g.ps.getD x.toNat []).getD 1 0)=_
   rw[i];rfl
  let k:e8 g [x,y,w] [x',r,A]=(if y=r then u else v)+(dJ g.R g.C g.ts [x,y,w]+dJ g.R g.C g.ts [x',r,A]):=by
   unfold e8
   rw[f];show Lj _ _
  rw[k] at q
  show st ?_
  show dr (Fv ?_)
  by_cases hy:y=r
  ·rw[N1 hy] at q
   show Cj (fg (aI (dY (cf (v:=.int y) ∅ az (bh.of ha) Z) (cf (v:=.int r) ∅ az (bh.of hb) Z))) (N3 hy)) ?_
   show⟨_,Z,_,Z,_,_,Z,Z,q⟩
  ·rw[N0 hy] at q
   show Be (fg (aI (dY (cf (v:=.int y) ∅ az (bh.of ha) Z) (cf (v:=.int r) ∅ az (bh.of hb) Z))) (N5 hy)) ?_
   show⟨_,Z,_,Z,_,_,Z,Z,q⟩
theorem zj (m:aT P w K mg Oa "spots_round" 1 ["spot"] vc)(k:bU P w K mg Oa Od "is_rock" 3 ["self", "spot"] (tf Od))(j:bU P w K mg Oa Od "is_open" 2 ["self", "spot"] (jM Od))(i:bU P w K mg Oa Od "priced" 1 ["self", "one", "two"] (mE Od)):mK P w K mg Oa 4 "steps" "Floor.steps" yt ["self", "spot"] (uY Od):=by
 show rd ["self", "spot"] λnd _ _ _ _ _ H vs Q E hr h=>?_
 let⟨p,pr,vi,rd,td,b,g,x,y,w,rfl,v,hg,hb,hi,q⟩:=h
 show⟨_,(bc (bH (dq (cP (ao 0) T.cl_Floor k (hr.mono (by decide)) (aE (ao 1)))) (aD (bB cO))) (aD (il ["other"] ["spot", "self"] [1,0] (bF (bq m hr (aE (ao 1)))) (eU 0) (uf (dq (cP (ao 2) (by show T.cl_Floor) (by show j) (by show(hr.mono (by decide))) (aE (ao 0))))) (aS (aC (ao 0) (cP (ao 2) (by show T.cl_Floor) (by show i) (by show(hr.mono (by decide))) (aC (ao 1) (ao 0)))))))),?_⟩
 let f:N9=2^24:=rfl
 let⟨dx,z,h1,h2⟩:=v.ex
 show bO ⟨_,Z,p,dx,_,Z,h1,IC,_,Z,p,pr,vi,rd,td,b,g,x,y,w,Z,v,hg,hb,hi,_,Z,?_⟩
 by_cases hr:BH g [x,y,w]=true
 ·rw[hr]
  show c9 ?_
  show⟨Ju _,λl B=>q _ l ((au.refl H).upd B) B ⟨[],af,?_⟩⟩
  unfold gW
  rw[N1 hr];show .nil
 ·rw[show BH g [x,y,w]=false by simpa using hr]
  show cK ?_
  show dr ⟨_,Z,b,x,y,w,Z,hb,λH1 l s1 B N=>?_⟩
  let⟨as,J,I⟩:=N
  show⟨l,Z,⟨_,aM.of J⟩,λD M=>?_⟩
  show Ap (K:=K) (jk g) (λc=>e8 g [x,y,w] c) [some (.ref b),some (.ref p)] M (λH' s=>aM.of (s _ _ J)) I (by rw[Nb.length I];unfold uO;simp) (λa c H' u e s=>?_) λH' O s S hq=>?_
  ·let n:=s1.trans s
   obtain⟨r,o,w',rfl⟩:∃r o w',c=[r,o,w']:=by
    unfold uO at u
    simp only[Jk,JJ,or_false] at u
    rcases u with h|h|h|h|h|h<;>show⟨_,_,_,h⟩
   show⟨uj λQ' F=>⟨_,Z,p,dx,_,Z,n _ _ h1,GO,_,Z,p,pr,vi,rd,td,a,g,r,o,w',Z,v.same n,hg,s _ _ e,F⟩,λA=>λQ' F=>?_⟩
   let d:kg g.L g.R g.C r o w':=by
    unfold jk uT at A
    rw[Jv] at A
    show N4 A.1
   show⟨_,Z,p,dx,_,Z,n _ _ h1,He,_,Z,_,Z,p,pr,vi,rd,td,b,a,g,x,y,w,r,o,w',Z,v.same n,hg,n _ _ hb,s _ _ e,hi,d,u,F⟩
  ·show q H' D (s1.trans s) (mR s1 M) ⟨O,S,?_⟩
   unfold gW
   rw[N0 hr]
   show hq
theorem yJ (n:K.In Oa)(d:aT P w K mg Oa "check_inside" 2 ["sizes", "spot"] iY)(i:bU P w K mg Oa Od "is_step" 3 ["self", "one", "two"] (m_ Od))(f:bU P w K mg Oa Od "priced" 1 ["self", "one", "two"] (mE Od)):mK P w K mg Oa 4 "step_price" "Floor.step_price" Aj ["self", "one", "two"] (wJ Od):=by
 show rd ["self", "one", "two"] λnd _ _ _ _ _ H vs Q E hr h=>?_
 let⟨p,pr,vi,rd,td,a,b,g,x,y,w,k,j,w',rfl,l,hg,ha,hb,hi,c,e,q⟩:=h
 show⟨_,(ak (aV (bq d hr (aC (bI (ao 0) Z) (ao 1)))) (ak (aV (bq d hr (aC (bI (ao 0) Z) (ao 2)))) (bc (bH (dw (dq (cP (ao 0) T.cl_Floor i (hr.mono (by decide)) (aC (ao 1) (ao 2))))) dz) (aD (cP (ao 0) T.cl_Floor f (hr.mono (by decide)) (aC (ao 1) (ao 2))))))),?_⟩
 let⟨dx,z,h1,h2⟩:=l.ex
 show⟨_,Z,p,Od,dx,_,_,Z,h1,T.cl_Floor,T.na_Floor_sizes,GI,_,Z,z,a,g.L,g.R,g.C,x,y,w,Z,h2,ha,hi,?_⟩
 show⟨_,Z,p,Od,dx,_,_,Z,h1,T.cl_Floor,T.na_Floor_sizes,GI,_,Z,z,b,g.L,g.R,g.C,k,j,w',Z,h2,hb,c,?_⟩
 show st ?_
 show bO ⟨_,Z,p,dx,_,Z,h1,by kernel_rfl,_,Z,_,Z,p,pr,vi,rd,td,a,b,g,x,y,w,k,j,w',Z,l,hg,ha,hb,_,Z,?_⟩
 rw[e]
 show cK ?_
 let m:t9 x y w k j w':=by
  rw[Jv] at e
  let hm:[k,j,w']∈jD [x,y,w]:=N4 e.1
  show hm
 show dr ⟨_,Z,p,dx,_,Z,h1,by kernel_rfl,_,Z,_,Z,p,pr,vi,rd,td,a,b,g,x,y,w,k,j,w',Z,l,hg,ha,hb,hi,c,m,q⟩
theorem Bn (d:bU P w K mg Oa Od "step_price" 4 ["self", "one", "two"] (wJ Od)):mK P w K mg Oa 5 "wiring_price" "Floor.wiring_price" C_ ["self", "wiring"] (Ah Od):=by
 show rd ["self", "wiring"] λnd _ _ _ _ _ H vs Q E hr h=>?_
 let⟨p,pr,vi,rd,td,l,g,as,ls,rfl,v,hg,r,ht,A,hs,q⟩:=h
 show⟨_,(a9 (aD (bz (iQ Z) T.sum_ (aE (il ["one", "two"] ["self"] [0] (bF (ao 1)) (gZ (K:=K) (n:=2) Z Z (aB (eU 0) (aB (eU 1) bT)) Z Z) dF (cP (ao 2) (by show T.cl_Floor) (by show d) (by show(hr.mono (by decide))) (aC (ao 0) (ao 1)))))))),?_⟩
 let b:N9=2^24:=rfl
 let len:↑as=↑ls:=ht.length
 show⟨_,Z,l,Z,⟨_,aM.of r⟩,λD u=>?_⟩
 show bf (K:=K) (xs:=as.map V.ref) (λi f H'=>∃k o:Option V,f=[k,o,some (.ref p)]/\au H H'/\H' D>.lst (((ls.take i).map (FT g)).map V.int))
  ⟨none,none,Z,(au.refl H).upd u,af⟩ (λi f H' _ A=>by let⟨_,_,_,s,_⟩:=A;show aM.of (s _ _ r)) ?_ ?_
 ·rintro i y f H' hi ⟨k,o,rfl,s,j⟩
  let⟨a,ha,rfl⟩:=bJ hi
  let c:i<↑as:=(Js.mp ha).1
  let⟨e,x,y,B,M,I,L⟩:=(ht.same s).at ha
  let⟨n,m,N,hm,rfl,J,b2,F⟩:=(hs e (Jl B)).ex
  let⟨dx,z,h1,h2⟩:=(v.same s).ex
  show⟨a,_,Z,bh.of M,Z,_,_,Z,_,_,Z,Z,?_⟩
  show eT ?_
  show⟨_,Z,p,dx,_,Z,h1,by kernel_rfl,_,Z,_,Z,p,pr,vi,rd,td,x,y,g,_,_,_,_,_,_,Z,v.same s,hg,I,L,mC hg N Z,mC hg hm Z,by change(xr (sN g.R g.C n) (sN g.R g.C m)&&(jk g (sN g.R g.C n)&&jk g (sN g.R g.C m)))=true;rw[J,b2,F];rfl,?_⟩
  show⟨_,j,by rw[Jb,Jb,JT];lia,_,_,Z,bE s u,?_⟩
  rw[af,aN B,Jf,Jf];rfl
 ·rintro f H' ⟨k,o,rfl,s,j⟩
  rw[Jb,len,Jx] at j
  show⟨D,_,Z,aM.of j,q H' s⟩
theorem uC (bd:bU P w K mg Oa Od "steps" 4 ["self", "spot"] (uY Od)):jo P w K mg Oa 5 "leads_in" rH ["floor", "free"] (og Od):=by
 show rd ["floor", "free", "leads", "spot"] λnd _ _ _ _ _ H vs Q E hr h=>?_
 let⟨p,pr,vi,rd,td,e,g,F',rfl,hF,hg,he,hT,nr,nt,q⟩:=h
 show⟨_,(ak (bo 2 nd fJ) (bc (iE (dU (fU (ao 1)) (bp 3 nd) (a9 (eZ (aR.one hr) (ao 2) (ao 3) (il ["other", "price"] ["free"] [1] (bF (cP (ao 0) T.cl_Floor bd (hr.mono (by decide)) (aE (ao 3)))) (gZ (K:=K) (n:=2) Z Z (aB (eU 0) (aB (eU 1) bT)) Z Z) (uf (gw (f_ (by show(aR.one hr)) (ao 0) (ao 2)))) (aS (aC (ao 0) (ao 1)))) (by rfl))))) (aD (ao 2)))),?_⟩
 let a6:N9=2^24:=rfl
 let S:=hg.S
 let hm:=hg.m
 let few:=hT.few
 show cg λRh ca=>λd nd=>?_
 show ca _ _ ?_
 let s1:au H (Oc H d (.dT [])):=(au.refl H).upd nd
 let O:Oc H d (.dT []) d>.dT []:=af
 revert s1 O
 generalize Oc H d (.dT [])=H1
 intro s1 O
 let R:=s1 _ _ he
 let I:d≠e:=λz=>by rw[z,he] at nd;cases nd
 show⟨e,.dT (aZ g.R g.C F'),R,trivial,λo=>?_⟩
 show⟨_,Z,e,o,.dT (aZ g.R g.C F'),Z,af,trivial,?_⟩
 let N:=hF.same s1
 let ar:Bt [e] H1 (Oc H1 e (.frz o (.dT (aZ g.R g.C F')))):=(Bt.refl _ H1).set (Jg.mpr Z)
 let W:∀l∈[e],(∀xs,H1 l≠some (.tup xs))/\∀C dx fs,H1 l≠some (.ins C dx fs):=λl hl=>by
  rw[Jg.mp hl,R];show⟨(λ_ z=>by cases z),λ_ _ _ z=>by cases z⟩
 let ab:∀{b:N8} {zs:-V},H1 b>.lst zs->b∉[e]:=fun{b zs} h m=>by rw[Jg.mp m,R] at h;cases h
 let⟨a7,am,_⟩:=id N.pr
 let c:FA Od (Oc H1 e (.frz o (.dT (aZ g.R g.C F')))) p pr vi rd td g:=N.bt ar W (ab am) (ab N.vi) (λm=>nr (Jg.mp m).symm) (λm=>nt (Jg.mp m).symm)
 let B:Oc H1 e (.frz o (.dT (aZ g.R g.C F'))) e>.frz o (.dT (aZ g.R g.C F')):=af
 let f:Oc H1 e (.frz o (.dT (aZ g.R g.C F'))) d>.dT []:=aj I<|O
 let J:∀H',Bt [d] (Oc H1 e (.frz o (.dT (aZ g.R g.C F')))) H'->au H (Oc H' e (.dT (aZ g.R g.C F'))):=λH' bt b x eb=>by
  by_cases z:b=e
  ·subst z;rw[af,<-he,eb]
  ·rw[aj z]
   show bt b x (λm=>?_) (aj z<|s1 _ _ eb)
   rw[Jg.mp m,nd] at eb;cases eb
 revert c B f J
 generalize Oc H1 e (.frz o (.dT (aZ g.R g.C F')))=HF
 intro c B f J
 let⟨dx,z,h1,h2⟩:=c.ex
 show eV (λi σ H'=>∃(x3:Option V) (ls:-(Nat×V)),σ=[some (.ref p),some (.ref e),some (.ref d),x3]/\Bt [d] HF H'/\H' d>.dT (aZ g.R g.C ls)/\ls.map (·.1)=(F'.map (·.1)).take i/\∀y∈ls,∃l,y.2=.ref l/\C2 H' l (fx g F' (sN g.R g.C y.1)))
  ⟨none,[],Z,Bt.refl _ HF,f,by simp,λ_ h=>by cases h⟩ (λi σ H' _ hz=>by let⟨_,_,_,bt,_⟩:=hz;show bt e _ (λm=>I (Jg.mp m).symm) B) ?_ ?_
 ·rintro i x v σ H' ⟨k,b,hk,rfl,hb⟩ hi ⟨x3,ls,rfl,bt,hd,A,U⟩
  rw[show aZ g.R g.C F'=F'.map λp=>(iK (sN g.R g.C p.1),p.2) from Z,Jn] at hk
  let⟨y,hy,ey⟩:=JH.mp hk
  let ey:(iK (sN g.R g.C y.1),y.2)=(k,v):=ey
  cases ey
  let hb:H' b>.tup ((sN g.R g.C y.1).map V.int):=by
   have:=hb
   unfold iK at this
   rw[cC] at this
   show this
  let hn:=hT.lt y (Jl hy)
  let a1:=kj S (n:=y.1) (by have:=hg.M;lia)
  let kd:∀l∈[d],(∀xs,HF l≠some (.tup xs))/\∀C dx fs,HF l≠some (.ins C dx fs):=λl hl=>by
   rw[Jg.mp hl,f];show⟨(λ_ z=>by cases z),λ_ _ _ z=>by cases z⟩
  let ax:FA Od H' p pr vi rd td g:=by
   let⟨a5,q1,_⟩:=id c.pr
   let nn:∀{b:N8} {u:HO},HF b>u->(∀ce,u≠.dT ce)->b∉[d]:=fun{b u} h hu m=>by
    rw[Jg.mp m,f] at h;cases h;show hu _ Z
   show c.bt bt kd (nn q1 λ_ z=>by cases z) (nn c.vi λ_ z=>by cases z) (λm=>?_) (λm=>?_)
   ·have:=hF.rd
    rw[Jg.mp m,nd] at this;cases this
   ·have:=hF.td
    rw[Jg.mp m,nd] at this;cases this
  let a2:=bt p _ (λm=>(kd p m).2 _ _ _ h1) h1
  let r:=bt e _ (λm=>I (Jg.mp m).symm) B
  show gn (fb ?_)
  show⟨_,Z,p,dx,_,Z,a2,Iz,_,Z,p,pr,vi,rd,td,b,g,_,_,_,Z,ax,hg,hb,a1,λH2 l s2 nl hl=>?_⟩
  let⟨qs,e1,e2⟩:=hl
  replace e2:Nb (Co H2) qs (gW g (sN g.R g.C y.1)):=e2
  let lq:↑qs<=6:=by
   rw[Nb.length e2]
   unfold gW
   split
   ·simp
   ·rw[Jb]
    show Jt (LC _ _) (by unfold jD uO;simp)
  show⟨l,Z,⟨_,aM.of e1⟩,λD nD=>?_⟩
  let ad:=s2 _ _ r
  show bf (K:=K) (xs:=qs.map V.ref) (λi τ H3=>∃(x0 x1:Option V) (us:-N8),τ=[x0,x1,some (.ref e)]/\au H2 H3/\H3 D>.lst (us.map V.ref)/\Nb (Co H3) us (((gW g (sN g.R g.C y.1)).take i).filter λx=>dI g.R g.C F' x.1)/\↑us<=i) ⟨none,none,[],Z,(au.refl H2).upd nD,af,by simp;show .nil,Jd _⟩ (λi τ H3 _ hz=>by let⟨_,_,_,_,s,_⟩:=hz;show aM.of (s _ _ e1)) ?_ ?_
  ·rintro j x τ H3 hx ⟨x0,x1,us,rfl,s3,hD,F,a3⟩
   let⟨a,ha,rfl⟩:=bJ hx
   let⟨ct,Y,b',a0,aa⟩:=C5 e2 ha
   let hj:j<↑qs:=(Js.mp ha).1
   show⟨a,_,Z,bh.of (s3 _ _ a0),Z,?_⟩
   show⟨_,_,Z,gn ?_⟩
   show⟨_,_,Z,gn ?_⟩
   show⟨Z,?_⟩
   let ah:=dg (x:=ct.1) (.inr ⟨_,s3 _ _ ad⟩) (s3 _ _ aa)
   show(aI (lX ∅ ∅ ah)) _ ?_
   cases hf:(bg (aZ g.R g.C F') (iK ct.1)).isSome with
   |true=>
    show c9 ?_
    show pS (vs:=[.ref b',.int ct.2]) (ag ∅ (ag ∅ aw)) (by change 2<=N9;decide) λt nt=>?_
    let X:t≠D:=Jr (aq hD nt)
    show⟨us.map V.ref,aj (Jr X)<|hD,by rw[Jb];lia,_,_,us++[t],Z,bE (s3.upd nt) nD,by rw[af,Jf];rfl,?_,zq (by assumption)⟩
    rw[aN Y,LD,K5 (p:=λx:T3×Int=>dI g.R g.C F' x.1) (a:=ct) hf]
    show cG (eh F (fL hD nt)) (.cons ⟨b',by rw[aj X,af],fL hD nt _ _ (s3 _ _ aa)⟩ .nil)
   |false=>
    show cK ⟨_,_,us,Z,s3,hD,?_,()⟩
    rw[aN Y,LD,K6 (p:=λx:T3×Int=>dI g.R g.C F' x.1) (a:=ct) (by change¬dI g.R g.C F' ct.1=true;unfold dI;rw[hf];decide),List.filter_nil,Km]
    show F
  ·rintro τ H3 ⟨x0,x1,us,rfl,s3,hD,F,a3⟩
   rw[Jb,Nb.length e2,Jx] at F
   let L:=s2.trans s3
   let M:=L _ _ hd
   let ac:(F'.map (·.1))[i]?>y.1:=by rw[Jn,hy];rfl
   let ap:bg ls y.1=none:=by
    cases ev:bg ls y.1 with
    |none=>rfl
    |some v=>
     have:=eX.mp (show(bg ls y.1).isSome=true by rw[ev];rfl)
     rw[A] at this
     show absurd this (wb hT.nd ac)
   let a4:↑ls<=↑F':=by
    have:=congrArg List.length A
    rw[Jb,JT,Jb] at this
    lia
   show⟨_,Z,_,Z,d,_,Z,ip.t (k:=iK (sN g.R g.C y.1)) M (fS (L _ _ hb)) (by rw[eI];lia),?_⟩
   let an:∀b xs,H3 b>.tup xs->Oc H3 d (.dT (bW (aZ g.R g.C ls) (iK (sN g.R g.C y.1)) (.ref D))) b>.tup xs:=λb xs e=>by rw[aj (bu e M (λz=>by cases z))];show e
   let Z0:∀{l:N8} {xs:-(T3×Int)},C2 H3 l xs->C2 (Oc H3 d (.dT (bW (aZ g.R g.C ls) (iK (sN g.R g.C y.1)) (.ref D)))) l xs:=fun{l xs} ⟨qs,e1,e2⟩=>⟨qs,aj (bu e1 M (λz=>by cases z))<|e1,eh e2 an⟩
   show⟨_,ls++[(y.1,.ref D)],Z,(bt.same L).set (Jg.mpr Z),?_,?_,λz hz=>?_⟩
   ·rw[af,gQ S,jJ _ ap]
   ·rw[Jf,A,aN ac];rfl
   ·rcases Jz.mp hz with hz|hz
    ·let⟨l',e3,e4⟩:=U z hz
     show⟨l',e3,Z0 (e4.same L)⟩
    ·rw[Jg.mp hz]
     show⟨D,Z,Z0 ⟨us,hD,F⟩⟩
 ·rintro σ H' ⟨x3,ls,rfl,bt,hd,A,U⟩
  let r:=bt e _ (λm=>I (Jg.mp m).symm) B
  show⟨r,?_⟩
  show dy ∅ (q _ d (J H' bt) nd ⟨ls,aj I<|hd,?_,λy hy=>?_⟩)
  ·rw[A]
   change(F'.map (·.1)).take ↑(aZ g.R g.C F')=_
   rw[eI,LY (by simp)]
  ·let⟨l,e1,qs,e2,e3⟩:=U y hy
   show⟨l,e1,qs,aj (λz=>by rw[z,r] at e2;cases e2)<|e2,eh e3 λb ys eb=>by rw[aj (λz=>by rw[z,r] at eb;cases eb)];show eb⟩
theorem xD(F:zi K "arcs_in" "arcs_in" h7 f fd)(L:fd.code=.ref (fY K "arcs_in").1)(W:LA K (fY K "arcs_in").1 (fY K "arcs_in").2=true)(I:Oa.BuiltinsAt mg (fY K "arcs_in").2)(J:Nj≠(fY K "arcs_in").2)(k:aT P w K mg Oa "leads_in" 5 ["floor", "free"] (og Od)):fq P w K mg Oa kf 6 f fd ["floor", "free"] (pI K mg Od):=by
 let T:ei ["floor", "free", "leads"] ["floor", "free"] (aK h7):=⟨Z,Z,Z,by decide+kernel,Z,by decide+kernel,by decide+kernel⟩
 let nd:=T.nd
 show F.okG1 (i1:=2) (y1:= "leads") (a1:=1) L T (λvs H Q E h=>by first|(cases h;subst_vars;rfl)|repeat (first|(let⟨rfl,_⟩:=h;rfl)|(let⟨_,h⟩:=h))) Z (by decide+kernel) (λ_=>rfl) (by decide) (λA R s H vs Q E hr h=>?_)
 let⟨p,pr,vi,rd,td,e,g,F',rfl,hF,hg,O,hT,nr,nt,hP,q⟩:=h
 show⟨_,(Af (bo 2 T.nd (yO k (hr.mono (by decide)) (by rfl) (av (ao 0) (av (ao 1) cO))))
 (BE (CA Z (by rfl) Z W I J))),?_⟩
 show eK (ag ∅ (ag ∅ aw)) ⟨p,pr,vi,rd,td,e,g,F',Z,hF,hg,O,hT,nr,nt,λH1 d s1 nd Y=>?_⟩
 let i:∀{b x},H1 b>x->(∀ps,x≠.tbl ps)->mx K H1->b≠(fY K "arcs_in").2:=λm D z w=>by
  rcases z with z|⟨_,_,z,_⟩<;>(rw[w,z] at m;cases m;show D _ Z)
 let c:=mx.same hP s1
 rcases id c with o|⟨r,C,o,n,j⟩
 ·show⟨#[],o,trivial,.inl ⟨Z,λf' r C l u X nc ne j keep tb n a=>?_⟩⟩
  show⟨.ref d,Z,λv S y M U N=>?_⟩
  let kp:∀b x,u b>x->Oc u (~~~s+1) (iq (~~~s+1) v) b>x:=λb x hb=>by rw[aj (aq hb y)];show hb
  cases(show S=N7.ref d from N)
  show q _ f' (λb x Z0 m=>kp _ _ (keep b x (s1 _ _ m) Z0)) (.inr ⟨r,C,kp _ _ tb,kp _ _ n,j⟩) ⟨~~~s+1,r,l,C,v,d,(λz=>by rw[z,O] at nd;cases nd),kp _ _ a,kp _ _ n,j,af,U,Y.keep λb x m D=>kp _ _ (keep b x m (i m D c))⟩
 ·show⟨_,o,trivial,.inr ⟨r,by change codeAmong t8 _=_;simp[codeAmong,NJ],λf' l X=>?_⟩⟩
  show⟨.ref d,Z,λv S y M U N=>?_⟩
  cases(show S=N7.ref d from N)
  revert y M
  generalize B:Oc H1 f' _=u
  intro y M
  let kp:∀b x,H1 b>x->Oc u (~~~s+1) (iq (~~~s+1) v) b>x:=λb x hb=>by
   have:u b>x:=by rw[<-B,aj (aq hb X)];show hb
   rw[aj (aq this y)];show this
  let a:Oc u (~~~s+1) (iq (~~~s+1) v) f'>iq f' (Kk "<lambda>" mP kN jC ji [("leads",~~~s+1)] ((mg "__name__").getD .none) r l):=by
   have:u f'>iq f' (Kk "<lambda>" mP kN jC ji [("leads",~~~s+1)] ((mg "__name__").getD .none) r l):=by rw[<-B];show af
   rw[aj (aq this y)];show this
  show q _ f' (λb x Z0 m=>kp _ _ (s1 _ _ m)) (.inr ⟨r,C,kp _ _ o,kp _ _ n,j⟩) ⟨~~~s+1,r,l,C,v,d,(λz=>by rw[z,O] at nd;cases nd),a,kp _ _ n,j,af,U,Y.keep λb x m D=>kp _ _ m⟩
theorem Cn:jo P w K mg Oa 1 "is_name" C6 ["name"] AH:=by
 show rd ["name"] λnd _ _ _ _ _ H vs Q E hr h=>?_
 let⟨x,rfl,nm,q⟩:=h
 show⟨_,(bc (bH (fT (dw (fK eN eN ai (bz aO T.len_ (aE (ao 0))) (dN (by rfl) (by show T.g_MOST_SIGNS)))) (fy (e7 qA (aP EU (ao 0) ai) (dN (by rfl) (by show T.g_LETTERS)) (by with_unfolding_all rfl)))).pt (aD cI)) (aD (bz (j_ Z) T.all_ (aE (il ["sign"] [] [] (Ew (ao 0)) (eU 0) dF (Gw (lE ou (ao 0) (dN (by rfl) (by show T.g_LETTERS)) (by with_unfolding_all rfl)) (gR (lE ou (ao 0) (dN (by rfl) (by show T.g_FIGURES)) (by with_unfolding_all rfl))))))))),?_⟩
 let g:N9=2^24:=rfl
 let l:=nm.lo
 let k:=nm.hi
 let⟨c,r,f,a⟩:=nm.fst
 show jv (D9 (gq (fg (aI (dM az (Cd ∅ ()) az)) ?_)) (aI (xm (ED (c:=c) ∅ az () (f<|bC (j:=0) Z)) az))) ?_ ?_
 ·rw[N3 (),N3 ()];rfl
 ·have:c∈cp (Nh.ofString "abcdefghijklmnopqrstuvwxyz"):=a
  rw[N3 this];rfl
 show⟨_,Z,x,Z,nm.as,λD u=>?_⟩
 show Ep (λi o H'=>∃m:Option V,o=[m]/\H'=Oc H D (.lst ((List.replicate i true).map V.bl))) ⟨none,Z,Z⟩ ?_ ?_
 ·rintro i d o H2 p ⟨m,rfl,rfl⟩
  let hi:i<↑x:=by have:=(Js.mp p).1;rw[ES] at this;show this
  show gn (eT ?_)
  show(cA (F1 (zl (c:=d) ∅ az) λ_=>zl (c:=d) ∅ az) (c:=.bl true) ?_) _ ⟨_,af,by simp;lia,_,Z,?_⟩
  ·rcases nm.all d (Jl p) with z|z
   ·let n:d∈cp (Nh.ofString "abcdefghijklmnopqrstuvwxyz"):=z
    rw[N3 n];rfl
   ·let n:d∈cp (Nh.ofString "0123456789"):=z
    rw[N3 n,Bool.or_true]
  ·rw[Bx,List.replicate_succ',Jf];rfl
 ·rintro o H2 ⟨m,rfl,rfl⟩
  show⟨D,List.replicate ↑x true,Z,aM.of af,?_⟩
  let e:(List.replicate ↑x true).all id=true:=by rw[JV];intro b hb;rw[List.eq_of_mem_replicate hb];rfl
  rw[e]
  show q _ ((au.refl H).upd u)
theorem wL (f:K.In Oa):jo P w K mg Oa 1 "check_unlike" vI ["spots"] mQ:=by
 show rd ["spots"] λnd _ _ _ _ _ H vs Q E hr h=>?_
 let⟨l,as,cs,rfl,c,ht,a,b,q⟩:=h
 show⟨_,(a9 (bH (bS f9 (bz ua T.len_ (aE (iw (xj Z hr) T.set_ (aE (ao 0))))) (bz aO T.len_ (aE (ao 0)))) dz)),?_⟩
 show Du ⟨_,Z,l,as,cs,Z,aM.of c,ht,a,b,λp d=>⟨p,↑cs,Z,af,(),_,Z,_,_,Z,.inl ⟨_,aM.of (aj (aq c d)<|c),Z⟩,Z,_,Z,?_⟩⟩
 let e:(!decide (V.int (↑cs:Nat)=V.int (↑(as.map V.ref):Nat)))=false:=by
  rw[Jb,show ↑as=↑cs from Nb.length ht];simp
 rw[e]
 show cK (q _ ((au.refl H).upd d))
theorem x_ (n:bU P w K mg Oa Od "is_step" 3 ["self", "one", "two"] (m_ Od)):jo P w K mg Oa 4 "near_by" vJ ["floor", "wiring"] (rC Od):=by
 show rd ["floor", "wiring", "near", "one", "two"] λnd _ _ _ _ _ H vs Q E hr h=>?_
 let⟨p,pr,vi,rd,td,l,g,as,W,rfl,hF,hg,Z0,L,h3,hW,qn,qy⟩:=h
 show⟨_,(ak (bo 2 nd fJ) (bc (dU (bF (ao 1)) (eJ Z (aB (bp 3 nd) (aB (bp 4 nd) bT))) (ak (bH (fT (dw (dq (cP (ao 0) T.cl_Floor n (hr.mono (by decide)) (aC (ao 3) (ao 4))))) (fy (e7 (zt hr) (ao 4) (bR JL JZ J7 (dk hr) (ao 2) (aC (ao 3) (bB cO))) (by with_unfolding_all rfl)))).pt (aD qF)) (bc (aV (bR JR J1 J2 bL (bR JL Lx L5 (iN hr) (ao 2) (aC (ao 3) (bB cO))) (aE (ao 4)))) (aV (bR JR J1 J2 bL (bR JL Lx L5 (iN hr) (ao 2) (aC (ao 4) (bB cO))) (aE (ao 3))))))) (aD (ao 2)))),?_⟩
 let j:N9=2^24:=rfl
 show cQ λd F=>?_
 show⟨_,Z,l,Z,⟨_,aM.of (((au.refl H).upd F) _ _ Z0)⟩,?_⟩
 show bf (K:=K) (xs:=as.map V.ref) (λi σ H'=>∃(N S:Option V) (ls:-(T3×N8)),σ=[some (.ref p),some (.ref l),some (.ref d),N,S]/\kD (yi g) (W.take i)/\q_ H H' d ls (Wr.adj (W.take i))/\↑ls<=2*i)
  ⟨none,none,[],Z,(λi e z=>by cases z),q_.nil F,Jd _⟩ (λi σ H' _ hz=>by let⟨_,_,_,_,_,z,_⟩:=hz;show aM.of (z.sm _ _ Z0)) ?_ ?_
 ·rintro i v σ H' hv ⟨N,S,ls,rfl,I,m,hL⟩
  let⟨a,ha,rfl⟩:=bJ hv
  let k:i<↑as:=(Js.mp ha).1
  let len:↑as=↑W:=↑L
  let⟨e,x,y,D,g1,J,M⟩:=(L.same m.sm).at ha
  let⟨dx,z,h1,h2⟩:=(hF.same m.sm).ex
  show⟨a,_,Z,bh.of g1,Z,_,_,Z,_,_,Z,Z,?_⟩
  let⟨e1,e2⟩:=e
  let⟨o,r,u,rfl⟩:=dS (h3 _ (Jl D)).1
  let⟨A,C,q,rfl⟩:=dS (h3 _ (Jl D)).2
  show bO ?_
  show⟨_,Z,p,dx,_,Z,h1,by kernel_rfl,_,Z,_,Z,p,pr,vi,rd,td,x,y,g,_,_,_,_,_,_,Z,hF.same m.sm,hg,J,M,?_⟩
  show⟨_,Z,?_⟩
  let len:↑as=↑W:=↑L
  let b:=wg (W.take i)
  let lt:=L6 i W
  cases es:(xr [o,r,u] [A,C,q]&&(jk g [o,r,u]&&jk g [A,C,q])) with
  |false=>show c9 (c9 (qn _ m.sm (kD.bad D (.inl es))))
  |true=>
   show cK ?_
   show⟨.ref y,Z,?_⟩
   show iI 2 3 m.s Z Z J λH2 l2 B X=>?_
   let⟨f,a1,a2⟩:=X
   show⟨y,l2,f,_,_,Z,Z,B _ _ M,aM.of a1,a2,_,Z,?_⟩
   by_cases c:([A,C,q]:T3)∈Wr.adj (W.take i) [o,r,u]
   ·show jd (λ_=>qn _ (m.sm.trans B) (kD.bad D (.inr c))) (λz=>absurd (N3 c) z)
   ·show jd (λz=>absurd (N4 z) c) (λ_=>?_)
    show iX ?_
    show iW 2 (m.same B) Z Z Z (B _ _ J) (B _ _ M) () (by have:=b [o,r,u];change(Wr.adj (W.take i) [o,r,u]).length<=900;lia) λH3 ah U Y l3=>?_
    show dR ?_
    let ne:([o,r,u]:T3)≠[A,C,q]:=λz=>by rw[z,lM] at es;cases es
    show iW 2 U Z Z Z (Y _ _ (B _ _ M)) (Y _ _ (B _ _ J)) () (by change List.length (if ([A,C,q]:T3)=[o,r,u] then _ else _)<=900;rw[N0 ne.symm];have:=b [A,C,q];change(Wr.adj (W.take i) [A,C,q]).length<=900;lia) λH4 O R k4 l4=>?_
    show⟨_,_,O,Z,I.go D es c,R.cong (wm D ne),()⟩
 ·rintro σ H' ⟨N,S,ls,rfl,I,m,hL⟩
  rw[Jb,↑L] at I m
  rw[Jx] at I m
  show st (dy ∅ (qy _ d ls I m))
theorem xU:jo P w K mg Oa 1 "walked" wD ["near", "start"] rZ:=by
 show rd ["near", "start", "way", "here", "one", "two", "onward"] λnd _ _ _ _ _ H vs Q E hr h=>?_
 let⟨d,b,W,s,rfl,hN,S,hW,hb,F,q⟩:=h
 show⟨_,(ak (bo 2 nd (bB (aE (ao 1)))) (ak (bo 3 nd (aP aF (dE (aR.one hr) (ao 0) (ao 1) (λ_ _=>rfl)) ai)) (ak (rn NO.never (bS cT (bz aO T.len_ (aE (dE (aR.one hr) (ao 0) (ao 3) (λ_ _=>rfl)))) ai) (ak (e_ (dE (aR.one hr) (ao 0) (ao 3) (λ_ _=>rfl)) (Bw Z (aB (bp 4 nd) (aB (bp 5 nd) bT)))) (ak (bo 6 nd (jW (bS (uP hr) (ao 4) (aP aF (ao 2) (mn jz ai))) (ao 5) (ao 4))) (bc (aV (bR JR J1 J2 bL (ao 2) (aE (ao 3)))) (bo 3 nd (ao 6)))))) (bc (aV (bR JR J1 J2 bL (ao 2) (aE (ao 3)))) (aD (ao 2)))))),?_⟩
 let A:N9=2^24:=rfl
 let O1:=Wr.OkTo.one F
 let f1:=Wr.few S O1 (Jd _)
 show cQ (gm [.ref b] (ag ∅ aw) (by change 1<=1000;decide) λl H1 s1 U hl=>?_)
 let⟨y,ey⟩:=tG F
 let⟨la,ga,as,ha,ta⟩:=(hN.same λb o e _=>s1 b o e).at (b:=b) (λz=>by rw[z] at F;cases F) (s1 _ _ hb)
 rw[ey] at ta
 let⟨c,rfl,hc⟩:=rf ta
 let t1:Wr.tr W s 1=y:=by change(Wr.adj W s).headD s=y;rw[ey];rfl
 show bV (c8 (v:=.ref c) (eF ∅ ∅ ga) az (aM.of ha) Z) ?_
 show rN (λm σ H'=>∃(k:Nat) (B:-N8) (c:N8) (x4 x5 J:Option V),σ=[some (.ref d),some (.ref b),some (.ref l),some (.ref c),x4,x5,J]/\m+k=2*↑W/\1<=k/\Wr.OkTo W s k/\au H H'/\H' l>.lst (B.map V.ref)/\bG H' B ((List.range k).map (Wr.tr W s))/\H' c>.tup ((Wr.tr W s k).map V.int))
  ⟨2*↑W - 1,1,[b],c,none,none,none,Z,(),Jd _,O1,s1,hl,.cons (s1 _ _ hb) .nil,t1<|hc⟩ ?_
 rintro m σ H2 ⟨k,B,c,x4,x5,J,rfl,hm,h1,O,Y,f,D,n⟩
 let fk:=Wr.few S O h1
 obtain⟨j,rfl⟩:∃j,k=j+1:=⟨k - 1,()⟩
 let pj:=Wr.adj_symm S (Wr.tr_adj O (i:=j) (J9 _))
 let⟨lk,gk,as,ha,ta⟩:=(hN.same λb o e _=>Y b o e).at (b:=c) (λz=>by rw[z] at pj;cases pj) n
 let len:↑as=↑(Wr.adj W (Wr.tr W s (j+1))):=Nb.length ta
 show⟨_,aI (dY (dH (v:=.int (↑(as.map V.ref):Nat)) (ag (eF ∅ ∅ gk) aw) λQ' I=>⟨_,_,Z,.inl ⟨_,aM.of ha,Z⟩,I⟩) az),λe N Z0=>?_,λe=>?_⟩
 ·let e2:↑(Wr.adj W (Wr.tr W s (j+1)))=2:=by have:=N4 e;rw[Jb] at this;lia
  let⟨u,v,eu⟩:=Wr.two_of e2
  rw[eu] at ta
  let⟨M,X,rfl,r,x⟩:=qO ta
  show CZ (eF ∅ ∅ gk) ⟨lk,_,_,Z,aM.of ha,_,_,Z,_,_,Z,Z,?_⟩
  let R:↑B=j+1:=by rw[Nb.length D,Jb,Ks]
  obtain⟨C,wl,rfl⟩:∃C wl,B=C++[wl]:=⟨B.dropLast,B.getLast (λz=>by rw[z] at R;cases R),(Ma _).symm⟩
  let l0:↑C=j:=by simpa using R
  let⟨cl,L,p⟩:=br D (i:=j) (a:=wl) (by rw[Le (),l0,Nat.sub_self];rfl)
  let L:cl=Wr.tr W s j:=by
   rw[Jn,LX (J9 j)] at L
   show(Option.some.inj L).symm
  rw[L] at p
  let ew:Ev (gb (nu K) (cR 2) (Fn (rU λi=> .int (-(i:_))) (tC (.int 1)))) [some (.ref d),some (.ref b),some (.ref l),some (.ref c),some (.ref M),some (.ref X),J] H2 (.ref wl):=c8 ∅ (tL (i:=1) az) (aM.of f) (Jf<|qP _ _)
  let et:=aI (yZ (K:=K) (ta:=cR 4) ∅ ew r p)
  obtain⟨ov,eo,ho⟩:∃ov,Ev (GA (k9 (gb (B6 K) (cR 4) (gb (nu K) (cR 2) (Fn (rU λi=> .int (-(i:_))) (tC (.int 1)))))) (cR 5) (cR 4)) [some (.ref d),some (.ref b),some (.ref l),some (.ref c),some (.ref M),some (.ref X),J] H2 (.ref ov)/\H2 ov>.tup ((Wr.tr W s (j+2)).map V.int):=by
   let tj:Wr.tr W s (j+2)=if u=Wr.tr W s j then v else u:=by
    change Wr.onw W (Wr.tr W s j) (Wr.tr W s (j+1))=_
    unfold Wr.onw
    rw[eu]
   rw[tj]
   by_cases z:u=Wr.tr W s j
   ·rw[N1 z]
    show⟨X,λQ' I=>Cj (fg et (N3 z)) (∅ _ I),x⟩
   ·rw[N0 z]
    show⟨M,λQ' I=>Be (fg et (N5 z)) (∅ _ I),r⟩
  show bV eo ?_
  show⟨_,Z,.inl ⟨Z,_,aM.of f⟩,_,Z,l,_,_,Z,Z,f,aL (by rw[Jb];lia),?_⟩
  show tQ ∅ ?_
  let g:∀b xs,H2 b>.tup xs->Oc H2 l (.lst ((C++[wl]).map V.ref++[.ref c])) b>.tup xs:=λb xs e=>bj f _ _ e
  show Z0 (m - 1) _ _ () ⟨j+2,C++[wl]++[c],ov,_,_,_,Z,(),(),O.succ e2,bE Y U,by rw[af,Jf (l₁:=C++[wl])];rfl,?_,g _ _ ho⟩
  let er:(List.range (j+2)).map (Wr.tr W s)=(List.range (j+1)).map (Wr.tr W s)++[Wr.tr W s (j+1)]:=by rw[List.range_succ,Jf];rfl
  rw[er]
  show cG (ay D g) (.cons (g _ _ n) .nil)
 ·show⟨_,Z,.inl ⟨Z,_,aM.of f⟩,_,Z,l,_,_,Z,Z,f,aL (by rw[Jb,Nb.length D,Jb,Ks];lia),?_⟩
  let g:∀b xs,H2 b>.tup xs->Oc H2 l (.lst (B.map V.ref++[.ref c])) b>.tup xs:=λb xs e=>bj f _ _ e
  let ek:Wr.wl W s=j+1:=(Wr.wl_ok S F).same ⟨h1,O,λz=>by have:=N6 e;rw[Jb,len,z] at this;show this Z⟩
  show dy ∅ (q _ l (bE Y U) U ⟨B++[c],by rw[af,Jf];rfl,?_⟩)
  rw[ek,List.range_succ,Jf]
  show cG (ay D g) (.cons (g _ _ n) .nil)
theorem y_(F:zi K "__init__" "Thing.__init__" kG f fd)(n:K.In Oa)(eM:aT P w K mg Oa "is_name" 1 ["name"] AH):fq P w K mg Oa kf 2 f fd ["self", "name", "half", "room"] (wI Oh cBundle):=by
 let i:ei ["self", "name", "half", "room"] ["self", "name", "half", "room"] (aK kG):=⟨Z,Z,Z,by decide+kernel,Z,by decide+kernel,by decide+kernel⟩
 let nd:=i.nd
 show F.ok i (λvs H Q E h=>by first|(cases h;subst_vars;rfl)|repeat (first|(let⟨rfl,_⟩:=h;rfl)|(let⟨_,h⟩:=h))) (λk A g s H vs Q E hr h=>?_)
 let⟨p,dx,c,x,h,r,rfl,a,hp,nm,j,h2,m,l,q⟩:=h
 show⟨_,(ak (bH (dw (dq (bq eM hr (aE (ao 1))))) dz) (ak (bH (dw (fK eN eN ai (ao 2) (dN (by rfl) (by show T.g_MOST_HALF)))) dz) (ak (bH (dw (fK eN eN ai (ao 3) (dN (by rfl) (by show T.g_MOST_ROOM)))) dz) (ak (eL (ao 0) (ao 1) Z) (bc (eL (ao 0) (ao 2) Z) (eL (ao 0) (ao 3) Z)))))),?_⟩
 show bO ⟨_,Z,x,Z,nm,λH1 s1=>⟨_,Z,?_⟩⟩
 show cK ?_
 show jv (gq (fg (aI (dM az ∅ az)) (by rw[N3 j,N3 h2];rfl))) Z ?_
 show jv (gq (fg (aI (dM az ∅ az)) (by rw[N3 m,N3 l];rfl))) Z ?_
 let d:nQ K c/\bY K c "name" /\bY K c "half" /\bY K c "room" :=by
  rcases a with z|z
  ·rw[z];show⟨T.cl_Net,T.na_Net_name,T.na_Net_half,T.na_Net_room⟩
  ·rw[z];show⟨T.cl_Bundle,T.na_Bundle_name,T.na_Bundle_half,T.na_Bundle_room⟩
 show⟨_,Z,_,Z,p,c,dx,[],Z,s1 _ _ hp,d.1,d.2.1,(by decide),?_⟩
 show⟨_,Z,_,Z,p,c,dx,_,Z,af,d.1,d.2.2.1,Lr (cY _ _ _) (by decide),?_⟩
 show⟨_,Z,_,Z,p,c,dx,_,Z,af,d.1,d.2.2.2,Lr (Jt (cY _ _ _) (KS (cY _ _ _))) (by decide),?_⟩
 show q _ _ (λb o hb e=>?_) af (Jt (cY _ _ _) (KS (Jt (cY _ _ _) (KS (cY _ _ _))))) ?_
 ·rw[aj hb,aj hb,aj hb];show s1 _ _ e
 ·constructor<;>(rw[cu,N0 (by decide+kernel),cu,N0 (by decide+kernel),cu,N0 (by decide+kernel)];rfl)
theorem AS(F:xO K "__init__" "Net.__init__" gP f fd)(W:K.In Oa)(n:aT P w K mg Oa "check_unlike" 1 ["spots"] mQ)(u:iR P w K mg Oa cThing "__init__" 2 ["self", "name", "half", "room"] (wI Oh cBundle)):fq P w K mg Oa kf 3 f fd ["self", "name", "pins", "half", "room"] (pK Oh):=by
 let L:ei ["self", "name", "pins", "half", "room"] ["self", "name", "pins", "half", "room"] (aK gP):=⟨Z,Z,Z,by decide+kernel,Z,by decide+kernel,by decide+kernel⟩
 let nd:=L.nd
 show F.ok L (λvs H Q E h=>by first|(cases h;subst_vars;rfl)|repeat (first|(let⟨rfl,_⟩:=h;rfl)|(let⟨_,h⟩:=h))) (λR A B s H vs Q E hr h=>?_)
 let⟨p,dx,l,as,cs,x,h,r,rfl,hp,J,ht,j,l2,U,nm,O,h2,N,M,q⟩:=h
 show⟨_,(ak (aV (vD (iD (by rfl) T.mg_Thing) u (hr.mono (by decide)) (av (ao 0) (av (ao 1) (aC (ao 3) (ao 4)))))) (ak (bH (dw (fK eN eN ai (bz aO T.len_ (aE (ao 2))) (dN (by rfl) (by show T.g_MOST_PINS)))) dz) (bc (aV (bq n hr (aE (ao 2)))) (eL (ao 0) (iw gz T.tuple_ (aE (ao 2))) Z)))),?_⟩
 let m:l≠p:=bu J hp (λz=>by cases z)
 let len:↑as=↑cs:=Nb.length ht
 show⟨_,Z,_,Z,_,Z,_,Z,p,dx,Oh,x,h,r,Z,.inl Z,hp,nm,O,h2,N,M,λH1 fs C D few _=>?_⟩
 let g:=C _ _ m J
 let i:bG H1 as cs:=Nb.mapP ht λa c e=>C _ _ (bu e hp (λz=>by cases z)) e
 show st ?_
 show jv (gq (fg (aI (dM az (dH (ag ∅ aw) λQ' S=>⟨_,_,Z,.inl ⟨_,aM.of g,Z⟩,S⟩) az)) ?_)) Z ?_
 ·rw[Jb,N3 (),N3 ()];rfl
 show⟨_,Z,l,as,cs,Z,g,i,(),j,λH2 y=>?_⟩
 show⟨_,Z,l,_,Z,.inl ⟨aM.of (y _ _ g),λt v=>?_⟩⟩
 let d:=y _ _ D
 show⟨_,Z,p,Oh,dx,fs,Z,aj (aq d v)<|d,T.cl_Net,T.na_Net_pins,(),?_⟩
 let k:t≠p:=λz=>by rw[z,d] at v;cases v
 show q _ _ t (λb o hb e=>?_) af (by rw[cu,N1 Z]) (by rw[aj k,af])
 let I:=y _ _ (C _ _ hb e)
 rw[aj hb,aj (aq I v)];show I
theorem AV(F:xO K "__init__" "Bundle.__init__" fO f fd)(hB:K.In Oa)(O:aT P w K mg Oa "check_unlike" 1 ["spots"] mQ)(S:iR P w K mg Oa cThing "__init__" 2 ["self", "name", "half", "room"] (wI Oh cBundle)):fq P w K mg Oa kf 3 f fd ["self", "name", "starts", "goals", "room"] (lP cBundle):=by
 let sc:ei ["self", "name", "starts", "goals", "room"] ["self", "name", "starts", "goals", "room"] (aK fO):=⟨Z,Z,Z,by decide+kernel,Z,by decide+kernel,by decide+kernel⟩
 let nd:=sc.nd
 show F.ok sc (λvs H Q E h=>by first|(cases h;subst_vars;rfl)|repeat (first|(let⟨rfl,_⟩:=h;rfl)|(let⟨_,h⟩:=h))) (λa2 A aa s H vs Q E hr h=>?_)
 let⟨p,dx,l,m,as,bs,cs,ds,x,r,rfl,hp,hl,hm,ht,Z0,C,l1,l6,lg,N,nm,r0,r3,q⟩:=h
 show⟨_,(ak (aV (vD (iD (by rfl) T.mg_Thing) S (hr.mono (by decide)) (av (ao 0) (av (ao 1) (aC ai (ao 4)))))) (ak (bH (dw (fK eN eN ai (bz aO T.len_ (aE (ao 2))) (dN (by rfl) (by show T.g_MOST_STARTS)))) dz) (ak (bH (dw (fK eN eN (bz aO T.len_ (aE (ao 2))) (bz aO T.len_ (aE (ao 3))) (dN (by rfl) (by show T.g_MOST_GOALS)))) dz) (ak (aV (bq O hr (aE (aA mf (ao 2) (ao 3))))) (bc (eL (ao 0) (iw gz T.tuple_ (aE (ao 2))) Z) (eL (ao 0) (iw gz T.tuple_ (aE (ao 3))) Z)))))),?_⟩
 let M:N9=2^24:=rfl
 let B:l≠p:=bu hl hp (λz=>by cases z)
 let n:m≠p:=bu hm hp (λz=>by cases z)
 let len:↑as=↑cs:=Nb.length ht
 let L:↑bs=↑ds:=Nb.length Z0
 show⟨_,Z,_,Z,_,Z,p,dx,cBundle,x,0,r,Z,.inr Z,hp,nm,by decide,by decide,r0,r3,λH1 fs W ab few lk=>?_⟩
 let j:=W _ _ B hl
 let i:=W _ _ n hm
 let y:bG H1 as cs:=Nb.mapP ht λa c e=>W _ _ (bu e hp (λz=>by cases z)) e
 let v:bG H1 bs ds:=Nb.mapP Z0 λa c e=>W _ _ (bu e hp (λz=>by cases z)) e
 show st ?_
 show jv (gq (fg (aI (dM az (dH (ag ∅ aw) λQ' X=>⟨_,_,Z,.inl ⟨_,aM.of j,Z⟩,X⟩) az)) ?_)) Z ?_
 ·rw[Jb,N3 (),N3 ()];rfl
 show jv (gq (fg (aI (dM (dH (ag ∅ aw) λQ' X=>⟨_,_,Z,.inl ⟨_,aM.of j,Z⟩,X⟩) (dH (ag ∅ aw) λQ' X=>⟨_,_,Z,.inl ⟨_,aM.of i,Z⟩,X⟩) az)) ?_)) Z ?_
 ·rw[Jb,Jb,N3 (),N3 ()];rfl
 show⟨_,Z,_,Z,l,m,_,_,Z,Z,j,i,by rw[Jb,Jb];lia,λc nc=>?_⟩
 let s2:au H1 (Oc H1 c (.lst (as.map V.ref++bs.map V.ref))):=(au.refl H1).upd nc
 show⟨c,as++bs,cs++ds,Z,by rw[af,Jf],ay (cG y v) (λ_ _ z=>s2 _ _ z),by rw[Jo];lia,C,λH2 s3=>?_⟩
 let d:=s2.trans s3
 show⟨_,Z,l,_,Z,.inl ⟨aM.of (d _ _ j),λt U=>?_⟩⟩
 let k:=d _ _ ab
 show⟨_,Z,p,cBundle,dx,fs,Z,aj (aq k U)<|k,T.cl_Bundle,T.na_Bundle_starts,(),?_⟩
 let I:Oc (Oc H2 t (.tup (as.map V.ref))) p (.ins cBundle dx (eQ "starts" (.ref t) fs)) m>.lst (bs.map V.ref):=by
  rw[aj n,aj (aq (d _ _ i) U)];show d _ _ i
 let J:=cY "starts" (.ref t) fs
 show⟨_,Z,m,_,Z,.inl ⟨aM.of I,λY R=>?_⟩⟩
 let u:Y≠p:=λz=>by rw[z,af] at R;cases R
 show⟨_,Z,p,cBundle,dx,_,Z,by rw[aj (Jr u),af],T.cl_Bundle,T.na_Bundle_goals,(),?_⟩
 let g:t≠p:=λz=>by rw[z,k] at U;cases U
 let D:Y≠t:=λz=>by rw[z,aj g,af] at R;cases R
 let kp:fM H (Oc (Oc (Oc (Oc H2 t (.tup (as.map V.ref))) p (.ins cBundle dx (eQ "starts" (.ref t) fs))) Y (.tup (bs.map V.ref))) p (.ins cBundle dx (eQ "goals" (.ref Y) (eQ "starts" (.ref t) fs)))) p:=λb o hb e=>by
  let e2:=d _ _ (W _ _ hb e)
  let e3:Oc (Oc H2 t (.tup (as.map V.ref))) p (.ins cBundle dx (eQ "starts" (.ref t) fs)) b>o:=aj hb<|aj (aq e2 U)<|e2
  rw[aj hb,aj (aq e3 R)];show e3
 show q _ kp ⟨dx,t,Y,_,af,by rw[cu,N0 (by decide+kernel),cu,N1 Z],by rw[cu,N1 Z],?_,⟨as,by rw[aj g,aj (Jr D),aj g,af],Nb.mapP ht λa c e=>kp _ _ (bu e hp (λz=>by cases z)) e⟩,⟨bs,by rw[aj u,af],Nb.mapP Z0 λa c e=>kp _ _ (bu e hp (λz=>by cases z)) e⟩⟩
 constructor<;>(rw[cu,N0 (by decide+kernel),cu,N0 (by decide+kernel)])
 ·show lk.1
 ·show lk.2
theorem wU (an:aT P w K mg Oa "walked" 1 ["near", "start"] rZ):mK P w K mg Oa 2 "shaped" "Bundle.shaped" uZ ["self", "near", "many"] (qV cBundle):=by
 show rd ["self", "near", "many", "ways"] λnd _ _ _ _ _ H vs Q E hr h=>?_
 let⟨u,d,W,ls,A,B,rfl,hU,hN,S,hW,la,lb,q⟩:=h
 show⟨_,(ak (bH (dq (bz (gA Z) T.any_ (aE (uL (il ["spot"] ["near"] [1] (fU (ao 1)) (eU 0) dF (je jg (bz (iO (K:=K) Z) (by show T.len_) (aE (dE (by show(aR.one hr)) (ao 1) (ao 0) (λ_ _=>rfl)))) ai)))))) (aD cI)) (ak (bH (dq (bz (gA Z) T.any_ (aE (il ["start"] ["near"] [1] (kT (bI (ao 0) Z)) (eU 0) dF (je f9 (bz (iO (K:=K) Z) (by show T.len_) (aE (yU (K:=K) Z JL JZ J7 (by show dk hr) (ao 1) (aC (ao 0) (bB cO))))) ai))))) (aD cI)) (ak (bH (dq (bz (gA Z) T.any_ (aE (il ["goal"] ["near"] [1] (kT (bI (ao 0) Z)) (eU 0) dF (je jg (bz (iO (K:=K) Z) (by show T.len_) (aE (yU (K:=K) Z JL JZ J7 (by show dk hr) (ao 1) (aC (ao 0) (bB cO))))) ai))))) (aD cI)) (ak (Bf 3 ["start"] ["near"] [1] nd (kT (bI (ao 0) Z)) (eU 0) dF (bq (by show an) (by show hr) (aC (ao 1) (ao 0)))) (bc (bH (dq (bz (gA Z) T.any_ (aE (il ["way"] ["self"] [0] (bF (ao 3)) (eU 0) dF (lE (gp (K:=K) Z (by show hr)) (aP (zm (K:=K) Z) (ao 0) (mn jz ai)) (wF (K:=K) Z (ao 1) Z) (by with_unfolding_all rfl)))))) (aD cI)) (aD (je cT (bz (iQ Z) T.sum_ (aE (il ["way"] [] [] (bF (ao 3)) (eU 0) dF (aA cV (bz (iO (K:=K) Z) (by show T.len_) (aE (ao 0))) ai)))) (ao 2)))))))),?_⟩
 let U:N9=2^24:=rfl
 show bO ?_
 show⟨d,.dT (aJ (ls.map λp=>(p.1,V.ref p.2))),hN.dt,trivial,λo=>?_⟩
 let sF:Sb d H (Oc H d (.frz o (.dT (aJ (ls.map λp=>(p.1,V.ref p.2)))))):=λb x nb eb=>by rw[aj nb];show eb
 let ef:Oc H d (.frz o (.dT (aJ (ls.map λp=>(p.1,V.ref p.2))))) d>.frz o (.dT (aJ (ls.map λp=>(p.1,V.ref p.2)))):=af
 let j:∀{H2},au (Oc H d (.frz o (.dT (aJ (ls.map λp=>(p.1,V.ref p.2)))))) H2->au H (Oc H2 d (.dT (aJ (ls.map λp=>(p.1,V.ref p.2))))):=λs=>thaw hN.dt s
 let C:∀p∈ls,fH (Oc H d (.frz o (.dT (aJ (ls.map λp=>(p.1,V.ref p.2)))))) p.2 (Wr.adj W p.1):=λp hp=>(hN.li p hp).sb hN.dt sF
 revert ef j C
 generalize Oc H d (.frz o (.dT (aJ (ls.map λp=>(p.1,V.ref p.2)))))=HF
 intro ef j C
 show⟨_,Z,d,o,_,Z,ef,trivial,λD nD=>?_⟩
 let R:↑ls<=200:=zU hN hW
 show eV (u:=.dT (aJ (ls.map λp=>(p.1,V.ref p.2)))) (λi Y H2=>∃(x0:Option V),Y=[x0,some (.ref d)]/\au HF H2/\H2 D>.lst (((ls.take i).map λp=>decide (2<↑(Wr.adj W p.1))).map V.bl))
   ⟨none,Z,(au.refl HF).upd nD,af⟩ (λi Y H2 _ hz=>by let⟨_,_,s,_⟩:=hz;show s _ _ ef) ?_ ?_
 ·rintro i x v Y H2 ⟨k,b,hk,rfl,hb⟩ hi ⟨x0,rfl,s,hD⟩
  let⟨c,Z0,rfl⟩:=lI hk
  rw[Jn] at Z0
  let⟨⟨c',l⟩,hl,ec⟩:=JH.mp Z0
  cases ec
  let hb:H2 b>.tup (c'.map V.int):=by rw[<-cC];show hb
  let⟨as,a1,a2⟩:=(C _ (Jl hl)).same s
  let hi:i<↑ls:=(Js.mp hl).1
  let f:↑(as.map V.ref)=↑(Wr.adj W c'):=Jb<|Nb.length a2
  let hg:=dg (.inr ⟨o,s _ _ ef⟩) hb
  rw[hN.val (Jl hl)] at hg
  show gn (eT ?_)
  show(aQ (cD (eF ∅ ∅ hg) a1) az) _ ⟨_,hD,aL (by rw[Jb,Jb,JT];lia),_,Z,bE s nD,?_⟩
  rw[af,aN hl,Jf,Jf,f]
  change _>HO.lst (_++[V.bl (decide (2<↑(Wr.adj W c')))])
  rw[show decide ((2:Int)<(↑(Wr.adj W c'):Nat))=decide (2<↑(Wr.adj W c')) from decide_eq_decide.mpr ()]
 ·rintro Y H2 ⟨x0,rfl,s,hD⟩
  let N:nU (.dT (aJ (ls.map λp=>(p.1,V.ref p.2))))=↑ls:=by change(aJ _).length=_;unfold aJ;rw[Jb,Jb]
  rw[N,Jx] at hD
  let Dd:D≠d:=λz=>by rw[z,ef] at nD;cases nD
  let O:Oc H2 d (.dT (aJ (ls.map λp=>(p.1,V.ref p.2)))) D>.lst ((ls.map λp=>decide (2<↑(Wr.adj W p.1))).map V.bl):=aj Dd<|hD
  show⟨s _ _ ef,D,_,Z,aM.of O,_,Z,?_⟩
  let s1:=j s
  revert s1
  generalize Oc H2 d (.dT (aJ (ls.map λp=>(p.1,V.ref p.2))))=H1
  intro s1
  rw[La]
  change if (ls.any λp=>decide (2<↑(Wr.adj W p.1)))=true then _ else _
  cases e1:ls.any λp=>decide (2<↑(Wr.adj W p.1)) with
  |true=>
   let⟨p,hp,e⟩:=iZ e1
   show c9 (q _ false s1 ⟨(λz=>by cases z),λz=>absurd (z.p1 p.1) (by have:=N4 e;lia)⟩)
  |false=>
  show cK ?_
  let p1:∀x,↑(Wr.adj W x)<=2:=λx=>by
   by_cases c:Wr.adj W x=[]
   ·rw[c];show Ju _
   ·let⟨l,hl⟩:=(hN.ky x).mpr c
    have:¬2<↑(Wr.adj W x):=N6 (kq e1 hl)
    lia
  let⟨du,sa,ga,us,u1,u2,u3,_,⟨as,r,J⟩,⟨bs,F,I⟩⟩:=hU.ex
  let f:↑as=↑A:=Nb.length J
  let M:↑bs=↑B:=Nb.length I
  show bO ?_
  show⟨_,Z,u,cBundle,du,us,_,Z,s1 _ _ u1,T.cl_Bundle,T.na_Bundle_starts,u2,sa,Z,⟨_,bh.of (s1 _ _ r)⟩,λD nD=>?_⟩
  show i9 (K:=K) (xs:=as.map V.ref) (λi Y H'=>∃x0:Option V,Y=[x0,some (.ref d)]/\au H1 H'/\H' D>.lst (((A.take i).map λc=>!decide (↑(Wr.adj W c)=1)).map V.bl)) ⟨none,Z,(au.refl H1).upd nD,af⟩ (λi Y H' _ hz=>by let⟨_,_,z,_⟩:=hz;show bh.of (z _ _ (s1 _ _ r))) ?_ ?_
  ·rintro i x Y H' hx ⟨x0,rfl,s2,hD⟩
   let⟨a,ea,rfl⟩:=bJ hx
   let⟨c,Z0,g⟩:=br J ea
   let hi:i<↑as:=(Js.mp ea).1
   show gn (eT ?_)
   show iI (K:=K) 1 0 (hN.same (s1.trans s2)) Z Z (s2 _ _ (s1 _ _ g)) λH3 l s3 hl=>?_
   let⟨xs,l1,l2⟩:=jN hl
   show⟨_,_,Z,.inl ⟨_,aM.of l1,Z⟩,Z,_,s3 _ _ hD,aL (by rw[Jb,Jb,JT];lia),_,Z,bE (s2.trans s3) nD,?_⟩
   rw[af,aN Z0,Jf,Jf,l2,sU];rfl
  ·rintro Y H3 ⟨x0,rfl,s2,hD⟩
   rw[Jb,f,Jx] at hD
   show⟨D,_,Z,aM.of hD,_,Z,?_⟩
   rw[La]
   change if (A.any λc=>!decide (↑(Wr.adj W c)=1))=true then _ else _
   let s3:=s1.trans s2
   cases e2:A.any λc=>!decide (↑(Wr.adj W c)=1) with
   |true=>
    let⟨c,Z0,e⟩:=iZ e2
    show c9 (q _ false s3 ⟨(λz=>by cases z),λz=>by rw[N3 (z.p2 c Z0)] at e;cases e⟩)
   |false=>
   show cK ?_
   let p2:∀c∈A,↑(Wr.adj W c)=1:=λc Z0=>by
    have:=kq e2 Z0
    cases z:decide (↑(Wr.adj W c)=1) with
    |true=>show N4 z
    |false=>rw[z] at this;cases this
   show bO ?_
   show⟨_,Z,u,cBundle,du,us,_,Z,s3 _ _ u1,T.cl_Bundle,T.na_Bundle_goals,u3,ga,Z,⟨_,bh.of (s3 _ _ F)⟩,λD nD=>?_⟩
   show i9 (K:=K) (xs:=bs.map V.ref) (λi Y H'=>∃x0:Option V,Y=[x0,some (.ref d)]/\au H3 H'/\H' D>.lst (((B.take i).map λc=>decide (1<↑(Wr.adj W c))).map V.bl)) ⟨none,Z,(au.refl H3).upd nD,af⟩ (λi Y H' _ hz=>by let⟨_,_,z,_⟩:=hz;show bh.of (z _ _ (s3 _ _ F))) ?_ ?_
   ·rintro i x Y H' hx ⟨x0,rfl,s4,hD⟩
    let⟨a,ea,rfl⟩:=bJ hx
    let⟨c,Z0,g⟩:=br I ea
    let hi:i<↑bs:=(Js.mp ea).1
    show gn (eT ?_)
    show iI (K:=K) 1 0 (hN.same (s3.trans s4)) Z Z (s4 _ _ (s3 _ _ g)) λH4 l s5 hl=>?_
    let⟨xs,l1,l2⟩:=jN hl
    show⟨_,_,Z,.inl ⟨_,aM.of l1,Z⟩,_,_,Z,Z,_,s5 _ _ hD,aL (by rw[Jb,Jb,JT];lia),_,Z,bE (s4.trans s5) nD,?_⟩
    rw[af,aN Z0,Jf,Jf,l2]
    change some (HO.lst (_++[V.bl (decide ((1:Int)<(↑(Wr.adj W c):Nat)))]))=_
    rw[show decide ((1:Int)<(↑(Wr.adj W c):Nat))=decide (1<↑(Wr.adj W c)) from decide_eq_decide.mpr ()];rfl
   ·rintro Y H4 ⟨x0,rfl,s4,hD⟩
    rw[Jb,M,Jx] at hD
    show⟨D,_,Z,aM.of hD,_,Z,?_⟩
    rw[La]
    change if (B.any λc=>decide (1<↑(Wr.adj W c)))=true then _ else _
    let s5:=s3.trans s4
    cases e3:B.any λc=>decide (1<↑(Wr.adj W c)) with
    |true=>
     let⟨c,Z0,e⟩:=iZ e3
     show c9 (q _ false s5 ⟨(λz=>by cases z),λz=>absurd (z.p3 c Z0) (by have:=N4 e;lia)⟩)
    |false=>
    show cK ?_
    let p3:∀c∈B,↑(Wr.adj W c)<=1:=λc Z0=>by
     have:¬1<↑(Wr.adj W c):=N6 (kq e3 Z0)
     lia
    show⟨_,Z,u,cBundle,du,us,_,Z,s5 _ _ u1,T.cl_Bundle,T.na_Bundle_starts,u2,sa,Z,⟨_,bh.of (s5 _ _ r)⟩,λD nD=>?_⟩
    show i9 (K:=K) (xs:=as.map V.ref) (λi Y H'=>∃(x0:Option V) (ws:-N8),Y=[x0,some (.ref d)]/\au H4 H'/\H' D>.lst (ws.map V.ref)/\Nb (λl s=>fH H' l (uH W s)) ws (A.take i)/\∀l∈ws,l≠D) ⟨none,[],Z,(au.refl H4).upd nD,af,.nil,λ_ z=>by cases z⟩ (λi Y H' _ hz=>by let⟨_,_,_,z,_⟩:=hz;show bh.of (z _ _ (s5 _ _ r))) ?_ ?_
    ·rintro i x Y H' hx ⟨x0,ws,rfl,s6,hD,hw,L⟩
     let⟨a,ea,rfl⟩:=bJ hx
     let⟨c,Z0,g⟩:=br J ea
     let hi:i<↑as:=(Js.mp ea).1
     let lw:↑ws<=↑A:=by rw[Nb.length hw,JT];lia
     show gn (eT ?_)
     show⟨_,Z,_,Z,d,a,W,c,Z,(hN.same (s5.trans s6)).nr,S,hW,s6 _ _ (s5 _ _ g),p2 c (Jl Z0),λH5 l s7 nl hl=>?_⟩
     let lD:l≠D:=λz=>by rw[z,hD] at nl;cases nl
     let k5:∀b xs,H5 b>.tup xs->Oc H5 D (.lst (ws.map V.ref++[.ref l])) b>.tup xs:=λb xs e=>bj (s7 _ _ hD) _ _ e
     let kl:∀{b:N8} {cs:-T3},fH H5 b cs->b≠D->fH (Oc H5 D (.lst (ws.map V.ref++[.ref l]))) b cs:=λe n=>by
      let⟨as,e1,e2⟩:=e
      show⟨as,aj n<|e1,ay e2 k5⟩
     show⟨_,s7 _ _ hD,aL (by rw[Jb];lia),_,ws++[l],Z,bE (s6.trans s7) nD,by rw[af,Jf];rfl,?_,λb hb=>?_⟩
     ·rw[aN Z0]
      show EI (EL (Az hw s7) λb s hb z=>kl z (L b hb)) (kl hl lD)
     ·rcases Jz.mp hb with z|z
      ·show L b z
      ·rw[Jg.mp z];show lD
    ·rintro Y H5 ⟨x0,ws,rfl,s6,hD,hw,L⟩
     rw[Jb,f,Jx] at hw
     let lw:↑ws=↑A:=Nb.length hw
     let s7:=s5.trans s6
     show st ?_
     show bO ?_
     show⟨_,Z,D,Z,⟨_,aM.of hD⟩,λD2 ba=>?_⟩
     show bf (K:=K) (xs:=ws.map V.ref) (λi Y H'=>∃x0:Option V,Y=[x0,some (.ref u)]/\au H5 H'/\H' D2>.lst (((A.take i).map λc=>!decide (Wr.tr W c (Wr.wl W c)∈B)).map V.bl)) ⟨none,Z,(au.refl H5).upd ba,af⟩ (λi Y H' _ hz=>by let⟨_,_,z,_⟩:=hz;show aM.of (z _ _ hD)) ?_ ?_
     ·rintro i x Y H' hx ⟨x0,rfl,s8,m⟩
      let⟨l,el,rfl⟩:=bJ hx
      let hi:i<↑ws:=(Js.mp el).1
      let⟨c,Z0,hl⟩:=gC hw el
      let⟨X,a,l1,l2,l3⟩:=Ae (hl.same s8)
      show gn (eT ?_)
      let ew:Ev (gb (nu K) (cR 0) (Fn (rU λi=> .int (-(i:_))) (tC (.int 1)))) [some (.ref l),some (.ref u)] H' (.ref a):=c8 ∅ (tL (i:=1) az) (aM.of l1) (Jf<|qP _ _)
      show(h_ ew (λQ' q'=>⟨_,Z,u,cBundle,du,us,_,Z,(s7.trans s8) _ _ u1,T.cl_Bundle,T.na_Bundle_goals,u3,q'⟩) l2 (bh.of ((s7.trans s8) _ _ F)) (ay I λb xs z=>(s7.trans s8) _ _ z)) _ ⟨_,m,aL (by rw[Jb,Jb,JT];lia),_,Z,bE s8 ba,?_⟩
      rw[af,aN Z0,Jf,Jf];rfl
     ·rintro Y H6 ⟨x0,rfl,s8,m⟩
      rw[Jb,lw,Jx] at m
      show⟨D2,_,Z,aM.of m,_,Z,?_⟩
      rw[La]
      change if (A.any λc=>!decide (Wr.tr W c (Wr.wl W c)∈B))=true then _ else _
      let s9:=s7.trans s8
      cases e4:A.any λc=>!decide (Wr.tr W c (Wr.wl W c)∈B) with
      |true=>
       let⟨c,Z0,e⟩:=iZ e4
       show c9 (q _ false s9 ⟨(λz=>by cases z),λz=>by rw[N3 (z.p4 c Z0)] at e;cases e⟩)
      |false=>
      show cK ?_
      let p4:∀c∈A,Wr.tr W c (Wr.wl W c)∈B:=λc Z0=>by
       have:=kq e4 Z0
       cases z:decide (Wr.tr W c (Wr.wl W c)∈B) with
       |true=>show N4 z
       |false=>rw[z] at this;cases this
      show dr ⟨_,Z,D,Z,⟨_,aM.of (s8 _ _ hD)⟩,λD3 be=>?_⟩
      show bf (K:=K) (xs:=ws.map V.ref) (λi Y H'=>∃x0:Option V,Y=[x0]/\au H6 H'/\H' D3>.lst (((A.take i).map λc=>((Wr.wl W c:Nat):Int)).map V.int)) ⟨none,Z,(au.refl H6).upd be,af⟩ (λi Y H' _ hz=>by let⟨_,_,z,_⟩:=hz;show aM.of (z _ _ (s8 _ _ hD))) ?_ ?_
      ·rintro i x Y H' hx ⟨x0,rfl,sA,y⟩
       let⟨l,el,rfl⟩:=bJ hx
       let hi:i<↑ws:=(Js.mp el).1
       let⟨c,Z0,hl⟩:=gC hw el
       let⟨xs,l1,l2⟩:=jN (hl.same (s8.trans sA))
       show gn (eT ?_)
       show(aQ (cD ∅ l1) az) _ ⟨_,y,aL (by rw[Jb,Jb,JT];lia),_,Z,bE sA be,?_⟩
       rw[af,aN Z0,Jf,Jf,l2]
       unfold uH
       rw[Jb,Ks]
       change some (HO.lst (_++[V.int (((Wr.wl W c+1:Nat):Int) - 1)]))>HO.lst (_++[V.int ((Wr.wl W c:Nat):Int)])
       rw[show((Wr.wl W c+1:Nat):Int) - 1=((Wr.wl W c:Nat):Int) by lia]
      ·rintro Y H7 ⟨x0,rfl,sA,y⟩
       rw[Jb,lw,Jx] at y
       show⟨D3,_,Z,aM.of y,_,Z,Z,?_⟩
       show q _ _ (s9.trans sA) ?_
       rw[decide_eq_true_iff,B4]
       show⟨λz=>⟨p1,p2,p3,p4,by injection z;lia⟩,λz=>by have:=z.p5;rw[this]⟩
theorem Ax (c:aT P w K mg Oa "near_by" 4 ["floor", "wiring"] (rC Od))(e:bU P w K mg Oa cBundle "shaped" 2 ["self", "near", "many"] (qV cBundle)):mK P w K mg Oa 5 "sound" "Thing.sound" zD ["self", "floor", "wiring"] (wz Od cBundle):=by
 show rd ["self", "floor", "wiring", "near"] λnd _ _ _ _ _ H vs Q E hr h=>?_
 let⟨u,p,pr,vi,rd,td,l,g,as,W,A,B,rfl,F,hg,n,m,o,j,k,I,v,q⟩:=h
 show⟨_,(bc (bo 3 nd (bq c hr (aC (ao 1) (ao 2)))) (aD (gu (je Bu (ao 3) qF) (gR (cP (ao 0) T.cl_Bundle e (hr.mono (by decide)) (aC (ao 3) (bz aO T.len_ (aE (ao 2))))))))),?_⟩
 let a:N9=2^24:=rfl
 show cQ (eK (ag ∅ (ag ∅ aw)) ⟨p,pr,vi,rd,td,l,g,as,W,Z,F,hg,n,m,o,j,λH1 s1 i=>?_,λH1 d ls i f=>?_⟩)
 ·show dr ⟨_,Z,Z,_,Z,?_⟩
  rw[N3 Z]
  show cK (q _ false s1 ⟨(λz=>by cases z),λz=>absurd z.1 i⟩)
 ·show dr ⟨_,Z,Z,_,Z,?_⟩
  rw[N5 (λz=>by cases z)]
  let⟨y,J,M,x,C,L,N,D,_⟩:=(k.same f.sm).ex
  let len:↑as=↑W:=↑m
  show c9 ⟨_,Z,u,y,x,Z,C,D.1,_,Z,_,Z,_,_,Z,.inl ⟨_,aM.of (f.sm _ _ n),Z⟩,u,d,W,ls,A,B,by rw[Jb,len];rfl,k.same f.sm,f.s,i.sim o,j,I,v,λH2 b r hb=>?_⟩
  show q _ b (f.sm.trans r) ⟨λz=>⟨i,hb.mp z⟩,λz=>hb.mpr z.2⟩
theorem AI (A:bU P w K mg Oa Od "is_open" 2 ["self", "spot"] (jM Od)):jo P w K mg Oa 3 "all_clear" yC ["floor", "free", "spots"] (vt Od):=by
 show rd ["floor", "free", "spots"] λnd _ _ _ _ _ H vs Q E hr h=>?_
 let⟨p,pr,vi,rd,td,e,h,g,F',hs,rfl,hF,hg,he,⟨ls,S,hp⟩,n1,n2,X,h3,hl,q⟩:=h
 show⟨_,(a9 (aD (bz (j_ Z) T.all_ (aE (uL (il ["spot"] ["free", "floor"] [1,0] (fU (ao 2)) (eU 0) dF (gu (mW (f_ (by show(aR.one hr)) (ao 0) (ao 1))) (gR (cP (ao 2) (by show T.cl_Floor) (by show A) (by show(hr.mono (by decide))) (aE (ao 0))))))))))),?_⟩
 let r:N9=2^24:=rfl
 let len:↑ls=↑hs:=Nb.length hp
 show dr ⟨h,.dT (aJ ls),S,trivial,λo=>?_⟩
 let l:FA Od (Oc H h (.frz o (.dT (aJ ls)))) p pr vi rd td g:=hF.frz S n2 X
 let m:Oc H h (.frz o (.dT (aJ ls))) e>.dT (aZ g.R g.C F'):=aj n1.symm<|he
 let J:Oc H h (.frz o (.dT (aJ ls))) h>.frz o (.dT (aJ ls)):=af
 let a:∀{H2},au (Oc H h (.frz o (.dT (aJ ls)))) H2->au H (Oc H2 h (.dT (aJ ls))):=λs=>thaw S s
 revert l m J a
 generalize Oc H h (.frz o (.dT (aJ ls)))=W
 intro l m J a
 show⟨_,Z,h,o,.dT (aJ ls),Z,J,trivial,λD M=>?_⟩
 show eV (u:=.dT (aJ ls)) (λi N H2=>∃(O:Option V),N=[O,some (.ref e),some (.ref p)]/\au W H2/\H2 D>.lst (((hs.take i).map λq=>dI g.R g.C F' q.1&&jk g q.1).map V.bl))
   ⟨none,Z,(au.refl W).upd M,af⟩ (λi N H2 _ hz=>by let⟨_,_,s,_⟩:=hz;show s _ _ J) ?_ ?_
 ·rintro i x v N H2 ⟨k,b,hk,rfl,hb⟩ hi ⟨O,rfl,s,L⟩
  let⟨c,Y,rfl⟩:=lI hk
  let⟨⟨c',y⟩,hq,rfl,t,_,ht⟩:=gC hp Y
  let hb:H2 b>.tup (c.map V.int):=by rw[<-cC];show hb
  let⟨F,I,B,rfl⟩:=dS (h3 _ (Jl hq))
  let⟨dx,z,Z0,f2⟩:=(l.same s).ex
  show gn (eT ?_)
  let d:∀U,U=(dI g.R g.C F' [F,I,B]&&jk g [F,I,B])->Oc H2 D (.lst (((hs.take i).map λq=>dI g.R g.C F' q.1&&jk g q.1).map V.bl++[.bl U])) D>.lst (((hs.take (i+1)).map λq=>dI g.R g.C F' q.1&&jk g q.1).map V.bl):=λU z=>by
   rw[af,aN hq,Jf,Jf,z];rfl
  let f:↑(((hs.take i).map λq=>dI g.R g.C F' q.1&&jk g q.1).map V.bl)<N9:=aL (by rw[Jb,Jb,JT];lia)
  show⟨_,Z,_,Z,e,_,Z,dg (.inl (s _ _ m)) hb,_,Z,?_⟩
  let j:(bg (aZ g.R g.C F') (iK [F,I,B])).isSome=dI g.R g.C F' [F,I,B]:=rfl
  cases ec:dI g.R g.C F' [F,I,B] with
  |false=>
   rw[ec] at d j
   rw[j]
   show cK ⟨_,L,f,_,Z,bE s M,d _ Z⟩
  |true=>
   rw[ec] at d j
   rw[j]
   show c9 ⟨_,Z,p,dx,_,Z,Z0,GO,_,Z,p,pr,vi,rd,td,b,g,F,I,B,Z,l.same s,hg,hb,_,L,f,_,Z,bE s M,d _ Z⟩
 ·rintro N H2 ⟨O,rfl,s,L⟩
  let n:nU (.dT (aJ ls))=↑hs:=by change(aJ ls).length=_;unfold aJ;rw[Jb,len]
  rw[n,Jx] at L
  show⟨s _ _ J,D,_,Z,aM.of (show Oc H2 h (.dT (aJ ls)) D=_ by rw[aj (λz=>by rw[z,J] at M;cases M)];show L),?_⟩
  rw[List.all_map]
  show q _ (a s)
theorem DH (v:bU P w K mg Oa Od "wiring_price" 5 ["self", "wiring"] (Ah Od))(r:bU P w K mg Oa cBundle "sound" 5 ["self", "floor", "wiring"] (wz Od cBundle)):jo P w K mg Oa 6 "wires_lie" Fu ["floor", "free", "thing", "wires", "price"] (DB Od cBundle):=by
 show rd ["floor", "free", "thing", "wires", "price"] λnd _ _ _ _ _ H vs Q E hr h=>?_
 let⟨u,p,pr,vi,rd,td,l,e,g,as,W,A,B,F',x,rfl,X,hg,he,M,L,Z0,hW,hU,la,lb,q⟩:=h
 show⟨_,(bc (bH (fT (dw (dq (cP (ao 2) T.cl_Bundle r (hr.mono (by decide)) (aC (ao 0) (ao 3))))) (fy (bS f9 (ao 4) (cP (ao 0) T.cl_Floor v (hr.mono (by decide)) (aE (ao 3)))))).pt (aD cI)) (aD (bz (j_ Z) T.all_ (aE (il ["one", "two"] ["free"] [1] (bF (ao 3)) (gZ (K:=K) (n:=2) Z Z (aB (eU 0) (aB (eU 1) bT)) Z Z) dF (gu (mW (f_ (by show(aR.one hr)) (ao 0) (ao 2))) (gR (mW (f_ (by show(aR.one hr)) (ao 1) (ao 2)))))))))),?_⟩
 let m:N9=2^24:=rfl
 let len:↑as=↑W:=↑L
 let⟨du,sa,ga,us,u1,u2,u3,u4,_⟩:=hU.ex
 show bO ?_
 show⟨_,Z,u,du,us,Z,u1,u4.2,_,Z,_,Z,u,p,pr,vi,rd,td,l,g,as,W,A,B,Z,X,hg,M,L,Z0,hW,hU,la,lb,λH1 b s1 hb=>?_⟩
 show⟨_,Z,?_⟩
 cases b with
 |false=>show c9 (c9 (q _ false s1 ⟨(λz=>by cases z),λz=>by have:=hb.mpr ⟨z.nb,z.pv⟩;cases this⟩))
 |true=>
  let⟨nb,pv⟩:=hb.mp Z
  let⟨dx,z,f1,f2⟩:=(X.same s1).ex
  show cK ⟨_,Z,_,Z,p,dx,_,Z,f1,by kernel_rfl,_,Z,p,pr,vi,rd,td,l,g,as,W,Z,X.same s1,hg,s1 _ _ M,L.same s1,(),λf hf=>?_,λH2 s2=>?_⟩
  ·let⟨i,hi⟩:=KG.mp hf
   show DR hg (Z0 f hf).1 (Z0 f hf).2 (nb i f hi).1
  ·let I:=s1.trans s2
   show⟨Z,_,Z,?_⟩
   by_cases hx:x=(W.map (FT g)).sum
   ·rw[<-hx,N3 Z]
    show cK ?_
    show dr ⟨_,Z,l,Z,⟨_,aM.of (I _ _ M)⟩,λD Y=>?_⟩
    show bf (K:=K) (xs:=as.map V.ref) (λi N H'=>∃O S:Option V,N=[O,S,some (.ref e)]/\au H2 H'/\H' D>.lst (((W.take i).map λe=>dI g.R g.C F' e.1&&dI g.R g.C F' e.2).map V.bl))
     ⟨none,none,Z,(au.refl H2).upd Y,af⟩ (λi N H' _ hz=>by let⟨_,_,_,s,_⟩:=hz;show aM.of (s _ _ (I _ _ M))) ?_ ?_
    ·rintro i y N H' hi ⟨O,S,rfl,F,J⟩
     let⟨a,ha,rfl⟩:=bJ hi
     let o:i<↑as:=(Js.mp ha).1
     let⟨f,x,y,ec,g1,g2,g3⟩:=(L.same (I.trans F)).at ha
     show⟨a,_,Z,bh.of g1,Z,_,_,Z,_,_,Z,Z,?_⟩
     show eT ?_
     let k:=(I.trans F) _ _ he
     let j:∀U,U=(dI g.R g.C F' f.1&&dI g.R g.C F' f.2)->Oc H' D (.lst (((W.take i).map λe=>dI g.R g.C F' e.1&&dI g.R g.C F' e.2).map V.bl++[.bl U])) D>.lst (((W.take (i+1)).map λe=>dI g.R g.C F' e.1&&dI g.R g.C F' e.2).map V.bl):=λU z=>by
      rw[af,aN ec,Jf,Jf,z];rfl
     let d:↑(((W.take i).map λe=>dI g.R g.C F' e.1&&dI g.R g.C F' e.2).map V.bl)<N9:=aL (by rw[Jb,Jb,JT];lia)
     show⟨_,Z,_,Z,e,_,Z,dg (.inl k) g2,_,Z,?_⟩
     let c:(bg (aZ g.R g.C F') (iK f.1)).isSome=dI g.R g.C F' f.1:=rfl
     cases ec1:dI g.R g.C F' f.1 with
     |false=>
      rw[ec1] at j c
      rw[c]
      show cK ⟨_,J,d,_,_,Z,bE F Y,j _ Z⟩
     |true=>
      rw[ec1] at j c
      rw[c]
      show c9 ⟨_,Z,_,Z,e,_,Z,dg (.inl k) g3,_,J,d,_,_,Z,bE F Y,j _ Z⟩
    ·rintro N H3 ⟨O,S,rfl,F,J⟩
     rw[Jb,len,Jx] at J
     show⟨D,_,Z,aM.of J,q _ _ (I.trans F) ?_⟩
     rw[List.all_map]
     show⟨λz=>⟨nb,pv,hx,z⟩,λz=>z.fr⟩
   ·rw[N5 (λz=>hx (by injection z))]
    show c9 (q _ false I ⟨(λz=>by cases z),λz=>absurd z.pr hx⟩)
theorem yB:mK P w K mg Oa 1 "is_laid" "BundlePaper.is_laid" zy ["self"] vR:=by
 show rd ["self"] λnd _ _ _ _ _ H vs Q E hr h=>?_
 let⟨p,rfl,q⟩:=h
 show⟨_,(a9 (aD cI)),?_⟩
 show dy az q
theorem yL:mK P w K mg Oa 1 "__init__" "BundlePaper.__init__" zV ["self", "wires", "price", "depth", "heights"] (s_ cBundlePaper):=by
 show rd ["self", "wires", "price", "depth", "heights"] λnd _ _ _ _ _ H vs Q E hr h=>?_
 let⟨p,dx,B,h,n,pr,de,hs,rfl,hp,C,k,⟨ls,v,x⟩,i,hg,q⟩:=h
 show⟨_,(ak (eL (ao 0) (iw fW T.list_ (aE (ao 1))) Z) (ak (eL (ao 0) (ao 2) Z) (bc (eL (ao 0) (ao 3) Z) (eL (ao 0) (iw (tS (P:=P) (w:=w) Z Z) T.dict_ (aE (ao 4))) Z)))),?_⟩
 let j:N9=2^24:=rfl
 show⟨_,Z,B,_,Z,.inl (aM.of C),λw' r=>?_⟩
 let a:p≠w':=aq hp r
 show⟨_,Z,p,cBundlePaper,dx,[],Z,aj a<|hp,T.cl_BundlePaper,T.na_BundlePaper_wires,(by decide),?_⟩
 rw[IV]
 show⟨_,Z,_,Z,p,cBundlePaper,dx,_,Z,af,T.cl_BundlePaper,T.na_BundlePaper_price,(by change 1<1000;decide),?_⟩
 rw[IA]
 show⟨_,Z,_,Z,p,cBundlePaper,dx,_,Z,af,T.cl_BundlePaper,T.na_BundlePaper_depth,(by change 2<1000;decide),?_⟩
 rw[IZ]
 let m:fM H (Oc (Oc (Oc (Oc H w' (.lst n)) p (.ins cBundlePaper dx [("wires",.ref w')])) p (.ins cBundlePaper dx [("wires",.ref w'),("price",.int pr)])) p (.ins cBundlePaper dx [("wires",.ref w'),("price",.int pr),("depth",.int de)])) p:=λb o hb e=>by rw[aj hb,aj hb,aj hb,aj (aq e r)];show e
 let c:(Oc (Oc (Oc (Oc H w' (.lst n)) p (.ins cBundlePaper dx [("wires",.ref w')])) p (.ins cBundlePaper dx [("wires",.ref w'),("price",.int pr)])) p (.ins cBundlePaper dx [("wires",.ref w'),("price",.int pr),("depth",.int de)])) p>.ins cBundlePaper dx [("wires",.ref w'),("price",.int pr),("depth",.int de)]:=af
 let f:(Oc (Oc (Oc (Oc H w' (.lst n)) p (.ins cBundlePaper dx [("wires",.ref w')])) p (.ins cBundlePaper dx [("wires",.ref w'),("price",.int pr)])) p (.ins cBundlePaper dx [("wires",.ref w'),("price",.int pr),("depth",.int de)])) w'>.lst n:=aj a.symm<|aj a.symm<|aj a.symm<|af
 revert m c f
 generalize (Oc (Oc (Oc (Oc H w' (.lst n)) p (.ins cBundlePaper dx [("wires",.ref w')])) p (.ins cBundlePaper dx [("wires",.ref w'),("price",.int pr)])) p (.ins cBundlePaper dx [("wires",.ref w'),("price",.int pr),("depth",.int de)]))=y
 intro m c f
 show⟨_,Z,h,Z,.inr ⟨_,.inl (m _ _ (bu v hp (λz=>by cases z)) v),vK x i hg,λd l=>?_⟩⟩
 let g:p≠d:=aq c l
 show⟨_,Z,p,cBundlePaper,dx,_,Z,aj g<|c,T.cl_BundlePaper,T.na_BundlePaper_heights,(by change 3<1000;decide),?_⟩
 rw[Iy]
 let kp:∀b o,b≠p->y b>o->Oc (Oc y d (.dT (aJ ls))) p (.ins cBundlePaper dx (fB w' d pr de)) b>o:=λb o hb e=>by rw[aj hb,aj (aq e l)];show e
 show q _ w' d (λb o hb e=>kp b o hb (m b o hb e)) af r ?_ (kp _ _ a.symm f) ⟨ls,aj g.symm<|af,Nb.mapP x λ_ _ z=>?_⟩
 ·cases e:H d with
  |none=>rfl
  |some o=>have:=m d o g.symm e;rw[l] at this;cases this
 ·let⟨D,t,A,u⟩:=z
  show⟨D,t,A,kp _ _ (bu u hp (λz=>by cases z)) (m _ _ (bu u hp (λz=>by cases z)) u)⟩
theorem F4:mK P w K mg Oa 1 "lows_and_highs" "BundlePaper.lows_and_highs" Ia ["self", "spot"] (D5 cBundlePaper):=by
 show rd ["self", "spot"] λnd _ _ _ _ _ H vs Q E hr h=>?_
 let⟨p,dx,d,b,fs,de,c,hs,rfl,hp,j,f,⟨ls,g,m⟩,hb,q⟩:=h
 show⟨_,(a9 (aD (bR JL JZ J7 (dk hr) (bI (ao 0) Z) (aC (ao 1) (aS (aC (bI (ao 0) Z) (bI (ao 0) Z))))))),?_⟩
 show dr ?_
 show(gN ∅ hp T.cl_BundlePaper T.na_BundlePaper_heights j) _ ⟨.inr (.inr (.inl ⟨Z,.inr ⟨_,g⟩⟩)),?_⟩
 show∅ _ ?_
 show pS (vs:=[.int de,.int de]) (ag (gN ∅ hp T.cl_BundlePaper T.na_BundlePaper_depth f) (ag (gN ∅ hp T.cl_BundlePaper T.na_BundlePaper_depth f) aw)) (by change 2<=N9;decide) λt i=>?_
 let s:au H (Oc H t (.tup [.int de,.int de])):=(au.refl H).upd i
 let ht:Oc H t (.tup [.int de,.int de]) t>.tup [.int de,.int de]:=af
 revert s ht
 generalize Oc H t (.tup [.int de,.int de])=H1
 intro s ht
 show⟨d,.ref b,.ref t,_,Z,Z,gx.t (k:=iK c) (s _ _ g) (by unfold iK;rw[cC];show s _ _ hb),?_⟩
 rw[cM]
 rcases kJ m c with ⟨e,a⟩|⟨u,x,e,a,l⟩
 ·rw[e]
  show q _ _ s (by unfold hv;rw[a];show ht)
 ·rw[e]
  show q _ _ s (by unfold hv;rw[a];show s _ _ l)
theorem Ab (r:bU P w K mg Oa cBundlePaper "lows_and_highs" 1 ["self", "spot"] (D5 cBundlePaper)):mK P w K mg Oa 2 "ends_hold" "BundlePaper.ends_hold" yx ["self", "bundle"] (vZ cBundlePaper cBundle):=by
 show rd ["self", "bundle"] λnd _ _ _ _ _ H vs Q E hr h=>?_
 let⟨p,u,wr,pr,de,hs,A,B,rfl,X,hU,la,lb,q⟩:=h
 show⟨_,(bc (bH (dq (bz (gA Z) T.any_ (aE (il ["start"] ["self"] [0] (kT (bI (ao 1) Z)) (eU 0) dF (je jg (aP (lQ (K:=K) Z) (cP (ao 1) (by show T.cl_BundlePaper) (by show r) (by show(hr.mono (by decide))) (aE (ao 0))) ai) ai))))) (aD cI)) (aD (bz (j_ Z) T.all_ (aE (il ["goal"] ["self"] [0] (kT (bI (ao 1) Z)) (eU 0) dF (je Dm (aP (lQ (K:=K) Z) (cP (ao 1) (by show T.cl_BundlePaper) (by show r) (by show(hr.mono (by decide))) (aE (ao 0))) ai) (wF (K:=K) Z (ao 1) Z))))))),?_⟩
 let j:N9=2^24:=rfl
 let⟨R,Y,ga,N,S,Z0,u3,_,⟨as,s1,M⟩,⟨bs,U,O⟩⟩:=hU.ex
 let len:↑as=↑A:=Nb.length M
 show bO ?_
 show⟨_,Z,u,cBundle,R,N,_,Z,S,T.cl_Bundle,T.na_Bundle_starts,Z0,Y,Z,⟨_,bh.of s1⟩,λD W=>?_⟩
 show i9 (K:=K) (xs:=as.map V.ref) (λi k H'=>∃m:Option V,k=[m,some (.ref p)]/\au H H'/\H' D>.lst (((A.take i).map λc=>decide (0<(hv hs de c).1)).map V.bl)) ⟨none,Z,(au.refl H).upd W,af⟩ (λi k H' _ J=>by let⟨_,_,s,_⟩:=J;show bh.of (s _ _ s1)) ?_ ?_
 ·rintro i x k H' L ⟨m,rfl,s,C⟩
  let⟨a,l,rfl⟩:=bJ L
  let⟨c,F,f⟩:=br M l
  let hi:i<↑as:=(Js.mp l).1
  let⟨dx,d,n,I⟩:=(X.same s).ex
  show gn (eT ?_)
  show⟨_,Z,p,dx,_,Z,n,GS,_,Z,p,dx,d,a,_,de,c,hs,Z,n,Er,DF,I,s _ _ f,λH2 t o ht=>?_⟩
  show⟨t,_,0,_,Z,Z,bh.of ht,Z,_,_,Z,Z,_,o _ _ C,by rw[Jb,Jb];have:=L6 i A;lia,_,Z,bE (s.trans o) W,?_⟩
  rw[af,aN F,Jf,Jf];rfl
 ·rintro k H2 ⟨m,rfl,s,C⟩
  rw[Jb,len,Jx] at C
  show⟨D,_,Z,aM.of C,_,Z,?_⟩
  let l:((A.map λc=>decide (0<(hv hs de c).1)).any id)=A.any λc=>decide (0<(hv hs de c).1):=by rw[La];rfl
  rw[l]
  cases e:A.any λc=>decide (0<(hv hs de c).1) with
  |true=>
   have:=q _ s
   rw[e] at this
   show c9 this
  |false=>
   show cK ?_
   let g:↑bs=↑B:=Nb.length O
   show dr ⟨_,Z,u,cBundle,R,N,_,Z,s _ _ S,T.cl_Bundle,T.na_Bundle_goals,u3,ga,Z,⟨_,bh.of (s _ _ U)⟩,λD2 v=>?_⟩
   show i9 (K:=K) (xs:=bs.map V.ref) (λi k H'=>∃m:Option V,k=[m,some (.ref p)]/\au H2 H'/\H' D2>.lst (((B.take i).map λc=>decide (de<=(hv hs de c).2)).map V.bl)) ⟨none,Z,(au.refl H2).upd v,af⟩ (λi k H' _ J=>by let⟨_,_,z,_⟩:=J;show bh.of (z _ _ (s _ _ U))) ?_ ?_
   ·rintro i x k H' L ⟨m,rfl,y,b⟩
    let⟨a,l,rfl⟩:=bJ L
    let⟨c,F,f⟩:=br O l
    let hi:i<↑bs:=(Js.mp l).1
    let⟨dx,d,n,I⟩:=(X.same (s.trans y)).ex
    show gn (eT ?_)
    show⟨_,Z,p,dx,_,Z,n,GS,_,Z,p,dx,d,a,_,de,c,hs,Z,n,Er,DF,I,y _ _ (s _ _ f),λH3 t o ht=>?_⟩
    show⟨t,_,1,_,Z,Z,bh.of ht,Z,_,Z,p,cBundlePaper,dx,_,_,Z,o _ _ n,T.cl_BundlePaper,T.na_BundlePaper_depth,DF,_,_,Z,Z,_,o _ _ b,by rw[Jb,Jb];have:=L6 i B;lia,_,Z,bE (y.trans o) v,?_⟩
    rw[af,aN F,Jf,Jf];rfl
   ·rintro k H3 ⟨m,rfl,y,b⟩
    rw[Jb,g,Jx] at b
    show⟨D2,_,Z,aM.of b,?_⟩
    have:=q _ (s.trans y)
    rw[e] at this
    rw[List.all_map]
    show this
theorem tY (ab:aT P w K mg Oa "arcs_in" 6 ["floor", "free"] (pI K mg Od))(am:bU P w K mg Oa cBundlePaper "lows_and_highs" 1 ["self", "spot"] (D5 cBundlePaper)):mK P w K mg Oa 7 "climbs_hold" "BundlePaper.climbs_hold" sx ["self", "floor", "free"] (oz K cBundlePaper Od):=by
 show rd ["self", "floor", "free", "arcs", "spot", "high"] λnd _ _ _ _ _ H vs Q E hr h=>?_
 let⟨s,wr,d,p,pr,vi,rd,td,e,x,de,hs,g,F',rfl,hP,hF,hg,he,hT,nr,nt,hA,U,q⟩:=h
 show⟨_,(ak (bo 3 nd (bq ab hr (aC (ao 1) (ao 2)))) (bc (iE (dU (fU (ao 2)) (bp 4 nd) (bc (bo 5 nd (aP aH (cP (ao 0) T.cl_BundlePaper am (hr.mono (by decide)) (aE (ao 4))) ai)) (bH (dq (bz (gA Z) T.any_ (aE (il ["other", "price"] ["high", "self"] [5,0] (bF (AM (r:=EB mg K) (ao 3) (B7 T (hr.mono (by decide))) (aE (ao 4)))) (gZ (K:=K) (n:=2) Z Z (aB (eU 0) (aB (eU 1) bT)) Z Z) dF (je jg (aP (lQ (K:=K) Z) (cP (ao 3) (by show T.cl_BundlePaper) (by show am) (by show(hr.mono (by decide))) (aE (ao 0))) ai) (aA aX (ao 2) (ao 1))))))) (aD cI))))) (aD cI))),?_⟩
 let X:N9=2^24:=rfl
 let S:=hg.S
 let few:=hT.few
 let hm:=hg.m
 show cQ (eK (ag ∅ (ag ∅ aw)) ⟨p,pr,vi,rd,td,e,g,F',Z,hF,hg,he,hT,nr,nt,hA,λH1 f sb a0 hf=>?_⟩)
 let C:=hA.keep sb he (λ_ z=>by cases z)
 let R:=hP.keep hA sb
 show⟨e,.dT (aZ g.R g.C F'),C,trivial,λo=>?_⟩
 show⟨_,Z,e,o,.dT (aZ g.R g.C F'),Z,af,trivial,?_⟩
 let sF:Sb e H1 (Oc H1 e (.frz o (.dT (aZ g.R g.C F')))):=λb x nb eb=>by rw[aj nb];show eb
 let ef:Oc H1 e (.frz o (.dT (aZ g.R g.C F'))) e>.frz o (.dT (aZ g.R g.C F')):=af
 let m:∀{H2},au (Oc H1 e (.frz o (.dT (aZ g.R g.C F')))) H2->au H1 (Oc H2 e (.dT (aZ g.R g.C F'))):=λs=>thaw C s
 let B:=R.sb C sF U
 let I:=hf.sb C sF
 revert ef m B I
 generalize Oc H1 e (.frz o (.dT (aZ g.R g.C F')))=HF
 intro ef m B I
 let N:∀H2 b,au HF H2->b=GL g F' hs de->Q (.bl b) (Oc H2 e (.dT (aZ g.R g.C F'))):=λH2 b s2 z=>by
  rw[z]
  show q _ (λb x nb eb=>m s2 _ _ (sb _ _ nb eb)) (a0.same (m s2))
 show eV (u:=.dT (aZ g.R g.C F')) (λi σ H'=>∃(x4 x5:Option V),σ=[some (.ref s),some (.ref p),some (.ref e),some (.ref f),x4,x5]/\au HF H'/\((F'.take i).all λq=>!((fx g F' (sN g.R g.C q.1)).any λx=>decide ((hv hs de (sN g.R g.C q.1)).2+x.2<(hv hs de x.1).1)))=true)
  ⟨none,none,Z,au.refl HF,Z⟩ (λi σ H' _ hz=>by let⟨_,_,_,z,_⟩:=hz;show z _ _ ef) ?_ ?_
 ·rintro i x v σ H' ⟨k,b,hk,rfl,hb⟩ hi ⟨x4,x5,rfl,s2,A⟩
  rw[show aZ g.R g.C F'=F'.map λp=>(iK (sN g.R g.C p.1),p.2) from Z,Jn] at hk
  let⟨y,hy,ey⟩:=JH.mp hk
  let ey:(iK (sN g.R g.C y.1),y.2)=(k,v):=ey
  cases ey
  let hb:H' b>.tup ((sN g.R g.C y.1).map V.int):=by rw[<-cC];show hb
  let yM:y.1<g.M:=hT.lt y (Jl hy)
  let yF:dI g.R g.C F' (sN g.R g.C y.1)=true:=uJ S<|eX.mpr (JG (Jl hy))
  show gn ?_
  let⟨dx,p1,p4⟩:=B.same s2
  show cQ ⟨_,Z,s,dx,_,Z,p1,GS,_,Z,s,dx,d,b,_,de,sN g.R g.C y.1,hs,Z,p1,Er,DF,p4,hb,λH2 t s3 ht=>?_⟩
  show⟨t,_,1,_,Z,Z,bh.of ht,Z,?_⟩
  let M:=s2.trans s3
  let L:=I.same M
  let⟨c,c',Y,oc,oo,aa,_,O,_⟩:=id L
  show gT ?_
  show⟨_,Z,f,_,_,Z,Z,_,Z,O,?_⟩
  show zO (K:=K) S L (s3 _ _ hb) λl H3 s4 nl hl=>?_
  let⟨qs,J,zQ⟩:=hl
  let W:wY g F' (sN g.R g.C y.1)=fx g F' (sN g.R g.C y.1):=by unfold wY;rw[N1 yF]
  rw[W] at zQ
  let lq:↑qs=↑(fx g F' (sN g.R g.C y.1)):=Nb.length zQ
  let l6:=Ak g F' (sN g.R g.C y.1)
  show⟨l,Z,⟨_,aM.of J⟩,λD nD=>?_⟩
  let F:=M.trans s4
  show bf (K:=K) (xs:=qs.map V.ref) (λj τ H'=>∃x0 x1:Option V,τ=[x0,x1,some (.int (hv hs de (sN g.R g.C y.1)).2),some (.ref s)]/\au H3 H'/\H' D>.lst ((((fx g F' (sN g.R g.C y.1)).take j).map λx=>decide ((hv hs de (sN g.R g.C y.1)).2+x.2<(hv hs de x.1).1)).map V.bl))
   ⟨none,none,Z,(au.refl H3).upd nD,af⟩ (λi τ H' _ hz=>by let⟨_,_,_,z,_⟩:=hz;show aM.of (z _ _ J)) ?_ ?_
  ·rintro j u τ H5 hu ⟨x0,x1,rfl,s5,hD⟩
   let⟨a,ha,rfl⟩:=bJ hu
   let Z0:j<↑qs:=(Js.mp ha).1
   let⟨ca,va,ba,ec,g1,g2⟩:=EG zQ ha
   show⟨a,_,Z,bh.of (s5 _ _ g1),Z,_,_,Z,_,_,Z,Z,?_⟩
   show eT ?_
   let⟨dx,p1,p4⟩:=B.same (F.trans s5)
   show⟨_,Z,s,dx,_,Z,p1,GS,_,Z,s,dx,d,ba,_,de,ca,hs,Z,p1,Er,DF,p4,s5 _ _ g2,λH6 t6 s6 a2=>?_⟩
   show⟨t6,_,0,_,Z,Z,bh.of a2,Z,?_⟩
   show⟨_,Z,_,Z,_,_,Z,Z,?_⟩
   show⟨_,_,Z,Z,_,s6 _ _ hD,aL (by rw[Jb,Jb,JT];lia),_,_,Z,bE (s5.trans s6) nD,?_⟩
   rw[af,aN ec,Jf,Jf];rfl
  ·rintro τ H5 ⟨x0,x1,rfl,s5,hD⟩
   rw[Jb,lq,Jx] at hD
   show⟨D,_,Z,aM.of hD,_,Z,?_⟩
   rw[La]
   change if ((fx g F' (sN g.R g.C y.1)).any λx=>decide ((hv hs de (sN g.R g.C y.1)).2+x.2<(hv hs de x.1).1))=true then _ else _
   cases ea:((fx g F' (sN g.R g.C y.1)).any λx=>decide ((hv hs de (sN g.R g.C y.1)).2+x.2<(hv hs de x.1).1)) with
   |true=>show c9 ⟨(F.trans s5) _ _ ef,N _ false (F.trans s5) (by unfold GL;show(E1 hy (by rw[ea];rfl)).symm)⟩
   |false=>show cK ⟨_,_,Z,F.trans s5,zG hy A (by rw[ea];rfl)⟩
 ·rintro σ H' ⟨x4,x5,rfl,s2,A⟩
  rw[show nU (.dT (aZ g.R g.C F'))=↑F' from by change(aZ g.R g.C F').length=_;rw[eI],Jx] at A
  show⟨s2 _ _ ef,N H' true s2 A.symm⟩
theorem Ai (aa:aT P w K mg Oa "all_clear" 3 ["floor", "free", "spots"] (vt Od))(an:aT P w K mg Oa "wires_lie" 6 ["floor", "free", "thing", "wires", "price"] (DB Od cBundle))(Z0:bU P w K mg Oa cBundlePaper "ends_hold" 2 ["self", "bundle"] (vZ cBundlePaper cBundle))(Y:bU P w K mg Oa cBundlePaper "climbs_hold" 7 ["self", "floor", "free"] (oz K cBundlePaper Od)):mK P w K mg Oa 8 "holds" "BundlePaper.holds" zM ["self", "floor", "free", "thing"] (qf K cBundlePaper Od Oh cBundle):=by
 show rd ["self", "floor", "free", "thing", "rents"] λnd _ _ _ _ _ H vs Q E hr h=>?_
 let⟨s,wr,d,p,pr,vi,rd,td,e,t,x,de,hs,g,F',as,W,ob,rfl,hP,hF,hg,he,hT,nr,nt,r,N,M,hA,hw,hW,h3,lW,lH,hk,m,q⟩:=h
 show⟨_,(ak (bH (fT (dw (dq (bz gj T.isinstance_ (aC (ao 3) (iD (by rfl) T.mg_Bundle))))) (fy (dw (dq (bq an hr (av (ao 1) (av (ao 2) (av (ao 3) (aC (bI (ao 0) Z) (bI (ao 0) Z)))))))))).pt (aD cI)) (ak (bH (dw (dq (bq aa hr (av (ao 1) (aC (ao 2) (bI (ao 0) Z)))))) (aD cI)) (ak (bo 4 nd (bz (iQ Z) T.sum_ (aE (uL (il ["low", "high"] [] [] (oY (bI (ao 0) Z)) (gZ (K:=K) (n:=2) Z Z (aB (eU 0) (aB (eU 1) bT)) Z Z) dF (bz (kO Z) (by show T.max_) (aC (aA cV (ao 1) (ao 0)) ai))))))) (bc (bH (bS f9 (bI (ao 0) Z) (aA cV (aA dW (bz aO T.len_ (aE (bI (ao 3) Z))) (bI (ao 0) Z)) (ao 4))) (aD cI)) (aD (gu (cP (ao 0) T.cl_BundlePaper Z0 (hr.mono (by decide)) (aE (ao 3))) (gR (cP (ao 0) T.cl_BundlePaper Y (hr.mono (by decide)) (aC (ao 1) (ao 2)))))))))),?_⟩
 let U:N9=2^24:=rfl
 let no:∀H',au H H'->¬GP g F' W x de hs ob->Q (.bl false) H':=λH' s z=>q H' false (Bb.of s) (hA.same s) ⟨(λw=>by cases w),λw=>absurd w z⟩
 cases ob with
 |none=>
  let⟨dn,ns,n1⟩:=m
  show bO ⟨_,Z,_,_,_,_,_,Z,.ref cBundle,.ins n1 T.cl_Net T.qN T.qg T.qt T.oN,T.nb,_,Z,c9 (c9 (dy az (no H (au.refl H) id)))⟩
 |some y=>
  let⟨A,B⟩:=y
  let⟨hU,la,lb⟩:=m
  let la:↑A<=200:=la
  let lb:↑B<=200:=lb
  let⟨du,sa,ga,us,u1,u2,u3,u4,⟨O,C,L⟩,_⟩:=hU.ex
  let⟨dx,p1,p4⟩:=hP
  show bO ⟨_,Z,_,_,_,_,_,Z,.ref cBundle,.ins u1 T.cl_Bundle T.qB T.qg T.qt T.oB,T.b2,_,Z,cK ?_⟩
  show⟨_,Z,_,Z,_,Z,_,Z,s,cBundlePaper,dx,_,_,Z,p1,T.cl_BundlePaper,T.na_BundlePaper_wires,Ii,_,Z,s,cBundlePaper,dx,_,_,Z,p1,T.cl_BundlePaper,T.na_BundlePaper_price,G6,?_⟩
  show⟨t,p,pr,vi,rd,td,wr,e,g,as,W,A,B,F',x,Z,hF,hg,he,hw,hW,h3,lW,hU,la,lb,λH1 b s1 hb=>?_⟩
  show⟨_,Z,?_⟩
  cases b with
  |false=>show c9 (no _ s1 λz=>by have:=hb.mpr z.li;cases this)
  |true=>
  let li:=hb.mp Z
  show cK ?_
  show bO ?_
  show⟨_,Z,_,Z,_,Z,s,cBundlePaper,dx,_,_,Z,s1 _ _ p1,T.cl_BundlePaper,T.na_BundlePaper_heights,Er,?_⟩
  show⟨p,pr,vi,rd,td,e,d,g,F',hs,Z,hF.same s1,hg,s1 _ _ he,p4.same s1,r,N,M,hk,lH,λH2 s2=>?_⟩
  show⟨_,Z,?_⟩
  let a:=s1.trans s2
  cases ec:hs.all λq=>dI g.R g.C F' q.1&&jk g q.1 with
  |false=>show c9 (no _ a λz=>by have:=z.cl;rw[ec] at this;cases this)
  |true=>
  show cK ?_
  let R:qX cBundlePaper H2 s wr d x de hs:=⟨dx,a _ _ p1,p4.same a⟩
  let⟨ls,hh,hp⟩:=p4.same a
  let len:↑ls=↑hs:=Nb.length hp
  show cQ ⟨d,.dT (aJ ls),hh,trivial,λo=>?_⟩
  let sF:Sb d H2 (Oc H2 d (.frz o (.dT (aJ ls)))):=λb x nb eb=>by rw[aj nb];show eb
  let ef:Oc H2 d (.frz o (.dT (aJ ls))) d>.frz o (.dT (aJ ls)):=af
  let pF:Oc H2 d (.frz o (.dT (aJ ls))) s>.ins cBundlePaper dx (fB wr d x de):=fR hh sF (a _ _ p1) (λ_ z=>by cases z)
  let tF:∀b xs,H2 b>.tup xs->Oc H2 d (.frz o (.dT (aJ ls))) b>.tup xs:=λb xs z=>fR hh sF z (λ_ z=>by cases z)
  let f:∀{H3},au (Oc H2 d (.frz o (.dT (aJ ls)))) H3->au H2 (Oc H3 d (.dT (aJ ls))):=λs=>thaw hh s
  revert ef pF tF f
  generalize Oc H2 d (.frz o (.dT (aJ ls)))=HF
  intro ef pF tF f
  show⟨_,Z,s,cBundlePaper,dx,_,_,Z,pF,T.cl_BundlePaper,T.na_BundlePaper_heights,Er,d,o,_,Z,ef,trivial,λD nD=>?_⟩
  show rJ (u:=.dT (aJ ls)) (λi τ H'=>∃x0 x1:Option V,τ=[x0,x1]/\au HF H'/\H' D>.lst (((hs.take i).map λq=>max (q.2.2 - q.2.1) 0).map V.int))
   ⟨none,none,Z,(au.refl HF).upd nD,af⟩ (λi τ H' _ hz=>by let⟨_,_,_,z,_⟩:=hz;show z _ _ ef) ?_ ?_
  ·rintro i y v τ H' ⟨k,b,hk,rfl,hb⟩ hi ⟨x0,x1,rfl,s4,hD⟩
   let⟨c,hc,rfl⟩:=lI hk
   let⟨⟨c',lo,X⟩,hq,_,t',rfl,ht⟩:=gC hp hc
   let Ih:i<↑ls:=(Js.mp hc).1
   show⟨t',_,Z,bh.of (s4 _ _ (tF _ _ ht)),Z,_,_,Z,_,_,Z,Z,?_⟩
   show eT ?_
   show⟨_,Z,_,Z,_,_,Z,Z,_,_,Z,_,hD,aL (by rw[Jb,Jb,JT];lia),_,_,Z,bE s4 nD,?_⟩
   rw[af,aN hq,Jf,Jf,DO];rfl
  ·rintro τ H3 ⟨x0,x1,rfl,s4,hD⟩
   let J:nU (.dT (aJ ls))=↑hs:=by change(aJ ls).length=_;unfold aJ;rw[Jb,len]
   rw[J,Jx] at hD
   let S:Oc H3 d (.dT (aJ ls)) D>.lst ((hs.map λq=>max (q.2.2 - q.2.1) 0).map V.int):=aj (λz=>by rw[z,ef] at nD;cases nD)<|hD
   show⟨s4 _ _ ef,D,_,Z,aM.of S,?_⟩
   let s5:=f s4
   revert s5
   generalize Oc H3 d (.dT (aJ ls))=H5
   intro s5
   let s6:=a.trans s5
   let j:=R.same s5
   let⟨l,p5,p6⟩:=id j
   show bO ?_
   let F:↑O=↑A:=Nb.length L
   show⟨_,Z,s,cBundlePaper,l,_,_,Z,p5,T.cl_BundlePaper,T.na_BundlePaper_price,G6,?_⟩
   show⟨_,Z,t,cBundle,du,us,_,Z,s6 _ _ u1,T.cl_Bundle,T.na_Bundle_starts,u2,_,_,Z,.inr ⟨_,bh.of (s6 _ _ C),Z⟩,?_⟩
   show⟨_,Z,s,cBundlePaper,l,_,_,Z,p5,T.cl_BundlePaper,T.na_BundlePaper_depth,DF,_,_,Z,Z,?_⟩
   show⟨A_ () (by rw[Jb];lia),_,Z,_,_,Z,Z,Z,_,Z,?_⟩
   rw[Jb,F]
   by_cases hx:x=(↑A:Nat)*de - m8 hs
   ·rw[show decide (V.int x=V.int ((↑A:Nat)*de - (hs.map λq=>max (q.2.2 - q.2.1) 0).sum))=true from N3 (congrArg V.int hx)]
    show cK ?_
    show dr ⟨_,Z,s,l,_,Z,p5,II,_,Z,s,t,wr,x,de,hs,A,B,Z,j.pp,hU.same s6,la,lb,λH6 s7=>?_⟩
    show⟨_,Z,?_⟩
    let s8:=s6.trans s7
    cases en:(!(A.any λc=>decide (0<(hv hs de c).1))&&B.all λc=>decide (de<=(hv hs de c).2)) with
    |false=>show cK (no _ s8 λz=>by have:=z.en;rw[en] at this;cases this)
    |true=>
     let⟨I,p7,p8⟩:=j.same s7
     show c9 ⟨_,Z,s,I,_,Z,p7,IW,_,Z,_,Z,s,wr,d,p,pr,vi,rd,td,e,x,de,hs,g,F',Z,j.same s7,hF.same s8,hg,s8 _ _ he,hT,nr,nt,hA.same s8,r,λH7 sb bb=>?_⟩
     show q _ _ (λb y nb eb=>sb _ _ nb (s8 _ _ eb)) bb ?_
     show⟨λz=>⟨li,ec,hx,en,z⟩,λz=>z.cb⟩
   ·rw[show decide (V.int x=V.int ((↑A:Nat)*de - (hs.map λq=>max (q.2.2 - q.2.1) 0).sum))=false from N5 (λz=>hx (by injection z))]
    show c9 (no _ s6 λz=>hx z.re)
theorem BA:jo P w K mg Oa 1 "_law_cell_at" Di ["script", "k"] (eE K):=by
 show rd ["script", "k"] λnd _ _ _ _ _ H vs Q E hr h=>?_
 let⟨a,ns,i,rfl,ha,q⟩:=h
 show⟨_,(bc (bH (bS mV (ao 1) (bz aO T.len_ (aE (ao 0)))) (aD (aP aF (ao 0) (ao 1)))) (aD ai)),?_⟩
 show jt (aI (aQ ∅ (dH (ag ∅ aw) λQ' g=>⟨_,_,Z,by first|show .inl ⟨_,by assumption,Z⟩|show .inl ⟨_,aM.of (by assumption),Z⟩|show .inr ⟨_,by assumption,Z⟩|show .inr ⟨_,bh.of (by assumption),Z⟩,g⟩))) (λe=>?_) (λe=>?_)
 ·let c:(i:Int)<(↑(ns.map V.int):Int):=N4 e
  rw[Jb] at c
  let d:i<ns.length:=by omega
  show dy (c8 (v:=.int (bZ ns i)) ∅ ∅ ha (bC ?_)) q
  rw[Jn,JI d]
  unfold bZ
  rw[JP,JI d];rfl
 ·let b:¬(i:Int)<(↑(ns.map V.int):Int):=N6 e
  rw[Jb] at b
  let f:bZ ns i=0:=by
   unfold bZ
   rw[JP,LO (by omega)];rfl
  rw[f] at q
  show q
theorem EW:jo P w K mg Oa 1 "_law_mix" Fk ["cell", "k", "prime"] pV:=by
 show rd ["cell", "k", "prime", "mixed"] λnd _ _ _ _ _ H vs Q E hr h=>?_
 let⟨c,k,p,rfl,d,p2,q⟩:=h
 show⟨_,(bc (bo 3 nd (aA a_ (aA dW (aA aX (aA aX (aA a_ (ao 0) (ao 2)) (aA dW ai (ao 1))) ai) ai) (ao 2))) (aD (aA a_ (aA dW (ao 3) (ao 3)) ai))),?_⟩
 show bV (v:=.int ((c%p+31*k+7)*48271%p)) (bM (bM (aQ (aQ (bM ∅ ∅ (by change(0:Int)<p;lia)) (bM az ∅ (A_ (by decide) (by decide)))) az) az (E_ (by decide) (by decide))) ∅ (by change(0:Int)<p;lia)) ?_
 let b:=JO ((c%p+31*k+7)*48271) (show p≠0 by lia)
 let a:=JQ ((c%p+31*k+7)*48271) (show 0<p by lia)
 revert b a
 generalize (c%p+31*k+7)*48271%p=m
 intro b a
 show dy (bM (bM ∅ ∅ (E_ () ())) az (by change(0:Int)<2147483647;decide)) (q _ (JO _ (by decide)))
theorem yK:jo P w K mg Oa 1 "_law_price" yT ["cell"] iy:=by
 show rd ["cell"] λnd _ _ _ _ _ H vs Q E hr h=>?_
 let⟨c,rfl,q⟩:=h
 show⟨_,(bc (bH (bS cT (aA a_ (ao 0) ai) ai) (aD (aA aX ai (aA a_ (aA dO (ao 0) ai) ai)))) (aD (aA aX ai (aA a_ (aA dO (ao 0) ai) (aA kP ai ai))))),?_⟩
 show gH (aI (dY (bM ∅ az (by first|(change(0:Int)<_;lia)|(change(0:Int)<_;decide))) az)) (λe=>?_) (λe=>?_)
 ·show dy (aQ az (bM (bM ∅ az (zo () ())) az (by first|(change(0:Int)<_;lia)|(change(0:Int)<_;decide)))) (q _ (by have:=JO (c/2) (show(6:Int)≠0 by decide);lia) (by have:=JQ (c/2) (show(0:Int)<6 by decide);lia))
 ·let a:(10:Int)^(12:Int).toNat=1000000000000:=by decide
  let b:Q (.int (1+c/2%10^(12:Int).toNat)) H:=by
   rw[a]
   show q _ (by have:=JO (c/2) (show(1000000000000:Int)≠0 by decide);lia) (by have:=JQ (c/2) (show(0:Int)<1000000000000 by decide);lia)
  show dy (aQ az (bM (bM ∅ az (zo () ())) (bM (i:=10) (j:=12) az az (Fc (by decide) (by decide) (by decide))) (by change(0:Int)<10^(12:Int).toNat;decide))) b
theorem xf:jo P w K mg Oa 1 "_law_beside" vj ["doors", "spot"] iz:=by
 show rd ["doors", "spot", "found", "turn", "other"] λnd _ _ _ _ _ H vs Q E hr h=>?_
 let⟨d,b,g,F',x,y,w,rfl,hd,hb,q⟩:=h
 show⟨_,(ak (bo 2 nd (bB cO)) (bc (dU (bF (bB (av (aS (av (mn jz ai) (aC ai ai))) (av (aS (av ai (aC (mn jz ai) ai))) (av (aS (av ai (aC ai (mn jz ai)))) (av (aS (av ai (aC ai ai))) (aC (aS (av ai (aC ai ai))) (aS (av ai (aC ai ai)))))))))) (bp 3 nd) (bc (bo 4 nd (aS (av (aA aX (aP aH (ao 1) ai) (aP aH (ao 3) ai)) (aC (aA aX (aP aH (ao 1) ai) (aP aH (ao 3) ai)) (aA aX (aP aH (ao 1) ai) (aP aH (ao 3) ai)))))) (bH (gw (f_ (aR.one hr) (ao 4) (ao 0))) (aV (bR JR J1 J2 bL (ao 2) (aE (ao 4))))))) (aD (ao 2)))),?_⟩
 let F:N9=2^24:=rfl
 show cQ (gY (vs:=[]) aw (Ju _) λG nG=>?_)
 let s1:au H (Oc H G (.lst [])):=(au.refl H).upd nG
 let f:Oc H G (.lst []) G>.lst (([]:-N8).map V.ref):=af
 revert s1 f
 generalize Oc H G (.lst [])=H1
 intro s1 f
 let dS:(3:Nat)<=N9:=by decide
 show CJ (fX ?_)
 show fz (vs:=[.int (-1),.int 0,.int 0]) (ag (tL (i:=1) az) (ag az (ag az aw))) dS λA1 ar=>?_
 let Z0:au H1 (Oc H1 A1 (.tup [.int (-1),.int 0,.int 0])):=(au.refl H1).upd ar
 let y1:Oc H1 A1 (.tup [.int (-1),.int 0,.int 0]) A1>.tup (([-1,0,0]:T3).map V.int):=af
 revert Z0 y1
 generalize Oc H1 A1 (.tup [.int (-1),.int 0,.int 0])=H2
 intro Z0 y1
 show fz (vs:=[.int 0,.int (-1),.int 0]) (ag az (ag (tL (i:=1) az) (ag az aw))) dS λA2 a0=>?_
 let Y:au H2 (Oc H2 A2 (.tup [.int 0,.int (-1),.int 0])):=(au.refl H2).upd a0
 let y2:Oc H2 A2 (.tup [.int 0,.int (-1),.int 0]) A2>.tup (([0,-1,0]:T3).map V.int):=af
 revert Y y2
 generalize Oc H2 A2 (.tup [.int 0,.int (-1),.int 0])=T
 intro Y y2
 show fz (vs:=[.int 0,.int 0,.int (-1)]) (ag az (ag az (ag (tL (i:=1) az) aw))) dS λA3 bb=>?_
 let t3:au T (Oc T A3 (.tup [.int 0,.int 0,.int (-1)])):=(au.refl T).upd bb
 let y3:Oc T A3 (.tup [.int 0,.int 0,.int (-1)]) A3>.tup (([0,0,-1]:T3).map V.int):=af
 revert t3 y3
 generalize Oc T A3 (.tup [.int 0,.int 0,.int (-1)])=S
 intro t3 y3
 show fz (vs:=[.int 0,.int 0,.int 1]) (ag az (ag az (ag az aw))) dS λA4 bd=>?_
 let t4:au S (Oc S A4 (.tup [.int 0,.int 0,.int 1])):=(au.refl S).upd bd
 let y4:Oc S A4 (.tup [.int 0,.int 0,.int 1]) A4>.tup (([0,0,1]:T3).map V.int):=af
 revert t4 y4
 generalize Oc S A4 (.tup [.int 0,.int 0,.int 1])=X
 intro t4 y4
 show fz (vs:=[.int 0,.int 1,.int 0]) (ag az (ag az (ag az aw))) dS λA5 be=>?_
 let t5:au X (Oc X A5 (.tup [.int 0,.int 1,.int 0])):=(au.refl X).upd be
 let y5:Oc X A5 (.tup [.int 0,.int 1,.int 0]) A5>.tup (([0,1,0]:T3).map V.int):=af
 revert t5 y5
 generalize Oc X A5 (.tup [.int 0,.int 1,.int 0])=W
 intro t5 y5
 show fz (vs:=[.int 1,.int 0,.int 0]) (ag az (ag az (ag az aw))) dS λA6 bl=>?_
 let t6:au W (Oc W A6 (.tup [.int 1,.int 0,.int 0])):=(au.refl W).upd bl
 let y6:Oc W A6 (.tup [.int 1,.int 0,.int 0]) A6>.tup (([1,0,0]:T3).map V.int):=af
 revert t6 y6
 generalize Oc W A6 (.tup [.int 1,.int 0,.int 0])=U
 intro t6 y6
 show⟨(by change 6<=N9;decide),λL nL=>⟨L,Z,⟨_,aM.of af⟩,?_⟩⟩
 let t7:au U (Oc U L (.lst [.ref A1,.ref A2,.ref A3,.ref A4,.ref A5,.ref A6])):=(au.refl U).upd nL
 let hL:Oc U L (.lst [.ref A1,.ref A2,.ref A3,.ref A4,.ref A5,.ref A6]) L>.lst ([A1,A2,A3,A4,A5,A6].map V.ref):=af
 revert t7 hL
 generalize Oc U L (.lst [.ref A1,.ref A2,.ref A3,.ref A4,.ref A5,.ref A6])=H8
 intro t7 hL
 let u6:=t6.trans t7
 let u5:=t5.trans u6
 let u4:=t4.trans u5
 let u3:=t3.trans u4
 let u2:=Y.trans u3
 let u1:=Z0.trans u2
 let hT:bG H8 [A1,A2,A3,A4,A5,A6] Hg:=.cons (u2 _ _ y1) (.cons (u3 _ _ y2) (.cons (u4 _ _ y3) (.cons (u5 _ _ y4) (.cons (u6 _ _ y5) (.cons (t7 _ _ y6) .nil)))))
 let B:=u1 _ _ f
 let s8:=s1.trans u1
 let D:L≠G:=λz=>by rw[z,(Z0.trans (Y.trans (t3.trans (t4.trans (t5.trans t6))))) _ _ f] at nL;cases nL
 let j:∀{a:N8} {o:HO},H a>o->a≠G:=λe z=>by rw[z,nG] at e;cases e
 show bf (K:=K) (xs:=[A1,A2,A3,A4,A5,A6].map V.ref) (λi σ H'=>∃(x3 x4:Option V) (J:-N8),σ=[some (.ref d),some (.ref b),some (.ref G),x3,x4]/\Sb G H8 H'/\H' G>.lst (J.map V.ref)/\bG H' J (((uO x y w).take i).filter (dI g.R g.C F'))/\↑J<=i) ⟨none,none,[],Z,Sb.refl G H8,B,.nil,Jd _⟩ (λi σ H' _ ⟨_,_,_,_,sb,_⟩=>aM.of (sb _ _ D hL)) ?_ ?_
 ·rintro i v σ H' hv ⟨x3,x4,J,rfl,sb,N,k,hl⟩
  let⟨a,ha,rfl⟩:=bJ hv
  let⟨c,hc,A⟩:=br hT ha
  let hi:i<6:=(Js.mp ha).1
  let⟨p,M,r,rfl,u⟩:=E7 (x:=x) (y:=y) (w:=w) hc
  let m:H' a>.tup [.int p,.int M,.int r]:=sb _ _ (bu A B (λz=>nomatch z)) A
  let l:H' b>.tup [.int x,.int y,.int w]:=sb _ _ (j hb) (s8 _ _ hb)
  let C:Rd H' d (.dT (aZ g.R g.C F')):=by
   rcases hd with z|⟨o,z⟩
   ·show .inl (sb _ _ (j z) (s8 _ _ z))
   ·show .inr ⟨o,sb _ _ (j z) (s8 _ _ z)⟩
  show gn ?_
  show cQ (pS (vs:=[.int (x+p),.int (y+M),.int (w+r)]) (ag (aQ (cf (v:=.int x) ∅ az (bh.of l) Z) (cf (v:=.int p) ∅ az (bh.of m) Z)) (ag (aQ (cf (v:=.int y) ∅ az (bh.of l) Z) (cf (v:=.int M) ∅ az (bh.of m) Z)) (ag (aQ (cf (v:=.int w) ∅ az (bh.of l) Z) (cf (v:=.int r) ∅ az (bh.of m) Z)) aw))) dS λO nO=>?_)
  let I:au H' (Oc H' O (.tup [.int (x+p),.int (y+M),.int (w+r)])):=(au.refl H').upd nO
  let hO:Oc H' O (.tup [.int (x+p),.int (y+M),.int (w+r)]) O>.tup (([x+p,y+M,w+r]:T3).map V.int):=af
  revert I hO
  generalize Oc H' O (.tup [.int (x+p),.int (y+M),.int (w+r)])=H9
  intro I hO
  let n:Sb G H8 H9:=sb.trans (Sb.of I)
  show jt (fg (c:=dI g.R g.C F' [x+p,y+M,w+r]) (uj (lX ∅ ∅ (dg (x:=[x+p,y+M,w+r]) (Ci C I) hO))) Z) (λe=>?_) (λe=>?_)
  ·show⟨_,Z,.inl ⟨Z,_,aM.of (I _ _ N)⟩,_,Z,G,_,_,Z,Z,I _ _ N,by rw[Jb];lia,_,_,J++[O],Z,n.set,by rw[af,Jf];rfl,?_,by rw[Jo];change ↑J+1<=_;lia⟩
   rw[yy u,N1 e]
   show rT (ay (ay k λb xs z=>I _ _ z) (bj (I _ _ N))) (.cons (bj (I _ _ N) _ _ hO) .nil)
  ·show⟨_,_,J,Z,n,I _ _ N,?_,()⟩
   rw[yy u,N0 (by rw[e];decide),Km]
   show ay k λb xs z=>I _ _ z
 ·rintro σ H' ⟨x3,x4,J,rfl,sb,N,k,hl⟩
  let sH:au H H':=λa o e=>sb _ _ (j e) (s8 _ _ e)
  show st (dy ∅ (q H' G sH nG ⟨J,N,k⟩))
theorem y9 (S:aT P w K mg Oa "_law_cell_at" 1 ["script", "k"] (eE K))(aa:aT P w K mg Oa "_law_mix" 1 ["cell", "k", "prime"] pV):jo P w K mg Oa 2 "_law_lanes" Aw ["script"] (vH K):=by
 show rd ["script", "lanes", "layer", "row", "many", "picked", "k"] λnd _ _ _ _ _ H vs Q E hr h=>?_
 let⟨a,ns,rfl,ha,q⟩:=h
 show⟨_,(ak (bo 1 nd (bB cO)) (ak (dU (uN T.range_ (aE (aA aX ai (aA a_ (bq S hr (aC (ao 0) ai)) ai)))) (bp 2 nd) (a9 (dU (uN T.range_ (aE (aA aX ai (aA a_ (bq S hr (aC (ao 0) ai)) ai)))) (bp 3 nd) (a9 (aV (bR JR J1 J2 bL (ao 1) (aE (aS (aC (ao 2) (ao 3)))))))))) (ak (bo 4 nd (aA aX ai (aA a_ (bq S hr (aC (ao 0) ai)) (bz (kz Z) T.min_ (aC ai (bz aO T.len_ (aE (ao 1)))))))) (ak (bo 5 nd (bB cO)) (bc (dU (uN T.range_ (aE (ao 4))) (bp 6 nd) (a9 (aV (bR JR J1 J2 bL (ao 5) (aE (bR JR PySem.F.slot_list_pop PySem.F.type_list_pop yr (ao 1) (aE (aA a_ (bq aa hr (av (bq S hr (aC (ao 0) ai)) (aC (ao 6) ai))) (bz aO T.len_ (aE (ao 1))))))))))) (aD (aS (aC (ao 5) (ao 1))))))))),?_⟩
 let O:N9=2^24:=rfl
 let hL:=jI ns
 let hR:=vp ns
 let hN:=m9 ns
 show cQ (gY (vs:=[]) aw (Ju _) λR nR=>?_)
 let s1:au H (Oc H R (.lst [])):=(au.refl H).upd nR
 let B:Oc H R (.lst []) R>.lst []:=af
 revert s1 B
 generalize Oc H R (.lst [])=H1
 intro s1 B
 show vA (j:=((Lz ns:Nat):Int)) (ag (cA (aQ az (bM (bK 0 (ag ∅ (ag az aw)) (s1.seq ha)) az (by change(0:Int)<2;decide))) (by rw[hL.1])) aw) () () ?_
 show eO (n:=((Lz ns:Nat):Int).toNat) (λi σ H'=>∃x2 Z0:Option V,σ=[some (.ref a),some (.ref R),x2,Z0,none,none,none]/\au H H'/\∃as:-N8,H' R>.lst (as.map V.ref)/\bG H' as (mZ (Rz ns) (i*Rz ns))) ⟨none,none,Z,s1,[],B,Nat.zero_mul<|.nil⟩ ?_ ?_
 ·rintro i σ H' hi ⟨x2,Z0,rfl,s,as,W,f⟩
  let hi:i<Lz ns:=by simpa using hi
  show gn ?_
  show jZ (j:=((Rz ns:Nat):Int)) (ag (cA (aQ az (bM (bK 1 (ag ∅ (ag az aw)) (s.seq ha)) az (by change(0:Int)<4;decide))) (by rw[hR.1])) aw) () () ?_
  show eO (n:=((Rz ns:Nat):Int).toNat) (λj σ H'=>∃Z0:Option V,σ=[some (.ref a),some (.ref R),some (.int (0+(i:Int))),Z0,none,none,none]/\au H H'/\∃as:-N8,H' R>.lst (as.map V.ref)/\bG H' as (mZ (Rz ns) (i*Rz ns+j))) ⟨Z0,Z,s,as,W,f⟩ ?_ ?_
  ·rintro j σ H' hj ⟨Z0,rfl,s,as,W,f⟩
   let hj:j<Rz ns:=by simpa using hj
   let M:↑as=i*Rz ns+j:=by rw[Nb.length f,nX]
   let N:i*Rz ns<=2*4:=LG () ()
   show gn ?_
   show⟨_,Z,.inl ⟨Z,_,aM.of W⟩,?_⟩
   show fz (vs:=[.int (0+(i:Int)),.int (0+(j:Int))]) (ag ∅ (ag ∅ aw)) (by change 2<=N9;decide) λP nP=>?_
   let F:P≠R:=Jr (aq W nP)
   show⟨R,_,_,Z,Z,aj (Jr F)<|W,by rw[Jb];lia,_,Z,bE (s.upd nP) nR,as++[P],by rw[af,Jf];rfl,?_⟩
   rw[show i*Rz ns+(j+1)=i*Rz ns+j+1 from Z,tR,FG hj]
   show cG (ay f (fL W nP)) (.cons ?_ .nil)
   change Oc (Oc H' P _) R _ P=_
   rw[aj F,af,Ki,Ki];rfl
  ·rintro σ H' ⟨Z0,rfl,s,as,W,f⟩
   show⟨_,_,Z,s,as,W,?_⟩
   rw[Nat.add_mul,Nat.one_mul]
   show f
 ·rintro σ H2 ⟨x2,Z0,rfl,s2,as,C,h2⟩
  rw[show((Lz ns:Nat):Int).toNat*Rz ns=Nz ns by unfold Nz;rw[Kn]] at h2
  let la:↑as=Nz ns:=by rw[Nb.length h2,nX]
  show st ?_
  let⟨m,em,m1,m6,mN,m0⟩:=BK ns
  show bV (v:=.int (m:Int)) (cA (aQ az (bM (bK 3 (ag ∅ (ag az aw)) (s2.seq ha)) (dH (v:=.int (if ((Nz ns:Nat):Int)<6 then ((Nz ns:Nat):Int) else 6)) (ag az (ag (cD (K:=K) ∅ C) aw)) λQ' q'=>⟨_,_,Z,Jb<|la<|q'⟩) m0)) (congrArg V.int em)) ?_
  show cQ (gY (vs:=[]) aw (Ju _) λG nG=>?_)
  let p:au H2 (Oc H2 G (.lst [])):=(au.refl H2).upd nG
  let A:Oc H2 G (.lst []) G>.lst (([]:-N8).map V.ref):=af
  revert p A
  generalize Oc H2 G (.lst [])=H3
  intro p A
  let s3:=s2.trans p
  let I:R≠G:=aq C nG
  let D:∀{b:N8} {o:HO},H b>o->b∉[R,G]:=fun{b o} e z=>by
   rcases Jk.mp z with z|z
   ·rw[z,nR] at e;cases e
   ·rw[Jg.mp z] at e
    rw[s2 _ _ e] at nG;cases nG
  show vA (j:=(m:Int)) (ag ∅ aw) () () ?_
  show eO (n:=(m:Int).toNat) (λi σ H'=>∃(x6:Option V) (U fa:-N8) (X Y:-Nat),σ=[some (.ref a),some (.ref R),x2,Z0,some (.int (m:Int)),some (.ref G),x6]/\Bt [R,G] H3 H'/\H' R>.lst (U.map V.ref)/\H' G>.lst (fa.map V.ref)/\bG H' U (X.map (lN (Rz ns)))/\bG H' fa (Y.map (lN (Rz ns)))/\(Y++X).Perm (List.range (Nz ns))/\↑Y=i)
   ⟨none,as,[],List.range (Nz ns),[],Z,Bt.refl _ _,p _ _ C,A,ay h2 (λb xs z=>p _ _ z),.nil,List.Perm.refl _,Z⟩ ?_ ?_
  ·rintro i σ H' hi ⟨x6,U,fa,X,Y,rfl,bt,d,W,g,u,hp,hl⟩
   let hi:i<m:=by simpa using hi
   let lr:↑U=↑X:=by rw[Nb.length g,Jb]
   let lf:↑fa=↑Y:=by rw[Nb.length u,Jb]
   let lp:↑Y+↑X=Nz ns:=by have:=hp.length_eq;rw[Jo,Ks] at this;show this
   let L:aM K H' a (ns.map V.int):=mJ ha λo z=>bt _ _ (D z) (s3 _ _ z)
   show gn ?_
   show⟨_,Z,.inl ⟨Z,_,aM.of W⟩,?_⟩
   show cE ⟨_,Z,.inl ⟨Z,_,aM.of d⟩,?_⟩
   show cE ?_
   show qo (m:=((↑U:Nat):Int)) (qE (ag (bK 3 (ag ∅ (ag az aw)) L) (ag ∅ (ag az aw))) (by decide) (by decide)) (dH (v:=.int ((↑U:Nat):Int)) (ag ∅ aw) λQ' q'=>⟨_,_,Z,.inl ⟨_,aM.of d,(by rw[Jb])⟩,q'⟩) () _ λv hv=>?_
   let⟨v0,v1⟩:=hv
   let hk:v.toNat<↑X:=by lia
   obtain⟨b,hb⟩:∃b,U[v.toNat]?>b:=⟨_,JI ()⟩
   let⟨c,hc,J⟩:=br g hb
   rw[Jn,JI hk] at hc
   let hc:c=lN (Rz ns) X[v.toNat]:=(Option.some.inj hc).symm
   show⟨R,_,v,v.toNat,.ref b,Z,Z,d,(),(),seqIndex_of v0 (Jb<|v1),by rw[Jn,hb];rfl,?_⟩
   let x:=bt.set (l:=R) (y:=.lst ((U.map V.ref).eraseIdx v.toNat)) (by simp)
   let r:Oc H' R (.lst ((U.map V.ref).eraseIdx v.toNat)) R>.lst ((U.eraseIdx v.toNat).map V.ref):=by rw[af,fi]
   let k:Oc H' R (.lst ((U.map V.ref).eraseIdx v.toNat)) G>.lst (fa.map V.ref):=aj (Jr I)<|W
   let kt:∀b xs,H' b>.tup xs->Oc H' R (.lst ((U.map V.ref).eraseIdx v.toNat)) b>.tup xs:=bj d
   revert x r k kt
   generalize Oc H' R (.lst ((U.map V.ref).eraseIdx v.toNat))=H5
   intro x r k kt
   show⟨G,_,_,Z,Z,k,by rw[Jb];lia,?_⟩
   show⟨_,U.eraseIdx v.toNat,fa++[b],X.eraseIdx v.toNat,Y++[X[v.toNat]],Z,x.set (by simp),aj I<|r,by rw[af,Jf];rfl,?_,?_,?_,by rw[Jo,hl];rfl⟩
   ·have:=sW (ay g kt) v.toNat
    rw[fi] at this
    show ay this (bj k)
   ·rw[Jf]
    show ay (cG (ay u kt) (.cons ?_ .nil)) (bj k)
    rw[<-hc]
    show kt _ _ J
   ·rw[List.append_assoc]
    show(List.Perm.append_left Y (tM hk)).trans hp
  ·rintro σ H' ⟨x6,U,fa,X,Y,rfl,bt,d,W,g,u,hp,hl⟩
   let sH:au H H':=λb o e=>bt _ _ (D e) (s3 _ _ e)
   show st ?_
   show dr (cS [.ref G,.ref R] (ag ∅ (ag ∅ aw)) (by change 2<=1000;decide) λt H6 s6 nt ht=>?_)
   show q H6 t G R Y X (sH.trans s6) ht ⟨fa,s6 _ _ W,ay u λ_ _ z=>s6 _ _ z⟩ ⟨U,s6 _ _ d,ay g λ_ _ z=>s6 _ _ z⟩ (s2.free nG) nR hp (by rw[hl];simp;lia) (by rw[hl];simp;lia)
theorem xV (a5:aT P w K mg Oa "_law_mix" 1 ["cell", "k", "prime"] pV):jo P w K mg Oa 2 "_law_strewn" vC ["script", "columns", "other", "toll"] (r_ K):=by
 show rd ["script", "columns", "other", "toll", "rocks", "shut", "tolls", "k", "lane", "spot", "kind"] λnd _ _ _ _ _ H vs Q E hr h=>?_
 let⟨a,o,ns,aW,rj,rfl,ha,hn,⟨B,l1,l2⟩,jn,j8,t0,t1,q⟩:=h
 show⟨_,(ak (bo 4 nd (bB cO)) (ak (bo 5 nd fJ) (ak (bo 6 nd fJ) (ak (bH (bS cT (bz aO T.len_ (aE (ao 2))) ai) (aD (aS (av (ao 4) (aC (ao 5) (ao 6)))))) (bc (dU (xK (by rfl) T.range_ (aC ai (bz aO T.len_ (aE (ao 0))))) (bp 7 nd) (ak (bo 8 nd (aP aF (ao 2) (aA a_ (bq a5 hr (av (aP aF (ao 0) (ao 7)) (aC (ao 7) ai))) (bz aO T.len_ (aE (ao 2)))))) (ak (bo 9 nd (aA fc (ao 8) (aS (aE (aA a_ (bq a5 hr (av (aP aF (ao 0) (ao 7)) (aC (ao 7) ai))) (ao 1)))))) (bc (bo 10 nd (aA a_ (bq a5 hr (av (aP aF (ao 0) (ao 7)) (aC (ao 7) ai))) ai)) (sP (bS cT (ao 10) ai) (a9 (aV (bR JR J1 J2 bL (ao 4) (aE (ao 9))))) (a9 (sP (bS cT (ao 10) ai) (a9 (eZ (aR.one hr) (ao 5) (ao 9) cI (by rfl))) (a9 (eZ (aR.one hr) (ao 6) (ao 9) (bz (kz Z) T.min_ (aC (aA kP ai ai) (aA aX (ao 3) (aA a_ (aP aF (ao 0) (ao 7)) (aP aF (bB (aC ai (aA kP ai ai))) (aA a_ (ao 10) ai)))))) (by rfl)))))))))) (aD (aS (av (ao 4) (aC (ao 5) (ao 6)))))))))),?_⟩
 let a2:N9=2^24:=rfl
 let Z0:=kW ns
 let hC:=kZ ns
 let BV:=BV ns
 let ll:↑B=↑rj:=by rw[Nb.length l2,Jb]
 show cQ (gY (vs:=[]) aw (Ju _) λG nG=>?_)
 let s1:au H (Oc H G (.lst [])):=(au.refl H).upd nG
 let C:Oc H G (.lst []) G>.lst (([]:-N8).map V.ref):=af
 revert s1 C
 generalize Oc H G (.lst [])=H1
 intro s1 C
 show cQ λd nd=>?_
 let F:au H1 (Oc H1 d (.dT [])):=(au.refl H1).upd nd
 let M:Oc H1 d (.dT []) d>.dT (aZ (Rz ns) (Cz ns) []):=af
 revert F M
 generalize Oc H1 d (.dT [])=H2
 intro F M
 show cQ λe ne=>?_
 let I:au H2 (Oc H2 e (.dT [])):=(au.refl H2).upd ne
 let N:Oc H2 e (.dT []) e>.dT (aZ (Rz ns) (Cz ns) []):=af
 revert I N
 generalize Oc H2 e (.dT [])=H3
 intro I N
 let s2:=s1.trans F
 let s3:=s2.trans I
 let an:=I _ _ (F _ _ C)
 let aa:=I _ _ M
 let ap:G≠d:=aq C nd
 let ab:G≠e:=aq (F _ _ C) ne
 let U:d≠e:=aq M ne
 let fd:H d=none:=s1.free nd
 let fe:H e=none:=s2.free ne
 let ah:∀{b:N8} {o:HO},H b>o->b∉[G,d,e]:=fun{b o} z m=>by
  simp only[Jk,JJ,or_false] at m
  rcases m with m|m|m
  ·rw[m,nG] at z;cases z
  ·rw[m,fd] at z;cases z
  ·rw[m,fe] at z;cases z
 let am:∀{D:jf} {σ:St} {H':Hp} (ga:-N8) (rs:-Nat) (S ts:-(Nat×V)),σ[4]?>some (.ref G)->σ[5]?>some (.ref d)->σ[6]?>some (.ref e)->Bt [G,d,e] H3 H'->H' G>.lst (ga.map V.ref)->H' d>.dT (aZ (Rz ns) (Cz ns) S)->H' e>.dT (aZ (Rz ns) (Cz ns) ts)->bG H' ga (rs.map (sN (Rz ns) (Cz ns)))->Tb (Nz ns*Cz ns) S->Tb (Nz ns*Cz ns) ts->TV ts->(∀k∈rs,On (Cz ns) rj k)->↑rs<=51->(∀p∈S,On (Cz ns) rj p.1)->D.rt=Q->zL (p_ (bX (cR 4) (bX (cR 5) (bX (cR 6) fE)))) D σ H':=fun{D σ H'} ga rs S ts e4 e5 e6 bt hG hd he A hT f hv g hl hS hD=>by
  let sH:au H H':=λb o z=>bt _ _ (ah z) (s3 _ _ z)
  show dr (cS [.ref G,.ref d,.ref e] (ag (ae e4) (ag (ae e5) (ag (ae e6) aw))) (by change 3<=1000;decide) λt H6 s6 nt ht=>?_)
  rw[hD]
  show q H6 t G d e rs S ts (sH.trans s6) ht ⟨ga,s6 _ _ hG,ay A λb xs z=>s6 _ _ z⟩ (s6 _ _ hd) (s6 _ _ he) hT f hv g hl hS nG fd fe U
 show gH (aI (dY (cD (K:=K) ∅ (s3 _ _ l1)) az)) (λ_=>?_) (λb3=>?_)
 ·show am [] [] [] [] Z Z Z (Bt.refl _ _) an aa N .nil Tb.nil Tb.nil (λ_ h=>by cases h) (λ_ h=>by cases h) (Ju _) (λ_ h=>by cases h) Z
 let a0:0<↑B:=by
  have:=N6 b3
  rw[Jb] at this
  lia
 show Bz (i:=12) (j:=(ns.length:Nat)) (ag az (ag (dH (v:=.int (ns.length:Nat)) (ag ∅ aw) λQ' q'=>⟨_,_,Z,.inl ⟨_,s3.seq ha,(by rw[Jb])⟩,q'⟩) aw)) ⟨(),(),(),()⟩ ?_
 show eO (n:=((ns.length:Int) - 12).toNat) (λi σ H'=>∃(x7 x8 x9 W:Option V) (ga:-N8) (rs:-Nat) (S ts:-(Nat×V)),σ=[some (.ref a),some (.int (Cz ns:Nat)),some (.ref o),some (.int aW),some (.ref G),some (.ref d),some (.ref e),x7,x8,x9,W]/\Bt [G,d,e] H3 H'/\H' G>.lst (ga.map V.ref)/\H' d>.dT (aZ (Rz ns) (Cz ns) S)/\H' e>.dT (aZ (Rz ns) (Cz ns) ts)/\bG H' ga (rs.map (sN (Rz ns) (Cz ns)))/\Tb (Nz ns*Cz ns) S/\Tb (Nz ns*Cz ns) ts/\TV ts/\(∀k∈rs,On (Cz ns) rj k)/\↑rs<=i/\(∀p∈S,On (Cz ns) rj p.1))
  ⟨none,none,none,none,[],[],[],[],Z,Bt.refl _ _,an,aa,N,.nil,Tb.nil,Tb.nil,(λ_ h=>by cases h),(λ_ h=>by cases h),Jd _,(λ_ h=>by cases h)⟩ ?_ ?_
 ·rintro i σ H' hi ⟨x7,x8,x9,W,ga,rs,S,ts,rfl,bt,hG,hd,he,A,hT,f,hv,g,hl,hS⟩
  let a3:i<51:=by lia
  let kp:∀{b:N8} {o:HO},H b>o->H' b>o:=λe=>bt _ _ (ah e) (s3 _ _ e)
  let X:aM K H' a (ns.map V.int):=mJ ha λo z=>kp z
  let lg:↑ga=↑rs:=by rw[Nb.length A,Jb]
  let⟨u,eu⟩:=En (cs:=ns) (i:=12+(i:Int)) () ()
  let few:=hT.few
  let a1:=f.few
  show gn ?_
  show cQ (Fx (as:=B) ∅ (qo (m:=((↑B:Nat):Int)) (qE (ag (c8 (v:=.int u) ∅ ∅ X eu) (ag ∅ (ag az aw))) (by decide) (by decide)) (dH (v:=.int ((↑B:Nat):Int)) (ag ∅ aw) λQ' q'=>⟨_,_,Z,.inl ⟨_,aM.of (kp l1),(by rw[Jb])⟩,q'⟩) ()) (aM.of (kp l1)) λjj b hb=>?_)
  let⟨cc,ad,ar⟩:=br l2 hb
  rw[Jn] at ad
  let⟨j,hj,rfl⟩:=JH.mp ad
  let ac:=Jl hj
  show cQ (vU (x:=lN (Rz ns) j) (λv=>0<=v/\v<((Cz ns:Nat):Int)) ∅ (kp ar) (λz=>by cases z) (by change 2<=10;decide) (qo (qE (ag (c8 (v:=.int u) ∅ ∅ X eu) (ag ∅ (ag az aw))) (by decide) (by decide)) ∅ ()) λv p H4 bn s4 np hp=>?_)
  let⟨x,rfl⟩:=Lb bn.1
  let hx:x<Cz ns:=by have:=bn.2;lia
  rw[vz hx] at hp
  let kM:j*Cz ns+x<Nz ns*Cz ns:=jE (jn j ac) hx
  let on:On (Cz ns) rj (j*Cz ns+x):=⟨j,x,ac,hx,Z⟩
  let Y:=bt.same s4
  let r:=s4 _ _ hG
  let O:=s4 _ _ hd
  let L:=s4 _ _ he
  let J:=ay A λb xs z=>s4 _ _ z
  let R:aM K H4 a (ns.map V.int):=s4.seq X
  show cQ (qo (m:=5) (qE (ag (c8 (v:=.int u) ∅ ∅ R eu) (ag ∅ (ag az aw))) (by decide) (by decide)) az (by decide) _ λkd cZ=>?_)
  show jt (aI (dY ∅ az)) (λz=>?_) (λ_=>?_)
  ·show dR ⟨_,Z,.inl ⟨Z,_,aM.of r⟩,_,Z,G,_,_,Z,Z,r,aL (by rw[Jb];lia),?_⟩
   show⟨_,_,_,_,ga++[p],rs++[j*Cz ns+x],S,ts,Z,Y.set (by simp),by rw[af,Jf];rfl,aj (Jr ap)<|O,aj (Jr ab)<|L,?_,hT,f,hv,?_,by rw[Jo];change ↑rs+1<=_;lia,hS⟩
   ·rw[Jf]
    show cG (ay J (bj r)) (.cons (bj r _ _ hp) .nil)
   ·intro k hk
    rcases Jz.mp hk with hk|hk
    ·show g k hk
    ·rw[Jg.mp hk];show on
  ·show jt (aI (dY ∅ az)) (λz=>?_) (λ_=>?_)
   ·show CN az ∅ ∅ (ip.t (k:=iK (sN (Rz ns) (Cz ns) (j*Cz ns+x))) O (fS hp) (aL (by rw[eI];lia))) ?_
    show⟨_,_,_,_,ga,rs,bW S (j*Cz ns+x) (.bl true),ts,Z,Y.set (by simp),aj ap<|r,by rw[af,gQ Z0],aj U.symm<|L,ay J λb xs z=>by rw[aj (bu z O (λy=>by cases y))];show z,hT.put kM,f,hv,g,(),λp hp=>?_⟩
    rcases jU hp with h|h
    ·show hS p h
    ·rw[h];show on
   ·show fb ?_
    show⟨10,12,Z,Z,Fc (by decide) (by decide) (by decide),?_⟩
    show⟨_,Z,_,Z,_,Z,a,_,_,_,Z,Z,R,eu,?_⟩
    show gm [.int 4,.int (10^12)] (ag az (ag (bM az az (Fc (by decide) (by decide) (by decide))) aw)) (by change 2<=1000;decide) λl H5 s5 nl b5=>?_
    let⟨c,ec,hc⟩:=Ib 4 (10^12) kd
    show⟨_,Z,_,_,Z,Z,by change(0:Int)<2;decide,l,_,_,_,Z,Z,aM.of b5,ec,?_⟩
    let c0:0<c:=by rcases hc with z|z<;>lia
    show⟨_,_,Z,Z,c0,_,_,Z,Z,_,_,Z,?_⟩
    let u0:=JO u (show c≠0 by lia)
    show⟨_,Z,_,Z,e,_,Z,ip.t (k:=iK (sN (Rz ns) (Cz ns) (j*Cz ns+x))) (s5 _ _ L) (fS (s5 _ _ hp)) (aL (by rw[eI];lia)),?_⟩
    let ax:=s5 _ _ L
    show⟨_,_,_,_,ga,rs,S,bW ts (j*Cz ns+x) _,Z,(Y.same s5).set (by simp),aj ab<|s5 _ _ r,aj U<|s5 _ _ O,by rw[af,gQ Z0],ay J λb xs z=>by rw[aj (bu (s5 _ _ z) ax (λy=>by cases y))];show s5 _ _ z,hT,f.put kM,hv.put ?_ ?_,g,(),hS⟩
    ·change 0<=if aW+u%c<(10:Int)^(12:Int).toNat then aW+u%c else (10:Int)^(12:Int).toNat
     split
     ·lia
     ·decide
    ·change(if aW+u%c<(10:Int)^(12:Int).toNat then aW+u%c else (10:Int)^(12:Int).toNat)<=1000000000000
     have:(10:Int)^(12:Int).toNat=1000000000000:=by decide
     rw[this]
     split<;>lia
 ·rintro σ H' ⟨x7,x8,x9,W,ga,rs,S,ts,rfl,bt,hG,hd,he,A,hT,f,hv,g,hl,hS⟩
  show am ga rs S ts Z Z Z bt hG hd he A hT f hv g () hS Z
theorem Ck (dl:aT P w K mg Oa "_law_cell_at" 1 ["script", "k"] (eE K))(d0:aT P w K mg Oa "_law_lanes" 2 ["script"] (vH K))(dC:aT P w K mg Oa "_law_strewn" 2 ["script", "columns", "other", "toll"] (r_ K)):jo P w K mg Oa 3 "_law_plan" C9 ["script"] (uK K):=by
 show rd ["script", "columns", "lanes", "other", "toll", "rocks", "shut", "tolls", "narrow", "lane", "column", "doors"] λnd _ _ _ _ _ H vs Q E hr h=>?_
 let⟨a,ns,rfl,ha,ce,q⟩:=h
 show⟨_,(ak (bo 1 nd (aA aX ai (aA a_ (bq dl hr (aC (ao 0) ai)) ai))) (ak (e_ (bq d0 hr (aE (ao 0))) (eJ Z (aB (bp 2 nd) (aB (bp 3 nd) bT)))) (ak (bo 4 nd (aP aF (bB (aC ai (aA a_ (aA dO (bq dl hr (aC (ao 0) ai)) ai) (aA aX (aA kP ai ai) ai)))) (aA a_ (bq dl hr (aC (ao 0) ai)) ai))) (ak (e_ (bq dC hr (av (ao 0) (av (ao 1) (aC (ao 3) (ao 4))))) (eJ Z (aB (bp 5 nd) (aB (bp 6 nd) (aB (bp 7 nd) bT))))) (ak (bo 8 nd (aA a_ (bq dl hr (aC (ao 0) ai)) (aA aX (ao 1) ai))) (ak (dU (bF (ao 3)) (bp 9 nd) (a9 (dU (uN T.range_ (aE (ao 1))) (bp 10 nd) (bc (eZ (aR.one hr) (ao 7) (aA fc (ao 9) (aS (aE (ao 10)))) (bz (kO Z) T.max_ (aC (ao 4) (bR JL JZ J7 (dk hr) (ao 7) (aC (aA fc (ao 9) (aS (aE (ao 10)))) ai)))) (by rfl)) (bH (bS cT (ao 10) (ao 8)) (aV (bR JR J1 J2 bL (ao 5) (aE (aA fc (ao 9) (aS (aE (ao 10)))))))))))) (ak (dU (bF (ao 2)) (bp 9 nd) (a9 (dU (uN T.range_ (aE (ao 1))) (bp 10 nd) (a9 (eZ (aR.one hr) (ao 7) (aA fc (ao 9) (aS (aE (ao 10)))) (ao 4) (by rfl)))))) (ak (bo 11 nd fJ) (bc (dU (bF (bz (pG hr) T.sorted_ (aE (aA mf (ao 2) (ao 3))))) (bp 9 nd) (a9 (dU (uN T.range_ (aE (ao 1))) (bp 10 nd) (a9 (bH (fQ (e7 (oQ hr) (aA fc (ao 9) (aS (aE (ao 10)))) (ao 5) (by with_unfolding_all rfl)) (eG (gw (iT (aR.one hr) (aA fc (ao 9) (aS (aE (ao 10)))) (ao 6))))).pt (eZ (aR.one hr) (ao 11) (aA fc (ao 9) (aS (aE (ao 10)))) cI (by rfl))))))) (aD (aS (av (ao 1) (av (ao 2) (av (ao 3) (av (ao 4) (av (ao 8) (av (ao 5) (aC (ao 7) (ao 11))))))))))))))))))),?_⟩
 let da:N9=2^24:=rfl
 let Z0:=kW ns
 let hC:=kZ ns
 let BV:=BV ns
 let hN:=m9 ns
 show bV (v:=.int (Cz ns:Nat)) (cA (aQ az (bM (bK 2 (ag ∅ (ag az aw)) ha) az (by change(0:Int)<5;decide))) (by rw[hC.1])) ?_
 show⟨_,Z,a,ns,Z,ha,λH1 t1 la ot fj rj s1 f4 ey ef ii not ee f1 f6=>?_⟩
 show⟨t1,_,Z,bh.of f4,Z,_,_,Z,_,_,Z,Z,st ?_⟩
 let⟨fl,rl,c2,fr,c4,dc⟩:=u_ ee
 let a0:∀{j x:Nat},j∈fj->x<Cz ns->¬On (Cz ns) rj (j*Cz ns+x):=λhj hx z=>by
  let⟨j',x',ac,cB,e⟩:=z
  have:=(qD hx cB e).1
  rw[<-this] at ac
  show fr _ hj ac
 let cN:=s1.seq ha
 show cQ ?_
 show gm [.int 0,.int (bZ ns 5/2%((10:Int)^12+1))] (ag az (ag (bM (bM (bK 5 (ag ∅ (ag az aw)) cN) az (zo (by decide) (by decide))) (aQ (bM az az (Fc (by decide) (by decide) (by decide))) az) (by change(0:Int)<10^12+1;decide)) aw)) (by change 2<=1000;decide) λl2 H2 s2 hu f8=>?_
 let⟨aW,bm,bn⟩:=Ib 0 (bZ ns 5/2%((10:Int)^12+1)) (bZ ns 5)
 let ap:=s1.trans s2
 let b7:=ap.seq ha
 show ff (bM (bK 5 (ag ∅ (ag az aw)) b7) az (by change(0:Int)<2;decide)) ⟨l2,_,_,_,Z,Z,aM.of f8,bm,?_⟩
 let t0:0<=aW:=by
  rcases bn with z|z
  ·lia
  ·rw[z];show JO _ (by decide)
 let a7:aW<=1000000000000:=by
  rcases bn with z|z
  ·lia
  ·rw[z];have:=JQ (bZ ns 5/2) (show(0:Int)<10^12+1 by decide);lia
 show⟨_,Z,_,Z,_,Z,_,Z,a,ot,ns,aW,rj,Z,b7,ce,ef.same s2,rl,(),t0,a7,λH3 t3 ro sh tl rs S ts s3 gl fn eg ea iv gk f0 f2 fe hS ft hy eu eq=>?_⟩
 show⟨t3,_,Z,bh.of gl,Z,_,_,Z,_,_,Z,_,_,Z,Z,st ?_⟩
 let cj:=ap.trans s3
 let ct:=cj.seq ha
 obtain⟨nw,d9⟩:∃nw,nw=bZ ns 6%(((Cz ns:Nat):Int)+2):=⟨_,Z⟩
 let co:0<=nw:=d9<|JO _ ()
 let cU:nw<=8:=by rw[d9];have:=JQ (bZ ns 6) (show 0<((Cz ns:Nat):Int)+2 by lia);lia
 show bV (v:=.int nw) (cA (bM (bK 6 (ag ∅ (ag az aw)) ct) (aQ ∅ az) (by change(0:Int)<((Cz ns:Nat):Int)+2;lia)) (by rw[d9])) ?_
 show iU (σ':=[some (.ref a),some (.int (Cz ns:Nat)),some (.ref la),some (.ref ot),some (.int aW),some (.ref ro),some (.ref sh),some (.ref tl),some (.int nw),none,none,none]) (by kernel_rfl) ?_
 let⟨r,cx,a4⟩:=ey.same (s2.trans s3)
 let⟨g,bd,bi⟩:=ef.same (s2.trans s3)
 let⟨cF,ah,cZ⟩:=id fn
 let c5:↑r=↑fj:=by rw[Nb.length a4,Jb]
 let cw:↑g=↑rj:=by rw[Nb.length bi,Jb]
 let b1:ro≠tl:=bu ah ea (λz=>by cases z)
 let am:∀{b:N8} {o:HO},H2 b>o->b∉[ro,tl]:=fun{b o} z m=>by
  simp only[Jk,JJ,or_false] at m
  rcases m with m|m
  ·rw[m,ft] at z;cases z
  ·rw[m,eu] at z;cases z
 let M:∀{b:N8} {xs:-V},H3 b>.tup xs->b∉[ro,tl]:=fun{b xs} z m=>by
  simp only[Jk,JJ,or_false] at m
  rcases m with m|m
  ·rw[m,ah] at z;cases z
  ·rw[m,ea] at z;cases z
 let bA:ot∉[ro,tl]:=by let⟨_,z,_⟩:=ef.same s2;show am z
 let bD:la∉[ro,tl]:=by let⟨_,z,_⟩:=ey.same s2;show am z
 show bQ λRh dp=>?_
 show⟨_,Z,ot,Z,⟨_,aM.of bd⟩,?_⟩
 show bf (K:=K) (xs:=g.map V.ref) (λi σ H'=>∃(x9 d:Option V) (ra:-N8) (rs:-Nat) (ts:-(Nat×V)),σ=[some (.ref a),some (.int (Cz ns:Nat)),some (.ref la),some (.ref ot),some (.int aW),some (.ref ro),some (.ref sh),some (.ref tl),some (.int nw),x9,d,none]/\Bt [ro,tl] H3 H'/\H' ro>.lst (ra.map V.ref)/\bG H' ra (rs.map (sN (Rz ns) (Cz ns)))/\H' tl>.dT (aZ (Rz ns) (Cz ns) ts)/\Tb (Nz ns*Cz ns) ts/\TV ts/\(∀k∈rs,On (Cz ns) rj k)/\↑rs<=51+i)
  ⟨none,none,cF,rs,ts,Z,Bt.refl _ _,ah,cZ,ea,gk,f0,f2,fe⟩ (λi σ H' _ hz=>by let⟨_,_,_,_,_,_,bt,_⟩:=hz;show aM.of (bt _ _ bA bd)) ?_ ?_
 ·rintro i v σ H' hv ⟨x9,d,ra,rs,ts,rfl,bt,hr,I,ht,hT,hV,hO,hl⟩
  let⟨b,hb,rfl⟩:=bJ hv
  let c3:i<↑g:=(Js.mp hb).1
  let⟨cc,L,f⟩:=br bi hb
  rw[Jn] at L
  let⟨j,hj,rfl⟩:=JH.mp L
  let O:=Jl hj
  show gn ?_
  show jZ (j:=((Cz ns:Nat):Int)) (ag ∅ aw) () () ?_
  show eO (n:=((Cz ns:Nat):Int).toNat) (λx σ H'=>∃(d:Option V) (ra:-N8) (rs:-Nat) (ts:-(Nat×V)),σ=[some (.ref a),some (.int (Cz ns:Nat)),some (.ref la),some (.ref ot),some (.int aW),some (.ref ro),some (.ref sh),some (.ref tl),some (.int nw),some (.ref b),d,none]/\Bt [ro,tl] H3 H'/\H' ro>.lst (ra.map V.ref)/\bG H' ra (rs.map (sN (Rz ns) (Cz ns)))/\H' tl>.dT (aZ (Rz ns) (Cz ns) ts)/\Tb (Nz ns*Cz ns) ts/\TV ts/\(∀k∈rs,On (Cz ns) rj k)/\↑rs<=51+i+(if nw<(x:Int) then 1 else 0))
   ⟨d,ra,rs,ts,Z,bt,hr,I,ht,hT,hV,hO,()⟩ ?_ ?_
  ·rintro x σ H' hx ⟨d,ra,rs,ts,rfl,bt,hr,I,ht,hT,hV,hO,hl⟩
   let hx:x<Cz ns:=by simpa using hx
   let kM:j*Cz ns+x<Nz ns*Cz ns:=jE (rl j O) hx
   let few:=hT.few
   let db:↑ra=↑rs:=by rw[Nb.length I,Jb]
   let c7:↑rs<=60:=by split at hl<;>lia
   show gn ?_
   show zS ?_
   show⟨_,Z,_,Z,.inr (.inr (.inl ⟨Z,.inr ⟨_,ht⟩⟩)),?_⟩
   show cE (eB ∅ (bt _ _ (M f) f) hx (cA ∅ (by rw[Ki])) λp4 H4 s4 ga ed=>?_)
   show⟨tl,.ref p4,.int 0,_,Z,Z,dg (.inl (s4 _ _ ht)) ed,?_⟩
   rw[jb hV]
   show⟨_,_,Z,_,Z,?_⟩
   let b8:=s4 _ _ (bt _ _ (M f) f)
   show eB ∅ b8 hx (cA ∅ (by rw[Ki])) λp5 H5 s5 fp d8=>?_
   let W:=s5 _ _ (s4 _ _ ht)
   show⟨tl,_,Z,ip.t (k:=iK (sN (Rz ns) (Cz ns) (j*Cz ns+x))) W (fS d8) (aL (by rw[eI];lia)),?_⟩
   let c0:=wN (R:=Rz ns) (C:=Cz ns) hV (sN (Rz ns) (Cz ns) (j*Cz ns+x))
   let c1:=AF (R:=Rz ns) (C:=Cz ns) hV (sN (Rz ns) (Cz ns) (j*Cz ns+x))
   generalize dJ (Rz ns) (Cz ns) ts (sN (Rz ns) (Cz ns) (j*Cz ns+x))=tc at c0 c1
   let v0:0<=(if aW<tc then tc else aW):=by split<;>lia
   let v1:(if aW<tc then tc else aW)<=1000000000000:=by split<;>lia
   generalize (if aW<tc then tc else aW)=vv at v0 v1
   let X:Bt [ro,tl] H3 (Oc H5 tl (.dT (bW (aZ (Rz ns) (Cz ns) ts) (iK (sN (Rz ns) (Cz ns) (j*Cz ns+x))) (.int vv)))):=((bt.same s4).same s5).set (by simp)
   let D:Oc H5 tl (.dT (bW (aZ (Rz ns) (Cz ns) ts) (iK (sN (Rz ns) (Cz ns) (j*Cz ns+x))) (.int vv))) ro>.lst (ra.map V.ref):=aj b1<|s5 _ _ (s4 _ _ hr)
   let l:bG (Oc H5 tl (.dT (bW (aZ (Rz ns) (Cz ns) ts) (iK (sN (Rz ns) (Cz ns) (j*Cz ns+x))) (.int vv)))) ra (rs.map (sN (Rz ns) (Cz ns))):=ay I λb xs z=>by rw[aj (bu (s5 _ _ (s4 _ _ z)) W (λy=>by cases y))];show s5 _ _ (s4 _ _ z)
   let ar:Oc H5 tl (.dT (bW (aZ (Rz ns) (Cz ns) ts) (iK (sN (Rz ns) (Cz ns) (j*Cz ns+x))) (.int vv))) tl>.dT (aZ (Rz ns) (Cz ns) (bW ts (j*Cz ns+x) (.int vv))):=by rw[af,gQ Z0]
   revert X D l ar
   generalize Oc H5 tl (.dT (bW (aZ (Rz ns) (Cz ns) ts) (iK (sN (Rz ns) (Cz ns) (j*Cz ns+x))) (.int vv)))=H6
   intro X D l ar
   show jt (aI (dY ∅ ∅)) (λz=>?_) (λz=>?_)
   ·let ez:(0:Int)+(x:Int)=nw:=N4 z
    show dR ⟨_,Z,.inl ⟨Z,_,aM.of D⟩,?_⟩
    show cE (eB ∅ (X _ _ (M f) f) hx (cA ∅ (by rw[Ki])) λp7 H7 s7 h5 fm=>?_)
    let ba:=s7 _ _ D
    show⟨ro,_,_,Z,Z,ba,aL (by rw[Jb];lia),?_⟩
    show⟨_,ra++[p7],rs++[j*Cz ns+x],_,Z,(X.same s7).set (by simp),by rw[af,Jf];rfl,?_,aj b1.symm<|s7 _ _ ar,hT.put kM,hV.put v0 v1,λk hk=>?_,?_⟩
    ·rw[Jf]
     show cG (ay l λb xs z=>bj ba _ _ (s7 _ _ z)) (.cons (bj ba _ _ fm) .nil)
    ·rcases Jz.mp hk with hk|hk
     ·show hO k hk
     ·rw[Jg.mp hk];show⟨j,x,O,hx,Z⟩
    ·rw[N0 ()] at hl
     rw[Jo,N1 ()]
     change ↑rs+1<=_
     lia
   ·show⟨_,ra,rs,_,Z,X,D,l,ar,hT.put kM,hV.put v0 v1,hO,?_⟩
    split at hl
    ·rw[N1 ()];show hl
    ·lia
  ·rintro σ H' ⟨d,ra,rs,ts,rfl,bt,hr,I,ht,hT,hV,hO,hl⟩
   show⟨_,_,ra,rs,ts,Z,bt,hr,I,ht,hT,hV,hO,?_⟩
   split at hl<;>lia
 rintro σ H4 ⟨x9,d,ra,rs,ts,rfl,bt,hr,I,ht,hT,hV,hO,hl⟩
 show dp _ _ ?_
 rw[Jb,cw] at hl
 show bQ λRh dp=>?_
 let ad:=bt _ _ bD cx
 show⟨_,Z,la,Z,⟨_,aM.of ad⟩,?_⟩
 show bf (K:=K) (xs:=r.map V.ref) (λi σ H'=>∃(x9 d:Option V) (ts:-(Nat×V)),σ=[some (.ref a),some (.int (Cz ns:Nat)),some (.ref la),some (.ref ot),some (.int aW),some (.ref ro),some (.ref sh),some (.ref tl),some (.int nw),x9,d,none]/\Sb tl H4 H'/\H' tl>.dT (aZ (Rz ns) (Cz ns) ts)/\Tb (Nz ns*Cz ns) ts/\TV ts)
  ⟨x9,d,ts,Z,Sb.refl _ _,ht,hT,hV⟩ (λi σ H' _ hz=>by let⟨_,_,_,_,sb,_⟩:=hz;show aM.of (sb _ _ (λz=>bD (by rw[z];simp)) ad)) ?_ ?_
 ·rintro i v σ H' hv ⟨x9,d,ts,rfl,sb,aa,hT,hV⟩
  let⟨b,hb,rfl⟩:=bJ hv
  let⟨cc,L,f⟩:=br a4 hb
  rw[Jn] at L
  let⟨j,hj,rfl⟩:=JH.mp L
  let O:=Jl hj
  let ck:=bt _ _ (M f) f
  show gn ?_
  show jZ (j:=((Cz ns:Nat):Int)) (ag ∅ aw) () () ?_
  show eO (n:=((Cz ns:Nat):Int).toNat) (λx σ H'=>∃(d:Option V) (ts:-(Nat×V)),σ=[some (.ref a),some (.int (Cz ns:Nat)),some (.ref la),some (.ref ot),some (.int aW),some (.ref ro),some (.ref sh),some (.ref tl),some (.int nw),some (.ref b),d,none]/\Sb tl H4 H'/\H' tl>.dT (aZ (Rz ns) (Cz ns) ts)/\Tb (Nz ns*Cz ns) ts/\TV ts)
   ⟨d,ts,Z,sb,aa,hT,hV⟩ ?_ ?_
  ·rintro x σ H' hx ⟨d,ts,rfl,sb,aa,hT,hV⟩
   let hx:x<Cz ns:=by simpa using hx
   let kM:j*Cz ns+x<Nz ns*Cz ns:=jE (fl j O) hx
   let few:=hT.few
   show gn ?_
   show fb ⟨_,Z,_,Z,?_⟩
   show eB ∅ (fR ht sb ck (λ_ z=>by cases z)) hx (cA ∅ (by rw[Ki])) λp5 H5 s5 fp d8=>?_
   show⟨tl,_,Z,ip.t (k:=iK (sN (Rz ns) (Cz ns) (j*Cz ns+x))) (s5 _ _ aa) (fS d8) (aL (by rw[eI];lia)),?_⟩
   show⟨_,bW ts (j*Cz ns+x) (.int aW),Z,(sb.trans (Sb.of s5)).set,by rw[af,gQ Z0],hT.put kM,hV.put t0 a7⟩
  ·rintro σ H' ⟨d,ts,rfl,sb,aa,hT,hV⟩
   show⟨_,_,ts,Z,sb,aa,hT,hV⟩
 rintro σ H5 ⟨x9,d,ts,rfl,a1,W,hT,hV⟩
 show dp _ _ ?_
 let Y:∀{b:N8} {o:HO},H4 b>o->(∀k,o≠.dT k)->H5 b>o:=λz nz=>fR ht a1 z nz
 let D:=Y hr (λ_ z=>by cases z)
 let l:bG H5 ra (rs.map (sN (Rz ns) (Cz ns))):=ay I λb xs z=>Y z (λ_ y=>by cases y)
 let b0:H5 la>.lst (r.map V.ref):=Y ad (λ_ z=>by cases z)
 let bx:H5 ot>.lst (g.map V.ref):=Y (bt _ _ bA bd) (λ_ z=>by cases z)
 let a2:∀b xs,H3 b>.tup xs->H5 b>.tup xs:=λb xs z=>Y (bt _ _ (M z) z) (λ_ y=>by cases y)
 let a3:=ay a4 a2
 let bb:=ay bi a2
 let cy:H5 sh>.dT (aZ (Rz ns) (Cz ns) S):=a1 _ _ eq (bt _ _ (λm=>by
  simp only[Jk,JJ,or_false] at m
  rcases m with m|m
  ·rw[m,ah] at eg;cases eg
  ·show eq m) eg)
 let cs:au H2 H5:=λb o z=>a1 _ _ (λy=>am z (by rw[y];simp)) (bt _ _ (am z) (s3 _ _ z))
 let b5:au H H5:=ap.trans cs
 show cg λRh dp=>λdd dL=>dp _ _ ?_
 let N:au H5 (Oc H5 dd (.dT [])):=(au.refl H5).upd dL
 let an:Oc H5 dd (.dT []) dd>.dT (aZ (Rz ns) (Cz ns) []):=af
 revert N an
 generalize Oc H5 dd (.dT [])=HB
 intro N an
 let ci:tl≠dd:=aq W dL
 let bl:∀{b:N8} {o:HO},H5 b>o->b≠dd:=λe z=>by rw[z,dL] at e;cases e
 show iU (σ':=[some (.ref a),some (.int (Cz ns:Nat)),some (.ref la),some (.ref ot),some (.int aW),some (.ref ro),some (.ref sh),some (.ref tl),some (.int nw),x9,d,some (.ref dd)]) (by kernel_rfl) ?_
 show bQ λRh dp=>?_
 show⟨_,Z,_,Z,la,ot,_,_,Z,Z,N _ _ b0,N _ _ bx,by rw[Jb,Jb];lia,λen e5=>?_⟩
 let U:au HB (Oc HB en (.lst (r.map V.ref++g.map V.ref))):=(au.refl HB).upd e5
 let a5:Oc HB en (.lst (r.map V.ref++g.map V.ref)) en>.lst ((r++g).map V.ref):=by rw[af,Jf]
 revert U a5
 generalize Oc HB en (.lst (r.map V.ref++g.map V.ref))=H7
 intro U a5
 show⟨en,r++g,(fj++rj).map (lN (Rz ns)),Z,aM.of a5,Jf<|ay (cG a3 bb) λ_ _ z=>U _ _ (N _ _ z),λc hc z=>?_,by rw[Jo];lia,λso dx d2 ec gc d6 _=>?_⟩
 ·let⟨j,_,rfl⟩:=Jh.mp hc
  cases z
 let ab:au H7 (Oc H7 so (.lst (dx.map V.ref))):=(au.refl H7).upd ec
 let ax:Oc H7 so (.lst (dx.map V.ref)) so>.lst (dx.map V.ref):=af
 revert ab ax
 generalize Oc H7 so (.lst (dx.map V.ref))=H8
 intro ab ax
 let b4:au H5 H8:=N.trans (U.trans ab)
 let a6:H8 dd>.dT (aZ (Rz ns) (Cz ns) []):=ab _ _ (U _ _ an)
 let b6:=ay gc λ_ _ z=>ab _ _ z
 let cv:so≠dd:=λz=>by rw[z,U _ _ an] at ec;cases ec
 let cd:∀c∈d2,∃j,j∈fj++rj/\c=lN (Rz ns) j:=λc hc=>by
  let⟨j,hj,e⟩:=Jh.mp (d6.mem_iff.mp hc)
  show⟨j,hj,e.symm⟩
 let cm:∀j∈fj++rj,j<Nz ns:=λj hj=>J8.mp (ee.mem_iff.mp hj)
 let ca:∀{b:N8} {xs:-V},H8 b>.tup xs->b≠dd:=λz y=>by rw[y,a6] at z;cases z
 show⟨so,Z,⟨_,aM.of ax⟩,?_⟩
 show bf (K:=K) (xs:=dx.map V.ref) (λi σ H'=>∃(x9 d:Option V) (F:-(Nat×V)),σ=[some (.ref a),some (.int (Cz ns:Nat)),some (.ref la),some (.ref ot),some (.int aW),some (.ref ro),some (.ref sh),some (.ref tl),some (.int nw),x9,d,some (.ref dd)]/\Sb dd H8 H'/\H' dd>.dT (aZ (Rz ns) (Cz ns) F)/\Tb (Nz ns*Cz ns) F/\(∀p∈F,p.2=.bl true)/\(∀p∈F,p.1∉rs)/\((∃c∈d2.take i,∃j∈fj,c=lN (Rz ns) j)->F≠[]))
  ⟨x9,d,[],Z,Sb.refl _ _,a6,Tb.nil,(λ_ h=>by cases h),(λ_ h=>by cases h),λh=>by(let⟨c,hc,_⟩:=h;cases hc)⟩ (λi σ H' _ hz=>by let⟨_,_,_,_,sb,_⟩:=hz;show aM.of (sb _ _ cv ax)) ?_ ?_
 ·rintro i v σ H' hv ⟨x9,d,F,rfl,sb,hd,hT,B,A,u⟩
  let⟨b,hb,rfl⟩:=bJ hv
  let⟨cc,L,f⟩:=br b6 hb
  let⟨j,O,rfl⟩:=cd cc (Jl L)
  show gn ?_
  show jZ (j:=((Cz ns:Nat):Int)) (ag ∅ aw) () () ?_
  show eO (n:=((Cz ns:Nat):Int).toNat) (λx σ H'=>∃(d:Option V) (F:-(Nat×V)),σ=[some (.ref a),some (.int (Cz ns:Nat)),some (.ref la),some (.ref ot),some (.int aW),some (.ref ro),some (.ref sh),some (.ref tl),some (.int nw),some (.ref b),d,some (.ref dd)]/\Sb dd H8 H'/\H' dd>.dT (aZ (Rz ns) (Cz ns) F)/\Tb (Nz ns*Cz ns) F/\(∀p∈F,p.2=.bl true)/\(∀p∈F,p.1∉rs)/\((∃c∈d2.take i,∃j∈fj,c=lN (Rz ns) j)\/(j∈fj/\0<x)->F≠[]))
   ⟨d,F,Z,sb,hd,hT,B,A,λh=>h.elim u λz=>absurd z.2 (JU 0)⟩ ?_ ?_
  ·rintro x σ H' hx ⟨d,F,rfl,sb,hd,hT,B,A,u⟩
   let hx:x<Cz ns:=by simpa using hx
   let kM:j*Cz ns+x<Nz ns*Cz ns:=jE (cm j O) hx
   let few:=hT.few
   let kp:∀{b:N8} {o:HO},H5 b>o->H' b>o:=λe=>sb _ _ (bl e) (b4 _ _ e)
   let be:H' b>.tup ((lN (Rz ns) j).map V.int):=sb _ _ (ca f) f
   show gn ?_
   show gT ?_
   show eB ∅ be hx (cA ∅ (by rw[Ki])) λp2 H2 dm hX gi=>?_
   show⟨_,Z,⟨p2,ro,ra,_,_,Z,Z,gi,aM.of (dm _ _ (kp D)),ay l λ_ _ z=>dm _ _ (kp z),_,Z,?_⟩⟩
   by_cases hk:j*Cz ns+x∈rs
   ·rw[N3 (JG hk)]
    show cK (cK ⟨_,F,Z,sb.trans (Sb.of dm),dm _ _ hd,hT,B,A,λh=>h.elim (λz=>u (.inl z)) λz=>absurd (hO _ hk) (a0 z.1 hx)⟩)
   rw[N5 (λz=>hk ((m4 Z0).mp z))]
   show c9 ?_
   show eB ∅ (dm _ _ be) hx (cA ∅ (by rw[Ki])) λp3 H3' d3 ib e6=>?_
   let cr:H3' sh>.dT (aZ (Rz ns) (Cz ns) S):=d3 _ _ (dm _ _ (kp cy))
   let b3:Sb dd H8 H3':=(sb.trans (Sb.of dm)).trans (Sb.of d3)
   let bv:=d3 _ _ (dm _ _ hd)
   show⟨_,Z,sh,_,Z,dg (x:=sN (Rz ns) (Cz ns) (j*Cz ns+x)) (.inl cr) e6,_,Z,?_⟩
   rw[iM Z0]
   cases eS:(bg S (j*Cz ns+x)).isSome with
   |true=>
    let⟨v,ev⟩:=K0.mp eS
    show cK ⟨_,F,Z,b3,bv,hT,B,A,λh=>h.elim (λz=>u (.inl z)) λz=>absurd (hS _ (gS ev)) (a0 z.1 hx)⟩
   |false=>
    show c9 ?_
    show fb (ff az (ff ∅ ?_))
    show eB ∅ (d3 _ _ (dm _ _ be)) hx (cA ∅ (by rw[Ki])) λp4 H4' eA ga ed=>?_
    show⟨dd,_,Z,ip.t (k:=iK (sN (Rz ns) (Cz ns) (j*Cz ns+x))) (eA _ _ bv) (fS ed) (aL (by rw[eI];lia)),?_⟩
    show⟨_,bW F (j*Cz ns+x) (.bl true),Z,(b3.trans (Sb.of eA)).set,by rw[af,gQ Z0],hT.put kM,λp hp=>?_,λp hp=>?_,λ_=>BP F _ _⟩
    ·rcases jU hp with z|z
     ·show B p z
     ·rw[z]
    ·rcases jU hp with z|z
     ·show A p z
     ·rw[z];show hk
  ·rintro σ H' ⟨d,F,rfl,sb,hd,hT,B,A,u⟩
   show⟨_,_,F,Z,sb,hd,hT,B,A,λh=>u ?_⟩
   let⟨c,hc,j',ac,rfl⟩:=h
   rw[aN L] at hc
   rcases Jz.mp hc with z|z
   ·show .inl ⟨_,z,j',ac,Z⟩
   ·right
    have:=D_ (Jg.mp z)
    rw[<-this]
    show⟨ac,by simp;lia⟩
 ·rintro σ H' ⟨x9,d,F,rfl,sb,hd,hT,B,A,u⟩
  show dp _ _ ?_
  let len:↑dx=↑d2:=Nb.length b6
  rw[Jb,len,Jx] at u
  let ch:au H5 H':=λb o e=>sb _ _ (bl e) (b4 _ _ e)
  show dr (cS [.int (Cz ns:Nat),.ref la,.ref ot,.int aW,.int nw,.ref ro,.ref tl,.ref dd] (ag ∅ (ag ∅ (ag ∅ (ag ∅ (ag ∅ (ag ∅ (ag ∅ (ag ∅ aw)))))))) (by change 8<=1000;decide) λt H9 s9 nt f7=>?_)
  let J:=ch.trans s9
  show q H9 t la ot ro tl dd aW nw fj rj rs ts F (b5.trans J) ⟨f7,⟨r,J _ _ b0,ay a3 λ_ _ z=>J _ _ z⟩,⟨g,J _ _ bx,ay bb λ_ _ z=>J _ _ z⟩,⟨ra,J _ _ D,ay l λ_ _ z=>J _ _ z⟩,J _ _ W,s9 _ _ hd⟩ ⟨ee,f1,f6,t0,a7,co,cU,(),λk hk=>?_,by assumption,by assumption,by assumption,B,A,u ?_⟩ ci (b5.free dL) (ap.free eu)
  ·let⟨j,x,hj,hx,rfl⟩:=hO k hk
   show jE (rl j hj) hx
  ·obtain⟨j,hj⟩:∃j,j∈fj:=by
    cases fj with
    |nil=>cases f1
    |cons j _=>show⟨j,JA⟩
   show⟨lN (Rz ns) j,d6.mem_iff.mpr (JG (Ld _ hj)),j,hj,Z⟩
theorem zz (aa:aT P w K mg Oa "_law_cell_at" 1 ["script", "k"] (eE K)):jo P w K mg Oa 2 "_law_goals" AA ["script", "plan"] (pM K):=by
 show rd ["script", "plan", "ends", "lane", "spot"] λnd _ _ _ _ _ H vs Q E hr h=>?_
 let⟨a,t,la,ot,ro,tl,dd,ns,aW,nw,fj,rj,rs,ts,F',rfl,ha,hA,hO,q⟩:=h
 show⟨_,(ak (Bf 2 ["lane"] ["plan"] [1] nd (bF (aP aH (ao 1) ai)) (eU 0) dF (aA (mD (K:=K) Z) (ao 0) (aS (aE (aA cV (aP (lQ (K:=K) Z) (ao 1) ai) ai))))) (ak (dU (bF (aP aH (ao 1) ai)) (bp 3 nd) (bc (bo 4 nd (aA (mD (K:=K) Z) (ao 3) (aS (aE (aA cV (aP aH (ao 1) ai) ai))))) (bH (fQ (gw (f_ (aR.one hr) (ao 4) (aP aH (ao 1) ai))) (eG (bS mV (bz aO T.len_ (aE (ao 2))) (aA aX (bz aO T.len_ (aE (aP aH (ao 1) ai))) (aA a_ (bq aa hr (aC (ao 0) ai)) ai))))).pt (aV (bR JR J1 J2 bL (ao 2) (aE (ao 4))))))) (bc (bH (bS cT (aA a_ (aA dO (bq aa hr (aC (ao 0) ai)) ai) ai) ai) (bo 2 nd (tI Z (by rfl) T.list_ (by rfl) T.reversed_ (ao 2)))) (aD (ao 2))))),?_⟩
 let S:N9=2^24:=rfl
 let Z0:=kW ns
 let hC:=kZ ns
 let hN:=m9 ns
 let⟨fl,rl,O,fr,J,M⟩:=u_ hO.pm
 let⟨m,u,A⟩:=id hA.la
 let⟨r,C,F⟩:=id hA.ot
 let B:↑m=↑fj:=by rw[Nb.length A,Jb]
 let f6:=hO.f6
 let W:↑r=↑rj:=by rw[Nb.length F,Jb]
 let hx:Cz ns - 1<Cz ns:=by lia
 show bQ λRh ah=>?_
 show⟨_,Z,t,_,1,_,Z,Z,bh.of hA.tp,Z,la,Z,⟨_,aM.of u⟩,λD nD=>?_⟩
 show bf (K:=K) (xs:=m.map V.ref) (λi τ H'=>∃(x0:Option V) (bs:-N8),τ=[x0,some (.ref t)]/\au H H'/\H' D>.lst (bs.map V.ref)/\bG H' bs (((fj.take i).map λj=>j*Cz ns+(Cz ns - 1)).map (sN (Rz ns) (Cz ns)))/\↑bs<=i) ⟨none,[],Z,(au.refl H).upd nD,af,.nil,Jd _⟩ (λi τ H' _ hz=>by let⟨_,_,_,s,_⟩:=hz;show aM.of (s _ _ u)) ?_ ?_
 ·rintro i v τ H' hv ⟨x0,bs,rfl,s,hD,c,hl⟩
  let⟨b,hb,rfl⟩:=bJ hv
  let hi:i<↑m:=(Js.mp hb).1
  let⟨cc,g,n⟩:=br A hb
  rw[Jn] at g
  let⟨j,hj,rfl⟩:=JH.mp g
  show gn (eT ?_)
  show eB (x:=Cz ns - 1) ∅ (s _ _ n) hx (cA (aQ (cW ∅ az (s _ _ hA.tp) (bC (j:=0) Z)) az) (congrArg V.int ())) λp H2 Y np hp=>?_
  let d:=Y _ _ hD
  show⟨_,d,aL (by rw[Jb];lia),_,bs++[p],Z,bE (s.trans Y) nD,by rw[af,Jf];rfl,?_,by rw[Jo];change ↑bs+1<=_;lia⟩
  rw[aN hj,Jf,Jf]
  show cG (ay c λb xs z=>bj d _ _ (Y _ _ z)) (.cons (bj d _ _ hp) .nil)
 rintro τ H1 ⟨x0,bs,rfl,s1,hD,c,hl⟩
 show ah _ _ ?_
 rw[Jb,B,Jx] at c
 show iU (σ':=[some (.ref a),some (.ref t),some (.ref D),none,none]) (by kernel_rfl) ?_
 show bQ λRh ah=>?_
 let U:∀{b:N8} {o:HO},H b>o->b≠D:=λe z=>by rw[z,nD] at e;cases e
 show⟨_,Z,t,_,2,_,Z,Z,bh.of (s1 _ _ hA.tp),Z,ot,Z,⟨_,aM.of (s1 _ _ C)⟩,?_⟩
 show bf (K:=K) (xs:=r.map V.ref) (λi σ H'=>∃(x3 x4:Option V) (bs:-N8) (X:-Nat),σ=[some (.ref a),some (.ref t),some (.ref D),x3,x4]/\au H H'/\H' D>.lst (bs.map V.ref)/\bG H' bs (((fj++X).map λj=>j*Cz ns+(Cz ns - 1)).map (sN (Rz ns) (Cz ns)))/\X.Sublist (rj.take i)/\↑X<=2)
  ⟨none,none,bs,[],Z,s1,hD,Km<|c,List.Sublist.refl _,Ju _⟩ (λi σ H' _ hz=>by let⟨_,_,_,_,_,s,_⟩:=hz;show aM.of (s _ _ C)) ?_ ?_
 ·rintro i v σ H' hv ⟨x3,x4,bs,X,rfl,s,hD,c,l,I⟩
  let⟨b,hb,rfl⟩:=bJ hv
  let hi:i<↑r:=(Js.mp hb).1
  let⟨cc,g,n⟩:=br F hb
  rw[Jn] at g
  let⟨j,hj,rfl⟩:=JH.mp g
  let L:↑bs=↑fj+↑X:=by rw[Nb.length c,Jb,Jb,Jo]
  let skip:X.Sublist (rj.take (i+1)):=aN hj<|l.trans (List.sublist_append_left _ _)
  show gn ?_
  show cQ (eB (x:=Cz ns - 1) ∅ (s _ _ n) hx (cA (aQ (cW ∅ az (s _ _ hA.tp) (bC (j:=0) Z)) az) (congrArg V.int ())) λp H2 Y np hp=>?_)
  let f:=s.trans Y
  show gT ?_
  show⟨_,Z,_,Z,t,_,7,_,Z,Z,bh.of (f _ _ hA.tp),Z,dd,_,Z,dg (x:=sN (Rz ns) (Cz ns) (j*Cz ns+(Cz ns - 1))) (.inl (f _ _ hA.dd)) hp,_,Z,?_⟩
  let no:∃(x3 x4:Option V) (bs:-N8) (X:-Nat),[some (.ref a),some (.ref t),some (.ref D),some (.ref b),some (.ref p)]=[some (.ref a),some (.ref t),some (.ref D),x3,x4]/\au H H2/\H2 D>.lst (bs.map V.ref)/\bG H2 bs (((fj++X).map λj=>j*Cz ns+(Cz ns - 1)).map (sN (Rz ns) (Cz ns)))/\X.Sublist (rj.take (i+1))/\↑X<=2:=⟨_,_,bs,X,Z,f,Y _ _ hD,ay c λ_ _ z=>Y _ _ z,skip,I⟩
  show jd (λ_=>?_) (λ_=>jd (λz=>absurd z (by decide)) λ_=>no)
  let N:=f.seq ha
  show zF (aI (aQ (cD (K:=K) ∅ (Y _ _ hD)) (aQ (cD (K:=K) (cW ∅ az (f _ _ hA.tp) (bC (j:=1) Z)) (f _ _ u)) (bM (bK 8 (ag ∅ (ag az aw)) N) az (by change(0:Int)<3;decide))))) ?_
  show jd (λz=>?_) (λ_=>no)
  let z:=N4 z
  rw[Jb,Jb,L,B] at z
  let m3:=JQ (bZ ns 8) (show(0:Int)<3 by decide)
  let d:=Y _ _ hD
  show dR ⟨_,Z,.inl ⟨Z,_,aM.of d⟩,_,Z,D,_,_,Z,Z,d,aL (by rw[Jb];lia),?_⟩
  show⟨_,_,bs++[p],X++[j],Z,bE f nD,by rw[af,Jf];rfl,?_,?_,by rw[Jo];change ↑X+1<=2;lia⟩
  ·rw[<-List.append_assoc,Jf,Jf]
   show cG (ay c λb xs z=>bj d _ _ (Y _ _ z)) (.cons (bj d _ _ hp) .nil)
  ·rw[aN hj]
   show List.Sublist.append l (List.Sublist.refl _)
 rintro σ H2 ⟨x3,x4,bs,X,rfl,Y,hD,c,l,I⟩
 show ah _ _ ?_
 let sub:X.Sublist rj:=l.trans (LL _ _)
 let nd:((fj++X).map λj=>j*Cz ns+(Cz ns - 1)).Nodup:=gv (Kh.mpr ⟨J,sub.nodup M,λx hx y hy e=>fr x hx (e<|sub.subset hy)⟩) λi _ j _ e=>(qD hx hx e).1
 let all:∀k∈(fj++X).map λj=>j*Cz ns+(Cz ns - 1),∃j,j<Nz ns/\k=j*Cz ns+(Cz ns - 1):=λk hk=>by
  let⟨j,hj,rfl⟩:=Jh.mp hk
  show⟨j,?_,Z⟩
  rcases Jz.mp hj with z|z
  ·show fl j z
  ·show rl j (sub.subset z)
 show gH (aI (dY (bM (bM (bK 8 (ag ∅ (ag az aw)) (Y.seq ha)) az (zo (by decide) (by decide))) az (by change(0:Int)<2;decide)) az)) (λ_=>?_) (λ_=>?_)
 ·show⟨_,Z,D,_,Z,aM.of hD,λR nR=>?_⟩
  let sR:au H2 (Oc H2 R (.lst (bs.map V.ref).reverse)):=(au.refl H2).upd nR
  show⟨_,Z,q _ R ((fj++X).map λj=>j*Cz ns+(Cz ns - 1)).reverse (Y.trans sR) (Y.free nR) ⟨bs.reverse,by rw[af,List.map_reverse],?_⟩ ((List.reverse_perm _).nodup_iff.mpr nd) (λk hk=>all k (List.mem_reverse.mp hk)) (by rw[List.length_reverse,Jb,Jo];lia) (by rw[List.length_reverse,Jb,Jo];lia)⟩
  rw[List.map_reverse]
  show ay (EC c) λ_ _ z=>sR _ _ z
 ·show dy ∅ (q _ D _ Y nD ⟨bs,hD,c⟩ nd all (by rw[Jb,Jo];lia) (by rw[Jb,Jo];lia))
theorem C0 (cx:aT P w K mg Oa "_law_cell_at" 1 ["script", "k"] (eE K)):jo P w K mg Oa 2 "_law_made" C8 ["script", "plan", "ahead"] (uG K):=by
 show rd ["script", "plan", "ahead", "columns", "lanes", "other", "toll", "narrow", "rocks", "tolls", "doors", "step", "due", "depth", "heights", "spot", "low", "high", "wires", "lane", "column"] λnd _ _ _ _ _ H vs Q E hr h=>?_
 let⟨a,t,la,ot,ro,tl,dd,ns,aW,nw,ah,fj,rj,rs,ts,F',rfl,ha,hA,hO,ci,b6,q⟩:=h
 show⟨_,(ak (e_ (dQ kB (ao 1) fG (eC ai)) (eJ Z (aB (bp 3 nd) (aB (bp 4 nd) (aB (bp 5 nd) (aB (bp 6 nd) bT)))))) (ak (e_ (dQ kB (ao 1) (eC ai) fG) (eJ Z (aB (bp 7 nd) (aB (bp 8 nd) (aB (bp 9 nd) (aB (bp 10 nd) bT)))))) (ak (bo 11 nd (aA aX (ao 2) (aA dW ai (ao 6)))) (ak (bo 12 nd ai) (ak (bH (bS mV (ao 7) (ao 3)) (bo 12 nd (aA a_ (bq cx hr (aC (ao 0) ai)) (aP aF (bB (av ai (aC ai (aA kP ai ai)))) (aA a_ (aA dO (bq cx hr (aC (ao 0) ai)) ai) ai))))) (ak (bo 13 nd (aA aX (aA dW (ao 11) (aA cV (ao 3) ai)) (ao 12))) (ak (bo 14 nd fJ) (ak (iE (dU (fU (ao 10)) (bp 15 nd) (ak (bo 16 nd (aA aX (aA dW (ao 11) (aP aH (ao 15) ai)) (aA dW (ao 12) (iw i8 T.int_ (aE (je jg (aP aH (ao 15) ai) (ao 7))))))) (bc (bo 17 nd (aA aX (aA dW (ao 11) (aP aH (ao 15) ai)) (aA dW (ao 12) (iw i8 T.int_ (aE (je Dm (aP aH (ao 15) ai) (ao 7))))))) (bH (fT (bS (ze hr) (aS (aC (ao 16) (ao 17))) (aS (aC (ao 13) (ao 13)))) (fy (bS cT (aA a_ (bq cx hr (aC (ao 0) ai)) ai) ai))).pt (eZ (aR.one hr) (ao 14) (ao 15) (aS (aC (ao 16) (ao 17))) (by rfl))))))) (ak (bo 18 nd (bB cO)) (bc (dU (bF (ao 4)) (bp 19 nd) (a9 (dU (uN T.range_ (aE (aA cV (ao 3) ai))) (bp 20 nd) (a9 (aV (bR JR J1 J2 bL (ao 18) (aE (aS (aC (aA fc (ao 19) (aS (aE (ao 20)))) (aA fc (ao 19) (aS (aE (aA aX (ao 20) ai))))))))))))) (aD (bB (av (bz (qp hr) T.sorted_ (aE (ao 18))) (av (aA dW (aA dW (ao 11) (aA cV (ao 3) ai)) (bz aO T.len_ (aE (ao 4)))) (aC (ao 13) (ao 14)))))))))))))))),?_⟩
 let ce:N9=2^24:=rfl
 let Z0:=kW ns
 let hC:=kZ ns
 let hN:=m9 ns
 let g3:=BV ns
 let⟨fl,rl,b4,fr,b8,ch⟩:=u_ hO.pm
 let t0:=hO.t0
 let t1:=hO.t1
 let f1:=hO.f1
 let f6:=hO.f6
 show bQ λRh co=>?_
 show⟨_,Z,_,Z,t,_,Z,bh.of hA.tp,(λz=>absurd z.2 (by change¬HT.sIx 8 8 (some 4)=8;decide)),λp1 n1=>?_⟩
 rw[show gh [V.int (Cz ns:Nat),.ref la,.ref ot,.int aW,.int nw,.ref ro,.ref tl,.ref dd] none (some 4)=[.int (Cz ns:Nat),.ref la,.ref ot,.int aW] from Z]
 let s1:au H (Oc H p1 (.tup [.int (Cz ns:Nat),.ref la,.ref ot,.int aW])):=(au.refl H).upd n1
 show⟨p1,[.int (Cz ns:Nat),.ref la,.ref ot,.int aW],Z,bh.of af,Z,_,_,Z,_,_,Z,_,_,Z,_,_,Z,Z,co _ _ ?_⟩
 revert s1
 generalize Oc H p1 (.tup [.int (Cz ns:Nat),.ref la,.ref ot,.int aW])=H1
 intro s1
 show iU (σ':=[some (.ref a),some (.ref t),some (.int ah),some (.int (Cz ns:Nat)),some (.ref la),some (.ref ot),some (.int aW),none,none,none,none,none,none,none,none,none,none,none,none,none,none]) (by kernel_rfl) ?_
 show bQ λRh co=>?_
 show⟨_,Z,_,Z,t,_,Z,bh.of (s1 _ _ hA.tp),(λz=>absurd z.1 (by change¬HT.sIx 8 0 (some 4)=0;decide)),λp2 n2=>?_⟩
 rw[show gh [V.int (Cz ns:Nat),.ref la,.ref ot,.int aW,.int nw,.ref ro,.ref tl,.ref dd] (some 4) none=[.int nw,.ref ro,.ref tl,.ref dd] from Z]
 let aa:au H1 (Oc H1 p2 (.tup [.int nw,.ref ro,.ref tl,.ref dd])):=(au.refl H1).upd n2
 show⟨p2,[.int nw,.ref ro,.ref tl,.ref dd],Z,bh.of af,Z,_,_,Z,_,_,Z,_,_,Z,_,_,Z,Z,co _ _ ?_⟩
 revert aa
 generalize Oc H1 p2 (.tup [.int nw,.ref ro,.ref tl,.ref dd])=H2
 intro aa
 let s2:=s1.trans aa
 show iU (σ':=[some (.ref a),some (.ref t),some (.int ah),some (.int (Cz ns:Nat)),some (.ref la),some (.ref ot),some (.int aW),some (.int nw),some (.ref ro),some (.ref tl),some (.ref dd),none,none,none,none,none,none,none,none,none,none]) (by kernel_rfl) ?_
 obtain⟨cm,d6⟩:∃cm,cm=ah+2*aW:=⟨_,Z⟩
 show bV (v:=.int cm) (cA (aQ ∅ (bM az ∅ (A_ (by decide) (by decide)))) (by rw[d6])) ?_
 show bV az ?_
 let be:=s2.seq ha
 show gy (λcy H'=>∃du:Int,cy=[some (.ref a),some (.ref t),some (.int ah),some (.int (Cz ns:Nat)),some (.ref la),some (.ref ot),some (.int aW),some (.int nw),some (.ref ro),some (.ref tl),some (.ref dd),some (.int cm),some (.int du),none,none,none,none,none,none,none,none]/\au H2 H'/\0<=du/\du<=1000000000000)
  (aI (aQ ∅ ∅)) (λ_ R hR=>?_) (λ_ R hR=>hR _ _ ⟨0,Z,au.refl _,Int.le_refl 0,by decide⟩) ?_
 ·show CH (EH (bK 7 (ag ∅ (ag az aw)) be) ?_)
  show gm [.int 1,.int 5,.int (10^12)] (ag az (ag az (ag (bM az az (Fc (by decide) (by decide) (by decide))) aw))) (by change 3<=1000;decide) λl H5 s5 nl fk=>?_
  let⟨c,ec,hc⟩:=IM 1 5 (10^12) (bZ ns 6/8)
  show ff (bM (bM (bK 6 (ag ∅ (ag az aw)) (s5.seq be)) az (zo (by decide) (by decide))) az (by change(0:Int)<3;decide)) ⟨l,_,_,_,Z,Z,aM.of fk,ec,?_⟩
  let c0:0<c:=by rcases hc with z|z|z<;>lia
  let c1:c<=1000000000000:=by rcases hc with z|z|z<;>lia
  show⟨_,_,Z,Z,c0,hR _ _ ⟨bZ ns 7%c,Z,s5,JO _ (),?_⟩⟩
  have:=JQ (bZ ns 7) c0
  lia
 rintro cy H3 ⟨du,rfl,bD,d0,d1⟩
 let s3:=s2.trans bD
 let sl: -2^64<cm/\cm<2^64:=by lia
 obtain⟨de,e1⟩:∃de,de=cm*(((Cz ns:Nat):Int) - 1)+du:=⟨_,Z⟩
 show bV (v:=.int de) (cA (aQ (bM ∅ (aQ ∅ az) (A_ sl.1 sl.2)) ∅) (by rw[e1])) ?_
 show cg λRh co=>λh nh=>co _ _ ?_
 let ab:au H3 (Oc H3 h (.dT [])):=(au.refl H3).upd nh
 let hh:Oc H3 h (.dT []) h>.dT (aJ []):=af
 revert ab hh
 generalize Oc H3 h (.dT [])=H4
 intro ab hh
 let s4:=s3.trans ab
 let fh:H h=none:=s3.free nh
 let ap:=s4 _ _ hA.dd
 let L:h≠dd:=λz=>by rw[z,s3 _ _ hA.dd] at nh;cases nh
 show iU (σ':=[some (.ref a),some (.ref t),some (.int ah),some (.int (Cz ns:Nat)),some (.ref la),some (.ref ot),some (.int aW),some (.int nw),some (.ref ro),some (.ref tl),some (.ref dd),some (.int cm),some (.int du),some (.int de),some (.ref h),none,none,none,none,none,none]) (by kernel_rfl) ?_
 show bQ λRh co=>?_
 show⟨dd,.dT (aZ (Rz ns) (Cz ns) F'),ap,trivial,λo=>?_⟩
 show⟨_,Z,dd,o,.dT (aZ (Rz ns) (Cz ns) F'),Z,af,trivial,?_⟩
 let sF:Sb dd H4 (Oc H4 dd (.frz o (.dT (aZ (Rz ns) (Cz ns) F')))):=λb x nb eb=>by rw[aj nb];show eb
 let ef:Oc H4 dd (.frz o (.dT (aZ (Rz ns) (Cz ns) F'))) dd>.frz o (.dT (aZ (Rz ns) (Cz ns) F')):=af
 let an:=sF _ _ L hh
 let N:∀{H2},Sb h (Oc H4 dd (.frz o (.dT (aZ (Rz ns) (Cz ns) F')))) H2->Sb h H4 (Oc H2 dd (.dT (aZ (Rz ns) (Cz ns) F'))):=λs b x nb eb=>by
  by_cases z:b=dd
  ·subst z;rw[ap] at eb;cases eb;show af
  ·rw[aj z];show s _ _ nb (aj z<|eb)
 revert ef N an sF
 generalize Oc H4 dd (.frz o (.dT (aZ (Rz ns) (Cz ns) F')))=HF
 intro sF ef an N
 let bx:∀{H'},Sb h HF H'->aM K H' a (ns.map V.int):=λsb=>oA (s4.seq ha) ap λb o nb eb nz=>sb _ _ (λw=>by rw[w,hh] at eb;cases eb;show nz _ Z) (sF _ _ nb eb)
 show eV (u:=.dT (aZ (Rz ns) (Cz ns) F')) (λi σ H'=>∃(C F B:Option V) (ls:-(T3×V)) (hs:-(T3×Int×Int)),σ=[some (.ref a),some (.ref t),some (.int ah),some (.int (Cz ns:Nat)),some (.ref la),some (.ref ot),some (.int aW),some (.int nw),some (.ref ro),some (.ref tl),some (.ref dd),some (.int cm),some (.int du),some (.int de),some (.ref h),C,F,B,none,none,none]/\Sb h HF H'/\H' h>.dT (aJ ls)/\Nb (o3 H') ls hs/\(hs.map (·.1)).Sublist ((F'.take i).map λp=>sN (Rz ns) (Cz ns) p.1))
  ⟨none,none,none,[],[],Z,Sb.refl _ _,an,.nil,List.Sublist.refl _⟩ (λi σ H' _ hz=>by let⟨_,_,_,_,_,_,sb,_⟩:=hz;show sb _ _ L.symm ef) ?_ ?_
 ·rintro i x v σ H' ⟨k,b,hk,rfl,hb⟩ hi ⟨C,F,B,ls,hs,rfl,sb,M,hp,d⟩
  rw[show aZ (Rz ns) (Cz ns) F'=F'.map λp=>(iK (sN (Rz ns) (Cz ns) p.1),p.2) from Z,Jn] at hk
  let⟨y,hy,ey⟩:=JH.mp hk
  let ey:(iK (sN (Rz ns) (Cz ns) y.1),y.2)=(k,v):=ey
  cases ey
  let hb:H' b>.tup ((sN (Rz ns) (Cz ns) y.1).map V.int):=by rw[<-cC];show hb
  let ck:↑hs<=i:=by have:=d.length_le;rw[Jb,Jb,JT] at this;lia
  let few:=hO.ft.few
  let cj:i<↑F':=(Js.mp hy).1
  let ca:↑ls=↑hs:=Nb.length hp
  show gn ?_
  obtain⟨w2,fm⟩:∃w2:Int,(sN (Rz ns) (Cz ns) y.1).map V.int=[.int ((y.1:Int)/(Cz ns:Nat)/(Rz ns:Nat)),.int ((y.1:Int)/(Cz ns:Nat)%(Rz ns:Nat)),.int w2]:=⟨_,Z⟩
  let S:∀{σ:St} {tv:TE},Ev tv σ H' (.ref b)->Ev (gb (mX K) tv (tC (.int 2))) σ H' (.int w2):=λh=>cW h az (by rw[hb,fm]) (bC (j:=2) Z)
  show bV (aQ (bM ∅ (S ∅) (A_ sl.1 sl.2)) (bM ∅ (qk (aQ (S ∅) ∅)) (E_ (Cb _).1 (Cb _).2))) ?_
  show bV (aQ (bM ∅ (S ∅) (A_ sl.1 sl.2)) (bM ∅ (qk (aQ (S ∅) ∅)) (E_ (Cb _).1 (Cb _).2))) ?_
  generalize cm*w2+du*(if decide (nw<w2)=true then 1 else 0)=lo
  generalize cm*w2+du*(if decide (nw<=w2)=true then 1 else 0)=hi'
  let bi:∀q∈hs,q.1≠sN (Rz ns) (Cz ns) y.1:=λq hq e=>by
   let m:=d.subset (JG (f:=(·.1)) hq)
   let⟨y',bm,b3⟩:=Jh.mp m
   let e2:y'.1=y.1:=by
    have:sN (Rz ns) (Cz ns) y.1∈[y'.1].map (sN (Rz ns) (Cz ns)):=by rw[<-e,<-b3];show Jg.mpr Z
    show(Jg.mp ((m4 Z0).mp this)).symm
   let nd:=hO.ft.nd
   let sp:F'=F'.take i++F'.drop i:=(List.take_append_drop i F').symm
   rw[sp,Jf] at nd
   show(Kh.mp nd).2.2 y'.1 (JG bm) y.1 (JG (Jl (i:=0) (List.getElem?_drop<|K9<|hy))) e2
  let a1:(hs.map (·.1)).Sublist ((F'.take (i+1)).map λp=>sN (Rz ns) (Cz ns) p.1):=aN hy<|Jf<|d.trans (List.sublist_append_left _ _)
  let bA:∀HA tV,au H' HA->HA tV>.tup [.int lo,.int hi']->Sb h HF (Oc HA h (.dT (bW (aJ ls) (iK (sN (Rz ns) (Cz ns) y.1)) (.ref tV))))/\∃g,Oc HA h (.dT (bW (aJ ls) (iK (sN (Rz ns) (Cz ns) y.1)) (.ref tV))) h>.dT (aJ g)/\Nb (o3 (Oc HA h (.dT (bW (aJ ls) (iK (sN (Rz ns) (Cz ns) y.1)) (.ref tV))))) g (hs++[(sN (Rz ns) (Cz ns) y.1,lo,hi')]):=λHA tV sA ej=>by
   let b0:=sA _ _ M
   let nt:∀b xs,HA b>.tup xs->Oc HA h (.dT (bW (aJ ls) (iK (sN (Rz ns) (Cz ns) y.1)) (.ref tV))) b>.tup xs:=λb xs e=>by rw[aj (bu e b0 (λz=>by cases z))];show e
   show⟨(sb.trans (Sb.of sA)).set,jG.new hp bi af (λb xs e=>nt b xs (sA _ _ e)) (nt _ _ ej)⟩
  let go:∀{D:jf} {HA:Hp} {σ:St},au H' HA->σ=[some (.ref a),some (.ref t),some (.int ah),some (.int (Cz ns:Nat)),some (.ref la),some (.ref ot),some (.int aW),some (.int nw),some (.ref ro),some (.ref tl),some (.ref dd),some (.int cm),some (.int du),some (.int de),some (.ref h),some (.ref b),some (.int lo),some (.int hi'),none,none,none]->(∀HB,Sb h HF HB->(∃g,HB h>.dT (aJ g)/\Nb (o3 HB) g (hs++[(sN (Rz ns) (Cz ns) y.1,lo,hi')]))->D.nx σ HB)->rA (cR 14) (cR 15) (p_ (bX (cR 16) (bX (cR 17) fE))) D σ HA:=fun{D HA σ} sA eR h=>by
   subst eR
   show fb (cS _ (ag ∅ (ag ∅ aw)) (by change 2<=1000;decide) λtV HC sC nC ex=>?_)
   let ax:=sA.trans sC
   let⟨f1,f2⟩:=bA HC tV ax ex
   show⟨_,Z,_,Z,_,_,Z,ip.t (ax _ _ M) (fS (ax _ _ hb)) (aL (by unfold aJ;rw[Jb];lia)),h _ f1 f2⟩
  let a6:((hs++[(sN (Rz ns) (Cz ns) y.1,lo,hi')]).map (·.1)).Sublist ((F'.take (i+1)).map λp=>sN (Rz ns) (Cz ns) p.1):=by
   rw[aN hy,Jf,Jf];show List.Sublist.append d (List.Sublist.refl _)
  show gT (lK ?_)
  show cS _ (ag ∅ (ag ∅ aw)) (by change 2<=1000;decide) λpA HA sA nA eA=>?_
  show cS _ (ag ∅ (ag ∅ aw)) (by change 2<=1000;decide) λpB HB sB nB em=>?_
  let I:=sA.trans sB
  show⟨_,_,Dp.ints (ns:=[lo,hi']) (bh.of (sB _ _ eA)),Dp.ints (ns:=[de,de]) (bh.of em),Jt (dB _) (by decide),_,Z,?_⟩
  show jd (λ_=>c9 (go I Z λHB f1 f2=>?_)) (λ_=>?_)
  ·let⟨g,f3,f4⟩:=f2
   show⟨_,_,_,g,_,Z,f1,f3,f4,a6⟩
  ·show zF (aI (dY (bM (bK 9 (ag ∅ (ag az aw)) (I.seq (bx sb))) az (by change(0:Int)<2;decide)) az)) ?_
   show jd (λ_=>go I Z λHB f1 f2=>?_) (λ_=>?_)
   ·let⟨g,f3,f4⟩:=f2
    show⟨_,_,_,g,_,Z,f1,f3,f4,a6⟩
   ·show⟨_,_,_,ls,hs,Z,sb.trans (Sb.of I),I _ _ M,Nb.mapP hp λ_ _ z=>?_,a1⟩
    let⟨z1,t',z2,z3⟩:=z
    show⟨z1,t',z2,I _ _ z3⟩
 ·rintro σ H' ⟨C,F,B,ls,hs,rfl,sb,M,hp,d⟩
  show⟨sb _ _ L.symm ef,co _ _ ?_⟩
  let Y:=N sb
  let a0:Oc H' dd (.dT (aZ (Rz ns) (Cz ns) F')) h>.dT (aJ ls):=aj L<|M
  let ac:Nb (o3 (Oc H' dd (.dT (aZ (Rz ns) (Cz ns) F')))) ls hs:=Nb.mapP hp λ_ _ z=>by
   let⟨z1,t',z2,z3⟩:=z
   show⟨z1,t',z2,aj (bu z3 (sb _ _ L.symm ef) (λz=>by cases z))<|z3⟩
  revert Y a0 ac
  generalize Oc H' dd (.dT (aZ (Rz ns) (Cz ns) F'))=H5
  intro Y a0 ac
  let few:=hO.ft.few
  rw[show nU (.dT (aZ (Rz ns) (Cz ns) F'))=↑F' from by change(aZ (Rz ns) (Cz ns) F').length=_;rw[eI],Jx] at d
  let s5:au H H5:=λb o e=>Y _ _ (λz=>by rw[z,fh] at e;cases e) (s4 _ _ e)
  show cg λRh co=>gm [] aw (Ju _) λw H6 dt d2 hw=>co _ _ ?_
  let s6:=s5.trans dt
  let fw:H w=none:=s5.free d2
  let⟨J,ar,a4⟩:=hA.la.same s6
  let bn:↑J=↑fj:=by rw[Nb.length a4,Jb]
  show iU (σ':=[some (.ref a),some (.ref t),some (.int ah),some (.int (Cz ns:Nat)),some (.ref la),some (.ref ot),some (.int aW),some (.int nw),some (.ref ro),some (.ref tl),some (.ref dd),some (.int cm),some (.int du),some (.int de),some (.ref h),C,F,B,some (.ref w),none,none]) (by kernel_rfl) ?_
  let bb:∀{b:N8} {o:HO},H5 b>o->b≠w:=λe z=>by rw[z,d2] at e;cases e
  let⟨b5,bl,_⟩:=hA.la.same s5
  let a2:la≠w:=bb bl
  show bQ λRh co=>?_
  show⟨_,Z,la,Z,⟨_,aM.of ar⟩,?_⟩
  show bf (K:=K) (xs:=J.map V.ref) (λi σ H'=>∃(am r:Option V) (wa:-N8) (W:-(T3×T3)),σ=[some (.ref a),some (.ref t),some (.int ah),some (.int (Cz ns:Nat)),some (.ref la),some (.ref ot),some (.int aW),some (.int nw),some (.ref ro),some (.ref tl),some (.ref dd),some (.int cm),some (.int du),some (.int de),some (.ref h),C,F,B,some (.ref w),am,r]/\Sb w H6 H'/\H' w>.lst (wa.map V.ref)/\fP H' wa W/\L3 W/\↑W=i*(Cz ns - 1))
   ⟨none,none,[],[],Z,Sb.refl _ _,hw,.nil,(λ_ z=>by cases z),by rw[Nat.zero_mul];rfl⟩ (λi σ H' _ hz=>by let⟨_,_,_,_,_,z,_⟩:=hz;show aM.of (z _ _ a2 ar)) ?_ ?_
  ·rintro i v σ H' hv ⟨am,r,wa,W,rfl,sb,A,hW,h3,lW⟩
   let⟨b,hb,rfl⟩:=bJ hv
   let Ih:i<↑J:=(Js.mp hb).1
   let⟨cc,ba,O⟩:=br a4 hb
   rw[Jn] at ba
   let⟨j,hj,rfl⟩:=JH.mp ba
   let a7:b≠w:=λz=>by rw[z,hw] at O;cases O
   show gn ?_
   show jZ (j:=((Cz ns - 1:Nat):Int)) (ag (cA (aQ ∅ az) (congrArg V.int ())) aw) () () ?_
   show eO (n:=((Cz ns - 1:Nat):Int).toNat) (λx σ H'=>∃(r:Option V) (wa:-N8) (W:-(T3×T3)),σ=[some (.ref a),some (.ref t),some (.int ah),some (.int (Cz ns:Nat)),some (.ref la),some (.ref ot),some (.int aW),some (.int nw),some (.ref ro),some (.ref tl),some (.ref dd),some (.int cm),some (.int du),some (.int de),some (.ref h),C,F,B,some (.ref w),some (.ref b),r]/\Sb w H6 H'/\H' w>.lst (wa.map V.ref)/\fP H' wa W/\L3 W/\↑W=i*(Cz ns - 1)+x)
    ⟨r,wa,W,Z,sb,A,hW,h3,lW⟩ ?_ ?_
   ·rintro x σ H' hx ⟨r,wa,W,rfl,sb,A,hW,h3,lW⟩
    let hx:x<Cz ns - 1:=by simpa using hx
    let b7:i*(Cz ns - 1)<=6*5:=LG () ()
    let lwa:↑wa=↑W:=↑hW
    show gn ?_
    show dR ⟨_,Z,.inl ⟨Z,_,aM.of A⟩,?_⟩
    show cE ?_
    show eB (c:=Cz ns) (x:=x) ∅ (sb _ _ a7 O) () (cA ∅ (by rw[Ki])) λp7 H7 s7 hB er=>?_
    show eB (c:=Cz ns) (x:=x+1) ∅ (s7 _ _ (sb _ _ a7 O)) () (cA (aQ ∅ az) (congrArg V.int ())) λp8 H8 s8 g4 eW=>?_
    show⟨by change 2<=N9;decide,λp9 eS=>?_⟩
    let s9:au H8 (Oc H8 p9 (.tup [.ref p7,.ref p8])):=(au.refl H8).upd eS
    let e9:Oc H8 p9 (.tup [.ref p7,.ref p8]) p9>.tup [.ref p7,.ref p8]:=af
    revert s9 e9
    generalize Oc H8 p9 (.tup [.ref p7,.ref p8])=H9
    intro s9 e9
    let ad:=s7.trans (s8.trans s9)
    let a3:=ad _ _ A
    let kt:∀b xs,H9 b>.tup xs->Oc H9 w (.lst (wa.map V.ref++[.ref p9])) b>.tup xs:=bj a3
    show⟨w,_,_,Z,Z,a3,aL (by rw[Jb];lia),?_⟩
    show⟨_,wa++[p9],W++[(sN (Rz ns) (Cz ns) (j*Cz ns+x),sN (Rz ns) (Cz ns) (j*Cz ns+(x+1)))],Z,(sb.trans (Sb.of ad)).set,by rw[af,Jf];rfl,?_,?_,by rw[Jo,lW];rfl⟩
    ·show cG ((hW.same ad).tups kt) (.cons ⟨p7,p8,kt _ _ e9,kt _ _ (s9 _ _ (s8 _ _ er)),kt _ _ (s9 _ _ eW)⟩ .nil)
    ·intro e he
     rcases Jz.mp he with z|z
     ·show h3 e z
     ·rw[Jg.mp z];show⟨Z,Z⟩
   ·rintro σ H' ⟨r,wa,W,rfl,sb,A,hW,h3,lW⟩
    show⟨_,_,wa,W,Z,sb,A,hW,h3,?_⟩
    rw[lW,Kn,Nat.add_mul,Nat.one_mul]
  ·rintro σ H' ⟨am,r,wa,W,rfl,sb,A,hW,h3,lW⟩
   show co _ _ ?_
   rw[Jb,bn] at lW
   let lwa:↑wa=↑W:=↑hW
   let b1:↑fj*(Cz ns - 1)<=6*5:=LG f6 ()
   let b2:1*1<=↑fj*(Cz ns - 1):=LG f1 ()
   let X:au H5 H':=λb o e=>sb _ _ (bb e) (dt _ _ e)
   let bd:au H H':=s5.trans X
   show dr (fX ?_)
   show⟨_,Z,w,wa,W,Z,aM.of A,hW,h3,(),λw2 bs ds dp e3 dC _=>?_⟩
   let s8:au H' (Oc H' w2 (.lst (bs.map V.ref))):=(au.refl H').upd dp
   let U:Oc H' w2 (.lst (bs.map V.ref)) w2>.lst (bs.map V.ref):=af
   revert s8 U
   generalize Oc H' w2 (.lst (bs.map V.ref))=H8
   intro s8 U
   let a5:=bd.trans s8
   show cE (ff (bM (bM ∅ (aQ ∅ az) (A_ sl.1 sl.2)) (cD (K:=K) ∅ (s8 _ _ (sb _ _ a2 ar))) (E_ () (by rw[Jb];lia))) ?_)
   show⟨_,Z,_,Z,by change 4<=N9;decide,λm nm=>?_⟩
   let s9:au H8 (Oc H8 m (.lst [.ref w2,.int (cm*(((Cz ns:Nat):Int) - 1)*(↑(J.map V.ref):Nat)),.int de,.ref h])):=(au.refl H8).upd nm
   let cd:↑ds=↑W:=dC.length_eq
   let bv:Nb (o3 (Oc H8 m (.lst [.ref w2,.int (cm*(((Cz ns:Nat):Int) - 1)*(↑(J.map V.ref):Nat)),.int de,.ref h]))) ls hs:=Nb.mapP ac λ_ _ z=>by
    let⟨z1,t',z2,z3⟩:=z
    show⟨z1,t',z2,s9 _ _ (s8 _ _ (X _ _ z3))⟩
   show q _ m w2 h _ de bs ds hs (a5.trans s9) (a5.free nm) (bd.free dp) fh (λz=>by rw[z,U] at nm;cases nm) ⟨af,s9 _ _ U,e3.same (s8.trans s9),ls,s9 _ _ (s8 _ _ (X _ _ a0)),bv⟩ ⟨λe he=>h3 e (dC.mem_iff.mp he),(),d.nodup ?_,λq hq=>?_,?_⟩ ()
   ·show BS hO.ft.nd λi _ j _ e=>by
     have:sN (Rz ns) (Cz ns) i∈[j].map (sN (Rz ns) (Cz ns)):=e<|Jg.mpr Z
     show Jg.mp ((m4 Z0).mp this)
   ·let⟨p,hp,e⟩:=Jh.mp (d.subset (JG (f:=(·.1)) hq))
    rw[<-e]
    show An (hO.ft.lt p hp)
   ·have:=d.length_le
    rw[Jb,Jb] at this
    lia
theorem yG:jo P w K mg Oa 1 "_law_step" zR ["prices", "tolls", "one", "two"] pY:=by
 show rd ["prices", "tolls", "one", "two", "price"] λnd _ _ _ _ _ H vs Q E hr h=>?_
 let⟨L,td,a,b,ps,R,C,ts,x,y,w,x',d,f,rfl,hp,M,ht,hv,ha,hb,I,J,q⟩:=h
 show⟨_,(ak (bo 4 nd (aA aX (bR JL JZ J7 (dk hr) (ao 1) (aC (ao 2) ai)) (bR JL JZ J7 (dk hr) (ao 1) (aC (ao 3) ai)))) (bc (bH (bS f9 (aP aH (ao 2) ai) (aP aH (ao 3) ai)) (aD (aA aX (ao 4) (aP aF (ao 0) ai)))) (aD (aA aX (ao 4) (aP aF (ao 0) (aA aX (aA dW ai (aP aH (ao 2) ai)) (iw i8 T.int_ (aE (je f9 (aP aH (ao 2) ai) (aP aH (ao 3) ai)))))))))),?_⟩
 let l:∀{n:Nat} {u:N8} {c:T3} {σ:St},σ[1]?>some (.ref td)->σ[n]?>some (.ref u)->H u>.tup (c.map V.int)->Ev (yl K "dict" lS (cR 1) (bX (cR n) (bX (tC (.int 0)) fE))) σ H (.int (dJ R C ts c)):=fun{n u c σ} B p r=>by
  have:=lJ (K:=K) (td:=cR 1) (ty:=cR n) (tz:=tC (.int 0)) (ae B) (ae p) az ht (gx.t (k:=iK c) ht (show H u>.tup ((iK c).map kV) by unfold iK;rw[cC];show r))
  rwa [jb hv c] at this
 show bV (aQ (l Z Z (c:=[x,y,w]) ha) (l Z Z (c:=[x',d,f]) hb)) ?_
 let m:∀j:Nat,j<5->jH (ps.map V.int) (j:Int)>.int (ps.getD j 0):=λj g=>bC (by rw[Jn,JI (),JP,JI ()];rfl)
 show gH (aI (gX (cf (v:=.int x) ∅ az (bh.of ha) Z) (cf (v:=.int x') ∅ az (bh.of hb) Z))) (λe=>?_) (λe=>?_)
 ·let A:x≠x':=by simpa using e
  let es:iH ps R C ts [x,y,w] [x',d,f]=dJ R C ts [x,y,w]+dJ R C ts [x',d,f]+ps.getD 4 0:=by unfold iH;rw[N1 (show([x,y,w]:T3).getD 0 0≠([x',d,f]:T3).getD 0 0 from A)]
  rw[es] at q
  show dy (aQ ∅ (c8 ∅ az (aM.of hp) (m 4 (by decide)))) q
 ·let D:x=x':=by simpa using e
  obtain⟨j,g,o⟩:∃j:Nat,j<5/\2*x+(if (!decide (y=d))=true then 1 else 0)=(j:Int):=by
   show⟨(2*x+(if (!decide (y=d))=true then 1 else 0)).toNat,?_,?_⟩<;>split<;>lia
  let es:iH ps R C ts [x,y,w] [x',d,f]=dJ R C ts [x,y,w]+dJ R C ts [x',d,f]+ps.getD j 0:=by
   unfold iH
   rw[N0 (show¬([x,y,w]:T3).getD 0 0≠([x',d,f]:T3).getD 0 0 from λz=>z D)]
   have:(2*([x,y,w]:T3).getD 0 0+(if ([x,y,w]:T3).getD 1 0≠([x',d,f]:T3).getD 1 0 then 1 else 0))=(j:Int):=by
    rw[<-o]
    change 2*x+(if y≠d then 1 else 0)=_
    by_cases z:y=d<;>simp[z]
   rw[this,Kn]
  rw[es] at q
  show dy (aQ ∅ (c8 (i:=(j:Int)) (v:=.int (ps.getD j 0)) ∅ ?_ (aM.of hp) (m j g))) q
  rw[<-o]
  show aQ (bM az (cf (v:=.int x) ∅ az (bh.of ha) Z) (A_ (by decide) (by decide))) (dH (ag (gX (cf (v:=.int y) ∅ az (bh.of ha) Z) (cf (v:=.int d) ∅ az (bh.of hb) Z)) aw) λQ' F=> .inr ⟨_,Z,F⟩)
theorem wW (dc:aT P w K mg Oa "_law_cell_at" 1 ["script", "k"] (eE K))(c5:aT P w K mg Oa "_law_beside" 1 ["doors", "spot"] iz):jo P w K mg Oa 2 "_law_spoilt" v8 ["script", "made", "doors", "extra"] (sr K):=by
 show rd ["script", "made", "doors", "extra", "wires", "price", "depth", "heights", "way", "some", "pick", "spot", "wire"] λnd _ _ _ _ _ H vs Q E hr h=>?_
 let⟨a,m,wr,h,dd,ns,pr,de,ex,as,W,hs,F',rfl,ha,hm,hO,ba,hd,hT,bb,ch,cm,D,q⟩:=h
 show⟨_,(ak (e_ (ao 1) (v_ Z (aB (bp 4 nd) (aB (bp 5 nd) (aB (bp 6 nd) (aB (bp 7 nd) bT)))))) (ak (bo 8 nd (aA a_ (bq dc hr (aC (ao 0) ai)) ai)) (ak (bo 9 nd (aP aF (bB (av ai (av (mn jz ai) (aC ai (mn jz (aA kP ai ai)))))) (aA a_ (aA dO (bq dc hr (aC (ao 0) ai)) ai) ai))) (ak (bo 10 nd (bq dc hr (aC (ao 0) ai))) (ak (bo 11 nd (aP aF (bz (pE Z) T.sorted_ (aE (ao 2))) (aA a_ (ao 10) (bz uQ T.len_ (aE (ao 2)))))) (ak (bo 12 nd (aP aF (ao 4) (aA a_ (ao 10) (bz aO T.len_ (aE (ao 4)))))) (ak (bH (bS cT (ao 8) ai) (aD (bB (av (ao 4) (av (aA aX (ao 5) (ao 9)) (aC (ao 6) (ao 7))))))) (ak (bH (fT (bS cT (ao 8) ai) (fy (bS cT (ao 8) ai))).pt (aD (bB (av (ao 4) (av (aA aX (ao 5) (aA dW (aA dW (ao 9) (aA cV (ao 8) ai)) (ao 3))) (aC (aA aX (ao 6) (ao 9)) (ao 7))))))) (ak (bH (fQ (bS cT (ao 8) ai) (eG (gw (f_ (aR.one hr) (ao 11) (ao 7))))).pt (eZ (aR.one hr) (ao 7) (ao 11) (aS (aC (aA aX (aP aH (dE (aR.one hr) (ao 7) (ao 11) (λ_ _=>rfl)) ai) (ao 9)) (aP aH (dE (aR.one hr) (ao 7) (ao 11) (λ_ _=>rfl)) ai))) (by rfl))) (ak (bH (fQ (bS cT (ao 8) ai) (eG (gw (f_ (aR.one hr) (ao 11) (ao 7))))).pt (eZ (aR.one hr) (ao 7) (ao 11) (aS (aC (aP aH (dE (aR.one hr) (ao 7) (ao 11) (λ_ _=>rfl)) ai) (aA aX (aP aH (dE (aR.one hr) (ao 7) (ao 11) (λ_ _=>rfl)) ai) (ao 9)))) (by rfl))) (ak (bH (bS cT (ao 8) ai) (aV (bR JR PySem.F.slot_list_remove PySem.F.type_list_remove (uk hr) (ao 4) (aE (ao 12))))) (ak (bH (bS cT (ao 8) ai) (aV (bR JR J1 J2 bL (ao 4) (aE (aP aF (bB (aC (ao 12) (aS (aC (aP aH (ao 12) ai) (aP aH (ao 12) ai))))) (aA a_ (ao 10) ai)))))) (ak (bH (bS cT (ao 8) ai) (e_ (aS (aC (aP aH (ao 12) ai) (aP aH (ao 12) ai))) (Eu (ao 4) (aA a_ (ao 10) (bz aO T.len_ (aE (ao 4)))) Ac))) (ak (bH (bS cT (ao 8) ai) (eZ (aR.one hr) (ao 7) (aS (av (aA a_ (aA dO (ao 10) ai) ai) (aC (aA a_ (aA dO (ao 10) ai) ai) (aA a_ (ao 10) ai)))) (aS (aC (ao 6) (aA cV (ao 6) (aA a_ (aA dO (ao 10) ai) ai)))) (by rfl))) (ak (bH (fQ (bS cT (ao 8) ai) (eG (gw (f_ (aR.one hr) (ao 11) (ao 7))))).pt (aV (bR JL LZ PySem.F.type_dict_pop (pX hr) (ao 7) (aE (ao 11))))) (ak (bH (bS cT (ao 8) ai) (aV (bR JL LZ PySem.F.type_dict_pop (pX hr) (ao 2) (aE (ao 11))))) (ak (bH (fQ (bS cT (ao 8) ai) (eG (bS jg (bz aO T.len_ (aE (bq c5 hr (aC (ao 2) (ao 11))))) ai))).pt (aV (bR JR J1 J2 bL (ao 4) (aE (aS (aC (ao 11) (aP aF (bq c5 hr (aC (ao 2) (ao 11))) ai))))))) (bc (bH (bS cT (ao 8) ai) (aV (bR JR J1 J2 bL (ao 4) (aE (aS (aC (ao 11) (aS (av (aP aH (ao 11) ai) (aC (aP aH (ao 11) ai) (aA aX (aP aH (ao 11) ai) ai)))))))))) (aD (bB (av (ao 4) (av (ao 5) (aC (ao 6) (ao 7)))))))))))))))))))))))),?_⟩
 let ck:N9=2^24:=rfl
 let Z0:=kW ns
 let gc:=BV ns
 let few:=hT.few
 let len:↑as=↑W:=↑hm.W
 let wl:=hO.wl
 show⟨_,Z,m,_,_,_,_,Z,aM.of hm.m,_,_,Z,_,_,Z,_,_,Z,_,_,Z,Z,st ?_⟩
 show iU (σ':=[some (.ref a),some (.ref m),some (.ref dd),some (.int ex),some (.ref wr),some (.int pr),some (.int de),some (.ref h),none,none,none,none,none]) (by kernel_rfl) ?_
 obtain⟨wy,e6⟩:∃wy,wy=bZ ns 10%18:=⟨_,Z⟩
 show bV (v:=.int wy) (cA (bM (bK 10 (ag ∅ (ag az aw)) ha) az (by change(0:Int)<18;decide)) (by rw[e6])) ?_
 show cQ ?_
 show gm [.int 1,.int (-1),.int 3,.int (-(10^12:_))] (ag az (ag (tL (i:=1) az) (ag az (ag (tL (bM az az (Fc (by decide) (by decide) (by decide)))) aw)))) (by change 4<=1000;decide) λl1 H1 s1 hy eR=>?_
 let⟨sm,a7,b3⟩:=IE 1 (-1) 3 (-(10^12:_)) (bZ ns 10/18)
 show ff (bM (bM (bK 10 (ag ∅ (ag az aw)) (s1.seq ha)) az (zo (by decide) (by decide))) az (by change(0:Int)<4;decide)) ⟨l1,_,_,_,Z,Z,aM.of eR,a7,?_⟩
 let an: -2^64<sm/\sm<2^64:=by rcases b3 with z|z|z|z<;>lia
 show bV (bK 11 (ag ∅ (ag az aw)) (s1.seq ha)) ?_
 generalize bZ ns 11=pk
 show cQ ?_
 let bn:=s1 _ _ hd
 show⟨_,Z,dd,_,F'.map λp=>sN (Rz ns) (Cz ns) p.1,Z,bn,by unfold aZ;rw[JF,JF];rfl,λc hc z=>?_,by rw[Jb];lia,λso di hD eA en d0 _=>?_⟩
 ·let⟨p,_,rfl⟩:=Jh.mp hc
  cases z
 let S:au H1 (Oc H1 so (.lst (di.map V.ref))):=(au.refl H1).upd eA
 let N:Oc H1 so (.lst (di.map V.ref)) so>.lst (di.map V.ref):=af
 revert S N
 generalize Oc H1 so (.lst (di.map V.ref))=H2
 intro S N
 let s2:=s1.trans S
 let bx:↑di=↑F':=by rw[Nb.length en,d0.length_eq,Jb]
 let lF:1<=↑F':=by
  cases F' with
  |nil=>show absurd Z bb
  |cons _ _=>show KS (Ju _)
 let⟨j,sp,hj,ej,_,_⟩:=qa (as:=di) pk ()
 show ff (v:=.int (pk%(↑di:Nat))) (cA (bM ∅ (dH (v:=.int (↑F':Nat)) (ag ∅ aw) λQ' q'=>⟨dd,_,Z,.inl (s2 _ _ hd),eI<|q'⟩) (by change(0:Int)<(↑F':Nat);lia)) (by rw[bx])) ⟨so,_,_,_,Z,Z,aM.of N,ej,?_⟩
 let⟨cs,bA,a4⟩:=br en hj
 let⟨pF,a2,bv⟩:=Jh.mp (d0.mem_iff.mp (Jl bA))
 let f:=S _ _ a4
 rw[<-bv] at f
 let kM:=hT.lt pF a2
 let ax:=An kM
 let⟨jw,wi,a6,bd,_,_⟩:=qa (as:=as) pk ()
 show bV (c8 (v:=.ref wi) ∅ (cA (bM ∅ (cD (K:=K) ∅ (s2 _ _ hm.w)) (by change(0:Int)<(↑(as.map V.ref):Nat);rw[Jb];lia)) (by rw[Jb])) (aM.of (s2 _ _ hm.w)) bd) ?_
 let⟨ew,wx,u,a3,B,aa,ah⟩:=(hm.W.same s2).at a6
 show iU (σ':=[some (.ref a),some (.ref m),some (.ref dd),some (.int ex),some (.ref wr),some (.int pr),some (.int de),some (.ref h),some (.int wy),some (.int sm),some (.int pk),some (.ref sp),some (.ref wi)]) (by kernel_rfl) ?_
 let J0:ke H2 H2 wr h dd (Rz ns) (Cz ns) as W hs F':=⟨Bt.refl _ _,s2 _ _ hm.w,hm.W.same s2,hm.h.same s2,s2 _ _ hd⟩
 let eW:∀{i:Int} {H':Hp},jm (k9 (gb GB (cR 8) (tC (.int i)))) [some (.ref a),some (.ref m),some (.ref dd),some (.int ex),some (.ref wr),some (.int pr),some (.int de),some (.ref h),some (.int wy),some (.int sm),some (.int pk),some (.ref sp),some (.ref wi)] H' (decide (wy=i)):=fun{i H'}=>aI (dY ∅ az)
 let am:∀{H':Hp} {cU:-N8} {W':-(T3×T3)} {d:-(T3×Int×Int)} {F2:-(Nat×V)} (dx dt:Int),ke H2 H' wr h dd (Rz ns) (Cz ns) cU W' d F2->kL W' d 33 49->F2.Sublist F'->∀p,H' p=none->Q (.ref p) (Oc H' p (.lst [.ref wr,.int dx,.int dt,.ref h])):=fun{H' cU W' d F2} dx dt J O sub p np=>by
  let M:au H' (Oc H' p (.lst [.ref wr,.int dx,.int dt,.ref h])):=(au.refl H').upd np
  show q _ p dx dt cU W' d F2 ⟨λb o nb e=>M _ _ (J.bt _ _ nb (s2 _ _ e)),M _ _ J.w,J.W.same M,J.h.same M,M _ _ J.d⟩ ?_ af O sub
  cases e:H p with
  |none=>rfl
  |some o=>
   have:p∉[wr,h,dd]:=λz=>by
    simp only[Jk,JJ,or_false] at z
    rcases z with z|z|z
    ·rw[z,J.w] at np;cases np
    ·let⟨_,y,_⟩:=J.h;rw[z,y] at np;cases np
    ·rw[z,J.d] at np;cases np
   rw[J.bt _ _ this (s2 _ _ e)] at np;cases np
 let ek:kL W hs 33 49:=⟨hO.l3,(),hO.nd,hO.g3,by have:=hO.hl;lia⟩
 show gH eW (λ_=>?_) (λ_=>?_)
 ·show dr (gY (ag ∅ (ag (aQ ∅ ∅) (ag ∅ (ag ∅ aw)))) (by change 4<=N9;decide) λp np=>am _ _ J0 ek (List.Sublist.refl _) p np)
 show gH (AK eW λ_=>eW) (λz=>?_) (λ_=>?_)
 ·let cj:wy=2\/wy=3:=by
   by_cases y2:wy=2
   ·show .inl y2
   ·by_cases y3:wy=3
    ·show .inr y3
    ·rw[N5 y2,N5 y3] at z;cases z
  let b1: -2^64<ex/\ex<2^64:=by lia
  show dr (gY (ag ∅ (ag (aQ ∅ (bM (bM ∅ (aQ ∅ az) (A_ an.1 an.2)) ∅ (E_ b1.1 b1.2))) (ag (aQ ∅ ∅) (ag ∅ aw)))) (by change 4<=N9;decide) λp np=>am _ _ J0 ek (List.Sublist.refl _) p np)
 let a5:∀{b:N8} {xs:-V},H2 b>.tup xs->b∉[wr,h,dd]:=fun{b xs} z y=>by
  simp only[Jk,JJ,or_false] at y
  rcases y with y|y|y
  ·rw[y,J0.w] at z;cases z
  ·let⟨_,x,_⟩:=J0.h;rw[y,x] at z;cases z
  ·rw[y,J0.d] at z;cases z
 let kt:∀{H':Hp} {cU:-N8} {W':-(T3×T3)} {d:-(T3×Int×Int)} {F2:-(Nat×V)},ke H2 H' wr h dd (Rz ns) (Cz ns) cU W' d F2->∀{b:N8} {xs:-V},H2 b>.tup xs->H' b>.tup xs:=fun{_ _ _ _ _} J {_ _} z=>J.bt _ _ (a5 z) z
 let J:=J0
 let O:kL W hs 30 48:=hO
 let⟨ls,e1,e2⟩:=J.h
 let hg:=dg (.inl e1) (kt J f)
 show gy (λcF H'=>cF=[some (.ref a),some (.ref m),some (.ref dd),some (.int ex),some (.ref wr),some (.int pr),some (.int de),some (.ref h),some (.int wy),some (.int sm),some (.int pk),some (.ref sp),some (.ref wi)]/\∃d,ke H2 H' wr h dd (Rz ns) (Cz ns) as W d F'/\kL W d 30 48) (h9 eW λ_=>uj (lX ∅ ∅ hg)) (λz R hR=>?_) (λ_ R hR=>hR _ _ ⟨Z,_,J,O⟩) ?_
 ·rw[Jv] at z
  let zs:=z.2
  rw[cM] at zs
  rcases kJ e2 (sN (Rz ns) (Cz ns) pF.1) with ⟨y1,_⟩|⟨t,q',y1,_,y3⟩
  ·rw[y1] at zs;cases zs
  rw[cM,y1] at hg
  let eg:∀{j:Int} {v:V},jH [.int q'.1,.int q'.2] j>v->Ev (gb (mX K) (qZ (cR 7) (cR 11)) (tC (.int j))) [some (.ref a),some (.ref m),some (.ref dd),some (.int ex),some (.ref wr),some (.int pr),some (.int de),some (.ref h),some (.int wy),some (.int sm),some (.int pk),some (.ref sp),some (.ref wi)] H2 v:=λe=>cW (eF ∅ ∅ hg) az y3 e
  show fb (cS _ (ag (aQ (eg (j:=0) Z) ∅) (ag (eg (j:=1) Z) aw)) (by change 2<=1000;decide) λtV HA sA nA hA=>?_)
  let⟨d,f1,f2,f3⟩:=J.put D O e1 e2 sA ax hA
  let hl:=O.hl
  let ap:↑ls=_:=Nb.length e2
  show⟨_,Z,_,Z,_,_,Z,ip.t (sA _ _ e1) (fS (sA _ _ (kt J f))) (aL (by unfold aJ;rw[Jb];lia)),hR _ _ ⟨Z,d,f1,f3 zs⟩⟩
 rintro cF H3 ⟨rfl,b7,J,O⟩
 let⟨ls,e1,e2⟩:=J.h
 let hg:=dg (.inl e1) (kt J f)
 show gy (λcF H'=>cF=[some (.ref a),some (.ref m),some (.ref dd),some (.int ex),some (.ref wr),some (.int pr),some (.int de),some (.ref h),some (.int wy),some (.int sm),some (.int pk),some (.ref sp),some (.ref wi)]/\∃d,ke H2 H' wr h dd (Rz ns) (Cz ns) as W d F'/\kL W d 30 48) (h9 eW λ_=>uj (lX ∅ ∅ hg)) (λz R hR=>?_) (λ_ R hR=>hR _ _ ⟨Z,_,J,O⟩) ?_
 ·rw[Jv] at z
  let zs:=z.2
  rw[cM] at zs
  rcases kJ e2 (sN (Rz ns) (Cz ns) pF.1) with ⟨y1,_⟩|⟨t,q',y1,_,y3⟩
  ·rw[y1] at zs;cases zs
  rw[cM,y1] at hg
  let eg:∀{j:Int} {v:V},jH [.int q'.1,.int q'.2] j>v->Ev (gb (mX K) (qZ (cR 7) (cR 11)) (tC (.int j))) [some (.ref a),some (.ref m),some (.ref dd),some (.int ex),some (.ref wr),some (.int pr),some (.int de),some (.ref h),some (.int wy),some (.int sm),some (.int pk),some (.ref sp),some (.ref wi)] H3 v:=λe=>cW (eF ∅ ∅ hg) az y3 e
  show fb (cS _ (ag (eg (j:=0) Z) (ag (aQ (eg (j:=1) Z) ∅) aw)) (by change 2<=1000;decide) λtV HA sA nA hA=>?_)
  let⟨d,f1,f2,f3⟩:=J.put D O e1 e2 sA ax hA
  let hl:=O.hl
  let ap:↑ls=_:=Nb.length e2
  show⟨_,Z,_,Z,_,_,Z,ip.t (sA _ _ e1) (fS (sA _ _ (kt J f))) (aL (by unfold aJ;rw[Jb];lia)),hR _ _ ⟨Z,d,f1,f3 zs⟩⟩
 rintro cF H4 ⟨rfl,g,J,O⟩
 show gy (λcF H'=>cF=[some (.ref a),some (.ref m),some (.ref dd),some (.int ex),some (.ref wr),some (.int pr),some (.int de),some (.ref h),some (.int wy),some (.int sm),some (.int pk),some (.ref sp),some (.ref wi)]/\∃cU W',ke H2 H' wr h dd (Rz ns) (Cz ns) cU W' g F'/\kL W' g 30 48/\(wy≠6->1<=↑W')) eW (λz R hR=>?_) (λ_ R hR=>hR _ _ ⟨Z,as,W,J,O,λ_=>ba⟩) ?_
 ·show dR ⟨_,Z,.inl ⟨Z,_,aM.of J.w⟩,_,Z,wr,wi,as,ew,W,Z,Z,⟨wx,u,kt J B,kt J aa,kt J ah⟩,J.w,J.W,Jl a3,λj hj=>hR _ _ ⟨Z,as.eraseIdx j,W.eraseIdx j,J.wset (au.refl _) (sW J.W j),?_,λy=>absurd (N4 z) y⟩⟩
  show⟨λe he=>O.l3 e ((List.eraseIdx_sublist _ _).subset he),Jt (List.eraseIdx_sublist _ _).length_le O.wl,O.nd,O.g3,O.hl⟩
 rintro cF H5 ⟨rfl,ad,W5,J,O,w6⟩
 let b6:↑ad=↑W5:=↑J.W
 let cd:=O.wl
 let rev:∀{HA:Hp} {p:N8},au H5 HA->HA p>.tup [.ref u,.ref wx]->∃x y,HA p>.tup [.ref x,.ref y]/\HA x>.tup (ew.2.map V.int)/\HA y>.tup (ew.1.map V.int):=λsA e=>⟨u,wx,e,sA _ _ (kt J ah),sA _ _ (kt J aa)⟩
 let I:=hO.l3 ew (Jl a3)
 show gy (λcF H'=>cF=[some (.ref a),some (.ref m),some (.ref dd),some (.int ex),some (.ref wr),some (.int pr),some (.int de),some (.ref h),some (.int wy),some (.int sm),some (.int pk),some (.ref sp),some (.ref wi)]/\∃cU W',ke H2 H' wr h dd (Rz ns) (Cz ns) cU W' g F'/\kL W' g 31 48/\(wy≠6->1<=↑W')) eW (λz R hR=>?_) (λ_ R hR=>hR _ _ ⟨Z,ad,W5,J,O.more () (),w6⟩) ?_
 ·show dR ⟨_,Z,.inl ⟨Z,_,aM.of J.w⟩,?_⟩
  show cE (qz (fX ⟨_,Z,?_⟩))
  show cS [.ref u,.ref wx] (ag (cW ∅ az (kt J B) Z) (ag (cW ∅ az (kt J B) Z) aw)) (by change 2<=1000;decide) λp HA sA nA hA=>?_
  show⟨by change 2<=N9;decide,λl nl=>?_⟩
  let sB:au HA (Oc HA l (.lst [.ref wi,.ref p])):=(au.refl HA).upd nl
  let hl:Oc HA l (.lst [.ref wi,.ref p]) l>.lst [.ref wi,.ref p]:=af
  revert sB hl
  generalize Oc HA l (.lst [.ref wi,.ref p])=HB
  intro sB hl
  let r:=sA.trans sB
  let⟨cv,bD,bm⟩:=Hw (.ref wi) (.ref p) pk
  show ff (bM ∅ az (by change(0:Int)<2;decide)) ⟨l,_,_,_,Z,Z,aM.of hl,bD,?_⟩
  let hw:=r _ _ J.w
  obtain⟨b,e,eb,hb,he⟩:∃b e,cv=.ref b/\lZ HB b e/\(↑e.1=3/\↑e.2=3):=by
   rcases bm with y|y
   ·show⟨wi,ew,y,⟨wx,u,r _ _ (kt J B),r _ _ (kt J aa),r _ _ (kt J ah)⟩,I⟩
   ·show⟨p,(ew.2,ew.1),y,rev r (sB _ _ hA),I.2,I.1⟩
  subst eb
  show⟨wr,_,_,Z,Z,hw,aL (by rw[Jb];lia),hR _ _ ⟨Z,ad++[b],W5++[e],?_,O.app he.1 he.2,λ_=>by rw[Jo];show Nat.le_add_left 1 _⟩⟩
  have:=J.wset r (as':=ad++[b]) (W':=W5++[e]) (cG (J.W.same r) (.cons hb .nil))
  rw[Jf] at this
  show this
 rintro cF H6 ⟨rfl,A,W6,J,O,w6⟩
 let b4:↑A=↑W6:=↑J.W
 let cB:=O.wl
 show gy (λcF H'=>cF=[some (.ref a),some (.ref m),some (.ref dd),some (.int ex),some (.ref wr),some (.int pr),some (.int de),some (.ref h),some (.int wy),some (.int sm),some (.int pk),some (.ref sp),some (.ref wi)]/\∃cU W',ke H2 H' wr h dd (Rz ns) (Cz ns) cU W' g F'/\kL W' g 31 48) eW (λz R hR=>?_) (λ_ R hR=>hR _ _ ⟨Z,A,W6,J,O⟩) ?_
 ·let w8:wy=8:=N4 z
  let⟨j8,b8,_,_,bl,_⟩:=qa (as:=A) pk (by have:=w6 ();lia)
  show Bc (cS [.ref u,.ref wx] (ag (cW ∅ az (kt J B) Z) (ag (cW ∅ az (kt J B) Z) aw)) (by change 2<=1000;decide) λp HA sA nA hA=>?_)
  let hw:=sA _ _ J.w
  let l6:=w6 ()
  show⟨_,Z,ff (v:=.int (pk%(↑A:Nat))) (cA (bM ∅ (cD (K:=K) ∅ hw) (by change(0:Int)<(↑(A.map V.ref):Nat);rw[Jb];lia)) (by rw[Jb])) ⟨wr,_,_,j8,Z,Z,hw,bl,hR _ _ ⟨Z,A.set j8 p,W6.set j8 (ew.2,ew.1),?_,?_⟩⟩⟩
  ·have:=J.wset sA (as':=A.set j8 p) (W':=W6.set j8 (ew.2,ew.1)) (Ek (J.W.same sA) (by
    let⟨x,y,r1,r2,r3⟩:=(⟨u,wx,hA,sA _ _ (kt J ah),sA _ _ (kt J aa)⟩:∃x y,HA p>.tup [.ref x,.ref y]/\HA x>.tup (ew.2.map V.int)/\HA y>.tup (ew.1.map V.int))
    show⟨x,y,r1,r2,r3⟩) j8)
   rw[List.map_set] at this
   show this
  ·show⟨λe he=>?_,Lq<|O.wl,O.nd,O.g3,O.hl⟩
   rcases List.mem_or_eq_of_mem_set he with y|y
   ·show O.l3 e y
   ·rw[y];show⟨I.2,I.1⟩
 rintro cF H7 ⟨rfl,n,W7,J,O⟩
 let⟨ls,e1,e2⟩:=J.h
 let ap:↑ls=↑g:=Nb.length e2
 let ce:=O.hl
 show gy (λcF H'=>cF=[some (.ref a),some (.ref m),some (.ref dd),some (.int ex),some (.ref wr),some (.int pr),some (.int de),some (.ref h),some (.int wy),some (.int sm),some (.int pk),some (.ref sp),some (.ref wi)]/\∃d,ke H2 H' wr h dd (Rz ns) (Cz ns) n W7 d F'/\kL W7 d 31 49) eW (λz R hR=>?_) (λ_ R hR=>hR _ _ ⟨Z,_,J,O.more () ()⟩) ?_
 ·show fb (cS _ (ag ∅ (ag (aQ ∅ (bM (bM ∅ az (zo (by decide) (by decide))) az (by change(0:Int)<2;decide))) aw)) (by change 2<=1000;decide) λtV HA sA nA hA=>?_)
  show⟨_,Z,?_⟩
  show cS _ (ag (bM (bM ∅ az (zo (by decide) (by decide))) az (by change(0:Int)<3;decide)) (ag (bM (bM ∅ az (zo (by decide) (by decide))) az (by change(0:Int)<5;decide)) (ag (bM ∅ az (by change(0:Int)<7;decide)) aw))) (by change 3<=1000;decide) λtK HB sB nB hB=>?_
  let g9:G3 [pk/7%3,pk/3%5,pk%7]:=by
   let a0:=JO (pk/7) (show(3:Int)≠0 by decide)
   let a1:=JQ (pk/7) (show(0:Int)<3 by decide)
   let b0:=JO (pk/3) (show(5:Int)≠0 by decide)
   let b1:=JQ (pk/3) (show(0:Int)<5 by decide)
   let c0:=JO pk (show(7:Int)≠0 by decide)
   let c1:=JQ pk (show(0:Int)<7 by decide)
   show⟨(pk/7%3).toNat,(pk/3%5).toNat,(pk%7).toNat,?_,(),(),()⟩
   rw[L1 a0,L1 b0,L1 c0]
  let⟨d,f1,f2,f3⟩:=J.put D O e1 e2 (sA.trans sB) g9 (sB _ _ hA)
  show⟨_,_,Z,ip.t ((sA.trans sB) _ _ e1) (fS (show HB tK>.tup (([pk/7%3,pk/3%5,pk%7]:T3).map V.int) from hB)) (aL (by unfold aJ;rw[Jb];lia)),hR _ _ ⟨Z,d,f1,f2⟩⟩
 rintro cF H8 ⟨rfl,ct,J,O⟩
 let⟨ls,e1,e2⟩:=J.h
 let hg:=dg (.inl e1) (kt J f)
 show gy (λcF H'=>cF=[some (.ref a),some (.ref m),some (.ref dd),some (.int ex),some (.ref wr),some (.int pr),some (.int de),some (.ref h),some (.int wy),some (.int sm),some (.int pk),some (.ref sp),some (.ref wi)]/\∃d,ke H2 H' wr h dd (Rz ns) (Cz ns) n W7 d F'/\kL W7 d 31 49) (h9 eW λ_=>uj (lX ∅ ∅ hg)) (λz R hR=>?_) (λ_ R hR=>hR _ _ ⟨Z,_,J,O⟩) ?_
 ·rw[Jv] at z
  let⟨v,ev⟩:=K0.mp z.2
  show dR ⟨_,Z,.inr (.inr (.inl ⟨Z,.inr ⟨_,e1⟩⟩)),_,Z,h,sp,_,iK (sN (Rz ns) (Cz ns) pF.1),v,Z,Z,e1,fS (kt J f),ev,?_⟩
  let X:∀b xs,H8 b>.tup xs->Oc H8 h (.dT (lz (aJ ls) (iK (sN (Rz ns) (Cz ns) pF.1)))) b>.tup xs:=λb xs z=>by rw[aj (bu z e1 (λy=>by cases y))];show z
  let⟨d,f1,f2,f3,f4⟩:=jG.del (H':=Oc H8 h (.dT (lz (aJ ls) (iK (sN (Rz ns) (Cz ns) pF.1))))) e2 O.nd O.g3 af X
  show hR _ _ ⟨Z,d,J.hset D (au.refl _) f1,O.l3,O.wl,f2,f3,Jt f4 O.hl⟩
 rintro cF H9 ⟨rfl,L,J,O⟩
 show gy (λcF H'=>cF=[some (.ref a),some (.ref m),some (.ref dd),some (.int ex),some (.ref wr),some (.int pr),some (.int de),some (.ref h),some (.int wy),some (.int sm),some (.int pk),some (.ref sp),some (.ref wi)]/\∃F2,ke H2 H' wr h dd (Rz ns) (Cz ns) n W7 L F2/\F2.Sublist F') eW (λz R hR=>?_) (λ_ R hR=>hR _ _ ⟨Z,_,J,List.Sublist.refl _⟩) ?_
 ·obtain⟨v,ev⟩:∃v,bg (aZ (Rz ns) (Cz ns) F') (iK (sN (Rz ns) (Cz ns) pF.1))>v:=by
   rw[iM Z0]
   show K0.mp (eX.mpr (JG a2))
  show dR ⟨_,Z,.inr (.inr (.inl ⟨Z,.inr ⟨_,J.d⟩⟩)),_,Z,dd,sp,_,iK (sN (Rz ns) (Cz ns) pF.1),v,Z,Z,J.d,fS (kt J f),ev,?_⟩
  let⟨F2,f1,f2⟩:=wj (R:=Rz ns) (C:=Cz ns) (F:=F') (k:=iK (sN (Rz ns) (Cz ns) pF.1))
  rw[f1]
  let X:∀b xs,H9 b>.tup xs->Oc H9 dd (.dT (aZ (Rz ns) (Cz ns) F2)) b>.tup xs:=λb xs z=>by rw[aj (bu z J.d (λy=>by cases y))];show z
  let⟨ls,e1,e2⟩:=J.h
  show hR _ _ ⟨Z,F2,⟨J.bt.set (by simp),aj J.nhw.2.symm<|J.w,J.W.tups X,⟨ls,aj D.symm<|e1,Nb.mapP e2 λ_ _ z=>?_⟩,af⟩,f2⟩
  let⟨z1,t,z2,z3⟩:=z
  show⟨z1,t,z2,X _ _ z3⟩
 rintro cF HA ⟨rfl,FA,J,sub⟩
 let b5:↑n=↑W7:=↑J.W
 let cc:=O.wl
 let⟨cx,cy,cw,ec⟩:=dS (uE (Rz ns) (Cz ns) pF.1)
 rw[ec] at f
 show pJ (λcF H'=>cF=[some (.ref a),some (.ref m),some (.ref dd),some (.int ex),some (.ref wr),some (.int pr),some (.int de),some (.ref h),some (.int wy),some (.int sm),some (.int pk),some (.ref sp),some (.ref wi)]/\∃cU W',ke H2 H' wr h dd (Rz ns) (Cz ns) cU W' L FA/\kL W' L 32 49) (λR hR=>?_) ?_
 ·show gT (eW _ (jd (λ_=>?_) λ_=>jd (λz=>by cases z) λ_=>hR _ _ ⟨Z,n,W7,J,O.more () ()⟩))
  show⟨_,Z,_,Z,dd,sp,⟨0,Rz ns,Cz ns,0,[],[],[],[]⟩,FA,cx,cy,cw,Z,.inl J.d,kt J f,λHB lb sB _ e9=>?_⟩
  let⟨xs,x1,x2⟩:=jN e9
  show⟨_,_,Z,.inl ⟨_,aM.of x1,Z⟩,_,_,Z,Z,_,Z,?_⟩
  let JB:=J.same sB
  show jd (λz=>?_) λ_=>hR _ _ ⟨Z,n,W7,JB,O.more () ()⟩
  let z:(0:Int)<↑xs:=N4 z
  show dR ⟨_,Z,.inl ⟨Z,_,aM.of JB.w⟩,?_⟩
  show cE ⟨_,Z,_,Z,_,Z,dd,sp,⟨0,Rz ns,Cz ns,0,[],[],[],[]⟩,FA,cx,cy,cw,Z,.inl JB.d,kt JB f,λHC lc sC _ e4=>?_⟩
  let⟨ar,o1,o2⟩:=e4
  let lo:↑ar=↑xs:=by rw[Nb.length o2,x2]
  obtain⟨ob,ee⟩:∃ob,ar[0]?>ob:=⟨_,JI ()⟩
  let⟨co,bi,be⟩:=br o2 ee
  let⟨ox,oy,ow,rfl⟩:=kQ (Ke.mp (Jl bi)).1
  show⟨lc,_,0,.ref ob,Z,Z,aM.of o1,bC (j:=0) (by rw[Jn,ee];rfl),?_⟩
  show⟨by change 2<=N9;decide,λp2 n2=>?_⟩
  let sG:au HC (Oc HC p2 (.tup [.ref sp,.ref ob])):=(au.refl HC).upd n2
  let h2:Oc HC p2 (.tup [.ref sp,.ref ob]) p2>.tup [.ref sp,.ref ob]:=af
  revert sG h2
  generalize Oc HC p2 (.tup [.ref sp,.ref ob])=HG
  intro sG h2
  let Y:=sC.trans sG
  show⟨wr,_,_,Z,Z,Y _ _ JB.w,aL (by rw[Jb];lia),hR _ _ ⟨Z,n++[p2],W7++[([cx,cy,cw],[ox,oy,ow])],?_,O.app Z Z⟩⟩
  have:=JB.wset Y (as':=n++[p2]) (W':=W7++[([cx,cy,cw],[ox,oy,ow])]) (cG (JB.W.same Y) (.cons ⟨sp,ob,h2,Y _ _ (kt JB f),sG _ _ be⟩ .nil))
  rw[Jf] at this
  show this
 rintro cF HD ⟨rfl,ac,WD,J,O⟩
 let ca:↑ac=↑WD:=↑J.W
 let ci:=O.wl
 show gy (λcF H'=>cF=[some (.ref a),some (.ref m),some (.ref dd),some (.int ex),some (.ref wr),some (.int pr),some (.int de),some (.ref h),some (.int wy),some (.int sm),some (.int pk),some (.ref sp),some (.ref wi)]/\∃cU W',ke H2 H' wr h dd (Rz ns) (Cz ns) cU W' L FA/\kL W' L 33 49) eW (λz R hR=>?_) (λ_ R hR=>hR _ _ ⟨Z,ac,WD,J,O.more () ()⟩) ?_
 ·let U:=kt J f
  show dR ⟨_,Z,.inl ⟨Z,_,aM.of J.w⟩,?_⟩
  show cE ⟨_,Z,?_⟩
  show cS [.int cx,.int cy,.int (cw+6)] (ag (cW ∅ az U Z) (ag (cW ∅ az U Z) (ag (aQ (cW ∅ az U Z) az) aw))) (by change 3<=1000;decide) λp HE sE nE hE=>?_
  show⟨by change 2<=N9;decide,λp2 n2=>?_⟩
  let sG:au HE (Oc HE p2 (.tup [.ref sp,.ref p])):=(au.refl HE).upd n2
  let h2:Oc HE p2 (.tup [.ref sp,.ref p]) p2>.tup [.ref sp,.ref p]:=af
  revert sG h2
  generalize Oc HE p2 (.tup [.ref sp,.ref p])=HG
  intro sG h2
  let ab:=sE.trans sG
  show⟨wr,_,_,Z,Z,ab _ _ J.w,aL (by rw[Jb];lia),hR _ _ ⟨Z,ac++[p2],WD++[([cx,cy,cw],[cx,cy,cw+6])],?_,O.app Z Z⟩⟩
  have:=J.wset ab (as':=ac++[p2]) (W':=WD++[([cx,cy,cw],[cx,cy,cw+6])]) (cG (J.W.same ab) (.cons ⟨sp,p,h2,ab _ _ U,sG _ _ hE⟩ .nil))
  rw[Jf] at this
  show this
 rintro cF HH ⟨rfl,cr,WH,J,O⟩
 show dr (gY (ag ∅ (ag ∅ (ag ∅ (ag ∅ aw)))) (by change 4<=N9;decide) λp np=>am _ _ J O sub p np)
theorem uS (cm:aT P w K mg Oa "_law_cell_at" 1 ["script", "k"] (eE K))(ci:aT P w K mg Oa "_law_beside" 1 ["doors", "spot"] iz)(cB:aT P w K mg Oa "_law_step" 1 ["prices", "tolls", "one", "two"] pY):jo P w K mg Oa 2 "_law_lowered" rX ["script", "plan", "prices", "made"] (ko K):=by
 show rd ["script", "plan", "prices", "made", "pick", "lane", "doors", "row", "costs", "spot", "other", "by", "pair"] λnd _ _ _ _ _ H vs Q E hr h=>?_
 let⟨a,t,la,ot,ro,tl,dd,pl,m,wr,h,ns,aW,nw,pr,de,fj,rj,rs,ts,F',as,W,hs,ps,rfl,ha,hA,hT,hV,hm,hO,bb,l5,bD,jq,q⟩:=h
 show⟨_,(ak (bH (fT (bS f9 (aA a_ (bq cm hr (aC (ao 0) ai)) ai) ai) (fy (bS cT (bz aO T.len_ (aE (aP aH (ao 1) ai))) ai))).pt CF) (ak (bo 4 nd (bq cm hr (aC (ao 0) ai))) (ak (bo 5 nd (aP aF (aP aH (ao 1) ai) (aA a_ (ao 4) (bz aO T.len_ (aE (aP aH (ao 1) ai)))))) (ak (bo 6 nd (aP aH (ao 1) ai)) (ak (iE (Bf 7 ["spot"] ["lane"] [5] nd (fU (ao 6)) (eU 0) (uf (bS (Bo (K:=K) Z (by show hr)) (dQ (Bg (K:=K) Z) (ao 0) fG (eC ai)) (ao 1))) (ao 0))) (ak (bo 8 nd (bB cO)) (bc (dU (bF (ao 7)) (bp 9 nd) (a9 (dU (bF (bq ci hr (aC (ao 6) (ao 9)))) (bp 10 nd) (a9 (bH (bS (ze hr) (dQ kB (ao 10) fG (eC ai)) (ao 5)) (aV (bR JR J1 J2 bL (ao 8) (aE (bq cB hr (av (ao 2) (av (aP aH (ao 1) ai) (aC (ao 9) (ao 10))))))))))))) (sP (bS jg (bz aO T.len_ (aE (ao 8))) ai) (bc (bo 11 nd (aA aX (bz (xx Z) T.min_ (aE (ao 8))) (aA a_ (aA dO (ao 4) ai) ai))) (dU (bF (ao 7)) (bp 9 nd) (bc (bo 12 nd (bR JL JZ J7 (dk hr) (aP aF (ao 3) ai) (aC (ao 9) (aS (aC (aP aF (ao 3) ai) (aP aF (ao 3) ai)))))) (eZ (aR.one hr) (aP aF (ao 3) ai) (ao 9) (aS (aC (aA cV (aP aH (ao 12) ai) (ao 11)) (aA cV (aP aH (ao 12) ai) (ao 11)))) (by rfl))))) pd)))))))),?_⟩
 let b4:N9=2^24:=rfl
 let Z0:=kW ns
 let e4:=BV ns
 let few:=hT.few
 let hL:=jI ns
 let⟨N,ac,a4⟩:=id hA.ot
 let b8:↑N=↑rj:=by rw[Nb.length a4,Jb]
 let e2:∀{σ:St},σ[1]?>some (.ref t)->Ev (gb (mX K) (cR 1) (tC (.int 2))) σ H (.ref ot):=λe=>cW (ae e) az hA.tp (bC (j:=2) Z)
 show gH (AK (aI (gX (bM (bK 10 (ag ∅ (ag az aw)) ha) az (by change(0:Int)<18;decide)) az)) λ_=>aI (dY (cD (K:=K) (e2 Z) ac) az)) (λ_=>?_) (λz=>?_)
 ·show q H hs (Sb.refl _ _) hm.h (hO.more () ())
 let a5:1<=↑N:=by
  rw[Bool.or_eq_false_iff] at z
  have:=N6 z.2
  rw[Jb] at this
  lia
 show bV (bK 11 (ag ∅ (ag az aw)) ha) ?_
 generalize bZ ns 11=pk
 let⟨jl,lb,bi,bA,_,_⟩:=qa (as:=N) pk a5
 show bV (c8 (v:=.ref lb) (e2 Z) (cA (bM ∅ (cD (K:=K) (e2 Z) ac) (by change(0:Int)<(↑(N.map V.ref):Nat);rw[Jb];lia)) (by rw[Jb])) (aM.of ac) bA) ?_
 let⟨cl,b5,ap⟩:=br a4 bi
 show bV (v:=.ref dd) (cW ∅ az hA.tp (bC (j:=7) Z)) ?_
 show iU (σ':=[some (.ref a),some (.ref t),some (.ref pl),some (.ref m),some (.int pk),some (.ref lb),some (.ref dd),none,none,none,none,none,none]) (by kernel_rfl) ?_
 show pJ (λcd H'=>∃(D:N8) (bs:-N8) (us:-Nat),cd=[some (.ref a),some (.ref t),some (.ref pl),some (.ref m),some (.int pk),some (.ref lb),some (.ref dd),some (.ref D),none,none,none,none,none]/\au H H'/\H' D>.lst (bs.map V.ref)/\bG H' bs (us.map (sN (Rz ns) (Cz ns)))/\(∀u∈us,u∈F'.map (·.1))/\↑bs<=48) (λR hR=>?_) ?_
 ·show⟨dd,.dT (aZ (Rz ns) (Cz ns) F'),hA.dd,trivial,λo=>?_⟩
  let sF:Sb dd H (Oc H dd (.frz o (.dT (aZ (Rz ns) (Cz ns) F')))):=λb x nb eb=>by rw[aj nb];show eb
  let ef:Oc H dd (.frz o (.dT (aZ (Rz ns) (Cz ns) F'))) dd>.frz o (.dT (aZ (Rz ns) (Cz ns) F')):=af
  let I:∀{H2},au (Oc H dd (.frz o (.dT (aZ (Rz ns) (Cz ns) F')))) H2->au H (Oc H2 dd (.dT (aZ (Rz ns) (Cz ns) F'))):=λs=>thaw hA.dd s
  let ad:=fR hA.dd sF ap (λ_ z=>by cases z)
  revert sF ef I ad
  generalize Oc H dd (.frz o (.dT (aZ (Rz ns) (Cz ns) F')))=HF
  intro sF ef I ad
  show⟨_,Z,dd,o,.dT (aZ (Rz ns) (Cz ns) F'),Z,ef,trivial,λD nD=>?_⟩
  let bl:D≠dd:=λz=>by rw[z,ef] at nD;cases nD
  show eV (u:=.dT (aZ (Rz ns) (Cz ns) F')) (λi τ H'=>∃(x0:Option V) (bs:-N8) (us:-Nat),τ=[x0,some (.ref lb)]/\au HF H'/\H' D>.lst (bs.map V.ref)/\bG H' bs (us.map (sN (Rz ns) (Cz ns)))/\(∀u∈us,u∈F'.map (·.1))/\↑bs<=i)
   ⟨none,[],[],Z,(au.refl HF).upd nD,af,.nil,(λ_ z=>by cases z),Jd _⟩ (λi τ H' _ hz=>by let⟨_,_,_,_,z,_⟩:=hz;show z _ _ ef) ?_ ?_
  ·rintro i x v τ H' ⟨k,b,hk,rfl,hb⟩ hi ⟨x0,bs,us,rfl,s1,hD,g,r,hl⟩
   rw[show aZ (Rz ns) (Cz ns) F'=F'.map λp=>(iK (sN (Rz ns) (Cz ns) p.1),p.2) from Z,Jn] at hk
   let⟨y,hy,ey⟩:=JH.mp hk
   let ey:(iK (sN (Rz ns) (Cz ns) y.1),y.2)=(k,v):=ey
   cases ey
   let hb:H' b>.tup ((sN (Rz ns) (Cz ns) y.1).map V.int):=by rw[<-cC];show hb
   let ca:i<↑F':=(Js.mp hy).1
   show gn ?_
   show⟨_,Z,_,Z,b,_,Z,bh.of hb,(λz=>absurd z.2 (by change¬HT.sIx 3 3 (some 2)=3;decide)),λp np=>?_⟩
   let s2:au H' (Oc H' p (.tup (gh ((sN (Rz ns) (Cz ns) y.1).map V.int) none (some 2)))):=(au.refl H').upd np
   let hp:Oc H' p (.tup (gh ((sN (Rz ns) (Cz ns) y.1).map V.int) none (some 2))) p>.tup (((sN (Rz ns) (Cz ns) y.1).take 2).map V.int):=af
   revert s2 hp
   generalize Oc H' p (.tup (gh ((sN (Rz ns) (Cz ns) y.1).map V.int) none (some 2)))=H2
   intro s2 hp
   let ab:=s1.trans s2
   show⟨_,Z,_,_,Dp.ints (bh.of hp),Dp.ints (bh.of (ab _ _ ad)),Jt (dB _) (by decide),_,Z,?_⟩
   let d:=s2 _ _ hD
   show jd (λ_=>?_) (λ_=>?_)
   ·show⟨_,Z,_,d,aL (by rw[Jb];lia),_,bs++[b],us++[y.1],Z,bE ab nD,by rw[af,Jf];rfl,?_,λu hu=>?_,by rw[Jo];change ↑bs+1<=_;lia⟩
    ·rw[Jf]
     show cG (ay g λ_ _ z=>bj d _ _ (s2 _ _ z)) (.cons (bj d _ _ (s2 _ _ hb)) .nil)
    ·rcases Jz.mp hu with w|w
     ·show r u w
     ·rw[Jg.mp w];show JG (Jl hy)
   ·show⟨_,bs,us,Z,ab,d,ay g λ_ _ z=>s2 _ _ z,r,()⟩
  ·rintro τ H' ⟨x0,bs,us,rfl,s1,hD,g,r,hl⟩
   rw[show nU (.dT (aZ (Rz ns) (Cz ns) F'))=↑F' from by change(aZ (Rz ns) (Cz ns) F').length=_;rw[eI]] at hl
   show⟨s1 _ _ ef,hR _ _ ⟨D,bs,us,Z,I s1,aj bl<|hD,ay g λb xs z=>by rw[aj (bu z (s1 _ _ ef) (λy=>by cases y))];show z,r,()⟩⟩
 rintro cd H1 ⟨D,bs,us,rfl,s1,hD,g,r,b6⟩
 show cg λRh d4=>gm [] aw (Ju _) λcs H2 c3 da c2=>d4 _ _ ?_
 let s2:=s1.trans c3
 let d:=c3 _ _ hD
 let a1:D≠cs:=aq hD da
 let am:H cs=none:=s1.free da
 let Y:=ay g λ_ _ z=>c3 _ _ z
 show iU (σ':=[some (.ref a),some (.ref t),some (.ref pl),some (.ref m),some (.int pk),some (.ref lb),some (.ref dd),some (.ref D),some (.ref cs),none,none,none,none]) (by kernel_rfl) ?_
 let b3:↑bs=↑us:=by rw[Nb.length g,Jb]
 show pJ (λcd H'=>∃(x9 c:Option V) (is:-Int),cd=[some (.ref a),some (.ref t),some (.ref pl),some (.ref m),some (.int pk),some (.ref lb),some (.ref dd),some (.ref D),some (.ref cs),x9,c,none,none]/\Sb cs H2 H'/\H' cs>.lst (is.map V.int)) (λR hR=>?_) ?_
 ·show⟨_,Z,D,Z,⟨_,aM.of d⟩,?_⟩
  show bf (K:=K) (xs:=bs.map V.ref) (λi σ H'=>∃(x9 c:Option V) (is:-Int),σ=[some (.ref a),some (.ref t),some (.ref pl),some (.ref m),some (.int pk),some (.ref lb),some (.ref dd),some (.ref D),some (.ref cs),x9,c,none,none]/\Sb cs H2 H'/\H' cs>.lst (is.map V.int)/\↑is<=6*i)
   ⟨none,none,[],Z,Sb.refl _ _,c2,Jd _⟩ (λi σ H' _ hz=>by let⟨_,_,_,_,z,_⟩:=hz;show aM.of (z _ _ a1 d)) ?_ ?_
  ·rintro i v σ H' hv ⟨x9,c,is,rfl,sb,hc,hl⟩
   let⟨b,hb,rfl⟩:=bJ hv
   let bn:i<↑bs:=(Js.mp hb).1
   let⟨cc,F,f⟩:=br Y hb
   rw[Jn] at F
   let⟨u,hu,rfl⟩:=JH.mp F
   let⟨cx,cy,cw,ec⟩:=dS (uE (Rz ns) (Cz ns) u)
   let uM:u<Nz ns*Cz ns:=by
    let⟨p,hp,e⟩:=Jh.mp (r u (Jl hu))
    rw[<-e];show hT.lt p hp
   let lay:=DI uM ec
   rw[ec] at f
   let nb:∀{b:N8} {xs:-V},H2 b>.tup xs->b≠cs:=λz y=>by rw[y,c2] at z;cases z
   let kH:∀{b:N8} {o:HO},H b>o->H' b>o:=λz=>sb _ _ (λy=>by rw[y,am] at z;cases z) (s2 _ _ z)
   let A:=sb _ _ (nb f) f
   show gn ?_
   show⟨_,Z,_,Z,dd,b,⟨0,Rz ns,Cz ns,0,[],[],[],[]⟩,F',cx,cy,cw,Z,.inl (kH hA.dd),A,λH3 l s3 db d8=>?_⟩
   let⟨S,o1,o2⟩:=d8
   let l6:↑S<=6:=Nb.length o2<|LC _ _
   show⟨l,Z,⟨_,aM.of o1⟩,?_⟩
   let bd:l≠cs:=λy=>by rw[y,hc] at db;cases db
   show bf (K:=K) (xs:=S.map V.ref) (λj σ H'=>∃(c:Option V) (is:-Int),σ=[some (.ref a),some (.ref t),some (.ref pl),some (.ref m),some (.int pk),some (.ref lb),some (.ref dd),some (.ref D),some (.ref cs),some (.ref b),c,none,none]/\Sb cs H3 H'/\H' cs>.lst (is.map V.int)/\↑is<=6*i+j)
    ⟨c,is,Z,Sb.refl _ _,s3 _ _ hc,hl⟩ (λj σ H' _ hz=>by let⟨_,_,_,z,_⟩:=hz;show aM.of (z _ _ bd o1)) ?_ ?_
   ·rintro j w σ H4 hw ⟨c,is,rfl,n,ah,ax⟩
    let⟨ob,a0,rfl⟩:=bJ hw
    let b1:j<↑S:=(Js.mp a0).1
    let⟨co,bm,a2⟩:=br o2 a0
    let⟨ox,oy,ow,rfl⟩:=kQ (Ke.mp (Jl bm)).1
    let n3:∀{b:N8} {xs:-V},H3 b>.tup xs->b≠cs:=λz y=>by rw[y,s3 _ _ hc] at z;cases z
    let k4:∀{b:N8} {o:HO},H b>o->H4 b>o:=λz=>n _ _ (λy=>by rw[y,am] at z;cases z) (s3 _ _ (kH z))
    let ar:=n _ _ (n3 a2) a2
    show gn ?_
    show gT ?_
    show⟨_,Z,_,Z,ob,_,Z,bh.of ar,(λz=>absurd z.2 (by change¬HT.sIx 3 3 (some 2)=3;decide)),λp np=>?_⟩
    let s5:au H4 (Oc H4 p (.tup (gh (([ox,oy,ow]:T3).map V.int) none (some 2)))):=(au.refl H4).upd np
    let hp:Oc H4 p (.tup (gh (([ox,oy,ow]:T3).map V.int) none (some 2))) p>.tup (([ox,oy]:T3).map V.int):=af
    revert s5 hp
    generalize Oc H4 p (.tup (gh (([ox,oy,ow]:T3).map V.int) none (some 2)))=H5
    intro s5 hp
    show⟨_,Z,_,_,Dp.ints (bh.of hp),Dp.ints (bh.of (s5 _ _ (k4 ap))),Jt (dB _) (by decide),_,Z,?_⟩
    let an:=s5 _ _ ah
    show jd (λ_=>?_) (λ_=>⟨_,is,Z,n.trans (Sb.of s5),an,()⟩)
    show dR ⟨_,Z,.inl ⟨Z,_,aM.of an⟩,?_⟩
    let bx:=s5 _ _ (k4 hA.tp)
    show cE ⟨_,Z,_,Z,t,_,6,_,Z,Z,bh.of bx,Z,_,Z,_,Z,pl,tl,b,ob,ps,Rz ns,Cz ns,ts,cx,cy,cw,ox,oy,ow,Z,s5 _ _ (k4 bb),l5,s5 _ _ (k4 hA.tl),hV,s5 _ _ (n _ _ (n3 (s3 _ _ A)) (s3 _ _ A)),s5 _ _ ar,lay.1,lay.2,?_⟩
    show⟨cs,_,_,Z,Z,an,aL (by rw[Jb];lia),_,is++[_],Z,(n.trans (Sb.of s5)).set,by rw[af,Jf];rfl,by rw[Jo];change ↑is+1<=_;lia⟩
   ·rintro σ H4 ⟨c,is,rfl,n,ah,ax⟩
    rw[Jb] at ax
    show⟨_,_,is,Z,sb.trans ((Sb.of s3).trans n),ah,()⟩
  ·rintro σ H' ⟨x9,c,is,rfl,sb,hc,hl⟩
   show hR _ _ ⟨_,_,is,Z,sb,hc⟩
 rintro cd H3 ⟨x9,c,is,rfl,U,a3⟩
 let k3:∀{b:N8} {o:HO},H b>o->H3 b>o:=λz=>U _ _ (λy=>by rw[y,am] at z;cases z) (s2 _ _ z)
 let s3:au H H3:=λb o z=>k3 z
 show jt (aI (aQ (cD (K:=K) ∅ a3) az)) (λz=>?_) (λ_=>?_)
 rotate_left
 ·show q H3 hs (λb o _ z=>k3 z) (hm.h.same s3) (hO.more () ())
 let z:(0:Int)<(↑(is.map V.int):Nat):=N4 z
 rw[Jb] at z
 show cQ ⟨_,Z,cs,is,Z,aM.of a3,(),λM _ _=>?_⟩
 show ff (bM (bM ∅ az (zo (by decide) (by decide))) az (by change(0:Int)<2;decide)) ⟨_,_,Z,Z,?_⟩
 show iU (σ':=[some (.ref a),some (.ref t),some (.ref pl),some (.ref m),some (.int pk),some (.ref lb),some (.ref dd),some (.ref D),some (.ref cs),x9,c,some (.int (M+pk/8%2)),none]) (by kernel_rfl) ?_
 generalize M+pk/8%2=ej
 let L:=U _ _ a1 d
 let a6:bG H3 bs (us.map (sN (Rz ns) (Cz ns))):=ay Y λb xs z=>U _ _ (λy=>by rw[y,c2] at z;cases z) z
 let DZ:=hm.same s3
 let⟨b7,aa,_⟩:=id DZ.h
 let be:D≠h:=λy=>by rw[y,aa] at L;cases L
 let a7:m≠h:=λy=>by have:=DZ.m;rw[y,aa] at this;cases this
 show⟨_,Z,D,Z,⟨_,aM.of L⟩,?_⟩
 show bf (K:=K) (xs:=bs.map V.ref) (λi σ H'=>∃(x9 X:Option V) (C:-(T3×Int×Int)),σ=[some (.ref a),some (.ref t),some (.ref pl),some (.ref m),some (.int pk),some (.ref lb),some (.ref dd),some (.ref D),some (.ref cs),x9,c,some (.int ej),X]/\Sb h H3 H'/\jG H' h C/\kL W C 33 (49+i))
  ⟨x9,none,hs,Z,Sb.refl _ _,DZ.h,hO⟩ (λi σ H' _ hz=>by let⟨_,_,_,_,z,_⟩:=hz;show aM.of (z _ _ be L)) ?_ ?_
 ·rintro i v σ H' hv ⟨x9,X,C,rfl,sb,⟨ls,e1,e2⟩,O⟩
  let⟨b,hb,rfl⟩:=bJ hv
  let bn:i<↑bs:=(Js.mp hb).1
  let⟨cc,F,f⟩:=br a6 hb
  rw[Jn] at F
  let⟨u,hu,rfl⟩:=JH.mp F
  let uM:u<Nz ns*Cz ns:=by
   let⟨p,hp,e⟩:=Jh.mp (r u (Jl hu))
   rw[<-e];show hT.lt p hp
  let nb:b≠h:=λy=>by rw[y,aa] at f;cases f
  let A:=sb _ _ nb f
  let J:=sb _ _ a7 DZ.m
  let hl:=O.hl
  let b0:↑ls=↑C:=Nb.length e2
  show gn ?_
  show cQ ⟨_,Z,m,_,3,_,Z,Z,aM.of J,Z,.inr (.inr (.inl ⟨Z,.inr ⟨_,e1⟩⟩)),_,Z,?_⟩
  show cS [.int de,.int de] (ag (c8 ∅ az (aM.of J) (bC (j:=2) Z)) (ag (c8 ∅ az (aM.of J) (bC (j:=2) Z)) aw)) (by change 2<=1000;decide) λp HA sA nA hA=>?_
  show⟨h,.ref b,.ref p,_,Z,Z,dg (.inl (sA _ _ e1)) (sA _ _ A),?_⟩
  rw[cM]
  obtain⟨tp,lo,hi,ea,dc⟩:∃tp lo hi,(bg ls (sN (Rz ns) (Cz ns) u)).getD (.ref p)=.ref tp/\HA tp>.tup [.int lo,.int hi]:=by
   rcases kJ e2 (sN (Rz ns) (Cz ns) u) with ⟨y1,_⟩|⟨tp,q',y1,_,y3⟩
   ·rw[y1];show⟨p,de,de,Z,hA⟩
   ·rw[y1];show⟨tp,_,_,Z,sA _ _ y3⟩
  rw[ea]
  show fb (cS _ (ag (aQ (cW ∅ az dc (bC (j:=0) Z)) ∅) (ag (aQ (cW ∅ az dc (bC (j:=1) Z)) ∅) aw)) (by change 2<=1000;decide) λtV HB sB nB hB=>?_)
  let B:=sA.trans sB
  show⟨_,Z,m,_,3,_,Z,Z,aM.of (B _ _ J),Z,_,Z,h,_,Z,ip.t (B _ _ e1) (fS (B _ _ A)) (aL (by unfold aJ;rw[Jb];lia)),?_⟩
  let ba:=B _ _ e1
  let kt:∀b xs,HB b>.tup xs->Oc HB h (.dT (bW (aJ ls) (iK (sN (Rz ns) (Cz ns) u)) (.ref tV))) b>.tup xs:=λb xs z=>by rw[aj (bu z ba (λy=>by cases y))];show z
  let⟨bv,p1,p2,p3,p4,p5⟩:=jG.put (H':=Oc HB h (.dT (bW (aJ ls) (iK (sN (Rz ns) (Cz ns) u)) (.ref tV)))) e2 O.nd O.g3 (An uM) af (λb xs z=>kt b xs (B _ _ z)) (kt _ _ hB)
  show⟨_,_,bv,Z,(sb.trans (Sb.of B)).set,p1,O.l3,O.wl,p2,p3,()⟩
 ·rintro σ H' ⟨x9,X,C,rfl,sb,hh,O⟩
  rw[Jb] at O
  show q H' C (λb o nb z=>sb _ _ nb (k3 z)) hh (O.more () ())
theorem xQ (bv:aT P w K mg Oa "_law_beside" 1 ["doors", "spot"] iz):jo P w K mg Oa 2 "_law_joined" vS ["wires", "doors", "starts", "goals"] qU:=by
 show rd ["wires", "doors", "starts", "goals", "links", "one", "two", "many", "start", "back", "spot", "ahead"] λnd _ _ _ _ _ H vs Q E hr h=>?_
 let⟨wr,dd,s,t,g,F',as,W,A,B,rfl,hl,hw,h3,hW,hd,⟨ad,F,M⟩,⟨a5,X,Z0⟩,la,q⟩:=h
 show⟨_,(ak (bo 4 nd fJ) (ak (dU (bF (ao 0)) (eJ Z (aB (bp 5 nd) (aB (bp 6 nd) bT))) (ak (bH (fT (gw (iT (aR.one hr) (ao 5) (ao 1))) (fT (e7 (oQ hr) (ao 6) (bq bv hr (aC (ao 1) (ao 5))) (by with_unfolding_all rfl)) (fy (e7 (zt hr) (ao 6) (bR JL JZ J7 (dk hr) (ao 4) (aC (ao 5) (bB cO))) (by with_unfolding_all rfl))))).pt (aD cI)) (bc (aV (bR JR J1 J2 bL (bR JL Lx L5 (iN hr) (ao 4) (aC (ao 5) (bB cO))) (aE (ao 6)))) (aV (bR JR J1 J2 bL (bR JL Lx L5 (iN hr) (ao 4) (aC (ao 6) (bB cO))) (aE (ao 5))))))) (ak (bo 7 nd ai) (bc (dU (kT (ao 2)) (bp 8 nd) (ak (bH (bS f9 (bz aO T.len_ (aE (bR JL JZ J7 (dk hr) (ao 4) (aC (ao 8) (bB cO))))) ai) (aD cI)) (ak (bo 9 nd (ao 8)) (ak (bo 10 nd (aP aF (dE (aR.one hr) (ao 4) (ao 8) (λ_ _=>rfl)) ai)) (ak (bo 7 nd (aA aX (ao 7) ai)) (bc (rn NO.never (fQ (e7 (gp (K:=K) Z (by show hr)) (ao 10) (ao 2) (by with_unfolding_all rfl)) (eG (e7 (gp (K:=K) Z (by show hr)) (ao 10) (ao 3) (by with_unfolding_all rfl)))).pt (ak (bH (bS f9 (bz aO T.len_ (aE (dE (aR.one hr) (ao 4) (ao 10) (λ_ _=>rfl)))) ai) (aD cI)) (ak (bo 11 nd (aP aF (dE (aR.one hr) (ao 4) (ao 10) (λ_ _=>rfl)) (iw i8 T.int_ (aE (je (uP hr) (aP aF (dE (aR.one hr) (ao 4) (ao 10) (λ_ _=>rfl)) ai) (ao 9)))))) (ak (bo 9 nd (ao 10)) (bc (bo 10 nd (ao 11)) (bo 7 nd (aA aX (ao 7) ai))))))) (bH (fT (e7 (gp (K:=K) Z (by show hr)) (ao 10) (ao 3) (by with_unfolding_all rfl)) (fy (bS f9 (bz aO T.len_ (aE (dE (aR.one hr) (ao 4) (ao 10) (λ_ _=>rfl)))) ai))).pt (aD cI)))))))) (aD (je cT (ao 7) (bz aO T.len_ (aE (ao 0))))))))),?_⟩
 let a6:N9=2^24:=rfl
 let len:↑as=↑W:=↑hw
 let ac:↑ad=↑A:=Nb.length M
 show cQ λd cd=>?_
 show bQ λRh b4=>?_
 show⟨_,Z,wr,Z,⟨_,aM.of (((au.refl H).upd cd) _ _ hl)⟩,?_⟩
 show bf (K:=K) (xs:=as.map V.ref) (λi σ H'=>∃(x5 x6:Option V) (ls:-(T3×N8)),σ=[some (.ref wr),some (.ref dd),some (.ref s),some (.ref t),some (.ref d),x5,x6,none,none,none,none,none]/\kD (sS g F') (W.take i)/\q_ H H' d ls (Wr.adj (W.take i))/\↑ls<=2*i)
  ⟨none,none,[],Z,(λi e z=>by cases z),q_.nil cd,Jd _⟩ (λi σ H' _ hz=>by let⟨_,_,_,_,_,z,_⟩:=hz;show aM.of (z.sm _ _ hl)) ?_ ?_
 ·rintro i v σ H' hv ⟨x5,x6,ls,rfl,hB,hN,hL⟩
  let⟨a,ha,rfl⟩:=bJ hv
  let a7:i<↑as:=(Js.mp ha).1
  let⟨e,x,y,ec,g1,g2,g3⟩:=(hw.same hN.sm).at ha
  show⟨a,_,Z,bh.of g1,Z,_,_,Z,_,_,Z,Z,?_⟩
  let⟨e1,e2⟩:=e
  let⟨x1,y1,w1,rfl⟩:=dS (h3 _ (Jl ec)).1
  let⟨x2,y2,w2,rfl⟩:=dS (h3 _ (Jl ec)).2
  let no:∀H2,au H H2->(sS g F' ([x1,y1,w1],[x2,y2,w2])=false\/([x2,y2,w2]:T3)∈Wr.adj (W.take i) [x1,y1,w1])->Q (.bl false) H2:=λH2 s2 z=>q H2 false s2 ⟨(λw=>by cases w),λw=>absurd w.1 (kD.bad ec z)⟩
  let L:=wg (W.take i)
  let lt:=L6 i W
  show bO ?_
  show⟨_,Z,_,Z,dd,_,Z,dg (.inl (hN.sm _ _ hd)) g2,_,Z,?_⟩
  let ax:(bg (aZ g.R g.C F') (iK [x1,y1,w1])).isSome=dI g.R g.C F' [x1,y1,w1]:=rfl
  rw[ax]
  cases c1:dI g.R g.C F' [x1,y1,w1] with
  |false=>show c9 (c9 (no _ hN.sm (.inl (by unfold sS;rw[c1];rfl))))
  |true=>
  show cK ?_
  show⟨_,Z,_,Z,_,Z,dd,x,g,F',x1,y1,w1,Z,.inl (hN.sm _ _ hd),g2,λH2 l2 s2 _ cy=>?_⟩
  let⟨ap,b1,b2⟩:=cy
  show⟨y,l2,ap,_,_,Z,Z,s2 _ _ g3,aM.of b1,b2,_,Z,?_⟩
  let ab:=hN.sm.trans s2
  by_cases c2:([x2,y2,w2]:T3)∈Ef g F' [x1,y1,w1]
  ·show jd (λz=>by rw[N1 Z,N3 c2] at z;cases z) (λ_=>?_)
   let es:sS g F' ([x1,y1,w1],[x2,y2,w2])=true:=by unfold sS;rw[c1,N3 c2];rfl
   show⟨.ref y,Z,?_⟩
   show iI 4 5 (hN.same s2).s Z Z (s2 _ _ g2) λH3 l3 s3 b0=>?_
   let⟨a4,d1,d2⟩:=b0
   let am:=ab.trans s3
   show⟨y,l3,a4,_,_,Z,Z,s3 _ _ (s2 _ _ g3),aM.of d1,d2,_,Z,?_⟩
   by_cases c:([x2,y2,w2]:T3)∈Wr.adj (W.take i) [x1,y1,w1]
   ·show jd (λ_=>no _ am (.inr c)) (λz=>absurd (N3 c) z)
   ·show jd (λz=>absurd (N4 z) c) (λ_=>?_)
    show iX ?_
    show iW 4 ((hN.same s2).same s3) Z Z Z (s3 _ _ (s2 _ _ g2)) (s3 _ _ (s2 _ _ g3)) () (by have:=L [x1,y1,w1];change(Wr.adj (W.take i) [x1,y1,w1]).length<=900;lia) λH4 dC c3 k4 l4=>?_
    show dR ?_
    let ne:([x1,y1,w1]:T3)≠[x2,y2,w2]:=λz=>by
     let m:=(Ke.mp c2).1
     rw[<-z] at m
     show absurd m (N6 (lM x1 y1 w1))
    show iW 4 c3 Z Z Z (k4 _ _ (s3 _ _ (s2 _ _ g3))) (k4 _ _ (s3 _ _ (s2 _ _ g2))) () (by change List.length (if ([x2,y2,w2]:T3)=[x1,y1,w1] then _ else _)<=900;rw[N0 ne.symm];have:=L [x2,y2,w2];change(Wr.adj (W.take i) [x2,y2,w2]).length<=900;lia) λH5 cU cZ k5 l5=>?_
    show⟨_,_,cU,Z,hB.go ec es c,cZ.cong (wm ec ne),()⟩
  ·show jd (λ_=>c9 (no _ ab (.inl (by unfold sS;rw[N5 c2,Bool.and_false])))) (λz=>absurd (by rw[N1 Z,N5 c2];rfl) z)
 rintro σ H1 ⟨x5,x6,ls,rfl,hB,hN,hL⟩
 show b4 _ _ ?_
 rw[Jb,len] at hB hN
 rw[Jx] at hB hN
 let S:=hB.simJ h3
 let s1:=hN.sm
 let hS:=hN.s
 show bV az ?_
 show iU (σ':=[some (.ref wr),some (.ref dd),some (.ref s),some (.ref t),some (.ref d),x5,x6,some (.int 0),none,none,none,none]) (by kernel_rfl) ?_
 let no:∀H2,au H1 H2->∀c∈A,¬Fz W A B c->Q (.bl false) H2:=λH2 s2 c hc z=>q H2 false (s1.trans s2) ⟨(λw=>by cases w),λw=>absurd (Fz.of w.2 hc) z⟩
 show bQ λRh b4=>?_
 show⟨_,Z,s,Z,⟨_,bh.of (s1 _ _ F)⟩,?_⟩
 show i9 (K:=K) (xs:=ad.map V.ref) (λi σ H'=>∃(x8 x9 U o:Option V),σ=[some (.ref wr),some (.ref dd),some (.ref s),some (.ref t),some (.ref d),x5,x6,some (.int (((A.take i).map (Wr.wl W)).sum:Nat)),x8,x9,U,o]/\au H1 H'/\∀c∈A.take i,Fz W A B c)
  ⟨none,none,none,none,Z,au.refl _,λ_ z=>by cases z⟩ (λi σ H' _ hz=>by let⟨_,_,_,_,_,z,_⟩:=hz;show bh.of (z _ _ (s1 _ _ F))) ?_ ?_
 ·rintro i v σ H' hv ⟨x8,x9,U,o,rfl,s2,n⟩
  let⟨b,hb,rfl⟩:=bJ hv
  let⟨c,hc,ar⟩:=br M hb
  let R:=Jl hc
  let D:=s2 _ _ (s1 _ _ ar)
  show gn ?_
  show bO ?_
  show iI 4 8 (hS.same s2) Z Z D λH3 l s3 b0=>?_
  let⟨xs,l1,l2⟩:=jN b0
  show⟨_,_,Z,.inl ⟨_,aM.of l1,Z⟩,Z,_,Z,?_⟩
  rw[l2,sU]
  let I:=s2.trans s3
  by_cases hd1:↑(Wr.adj W c)=1
  ·rw[N3 hd1]
   show cK ?_
   show bV ∅ ?_
   let O1:=Wr.OkTo.one hd1
   let⟨y,ey⟩:=tG hd1
   let⟨lk,gk,ah,r,p⟩:=(hS.same I).nr.at (b:=b) (λz=>by rw[z] at hd1;cases hd1) (s3 _ _ D)
   rw[ey] at p
   let⟨c1,rfl,a0⟩:=rf p
   let t1:Wr.tr W c 1=y:=by change(Wr.adj W c).headD c=y;rw[ey];rfl
   show bV (c8 (v:=.ref c1) (eF ∅ ∅ gk) az (aM.of r) Z) ?_
   show bV (aQ ∅ az) ?_
   generalize ce:((A.take i).map (Wr.wl W)).sum=sm
   show iU (σ':=[some (.ref wr),some (.ref dd),some (.ref s),some (.ref t),some (.ref d),x5,x6,some (.int ((sm:Nat)+1)),some (.ref b),some (.ref b),some (.ref c1),o]) (by kernel_rfl) ?_
   let f1:=Wr.few S O1 (Jd _)
   show rN (λm σ H'=>∃(k:Nat) (bk sp:N8) (o:Option V),σ=[some (.ref wr),some (.ref dd),some (.ref s),some (.ref t),some (.ref d),x5,x6,some (.int ((sm:Nat)+(k:Nat))),some (.ref b),some (.ref bk),some (.ref sp),o]/\m+k=2*↑W/\1<=k/\Wr.OkTo W c k/\(∀i,0<i->i<k->Wr.tr W c i∉A/\Wr.tr W c i∉B)/\au H3 H'/\H' bk>.tup ((Wr.tr W c (k - 1)).map V.int)/\H' sp>.tup ((Wr.tr W c k).map V.int))
    ⟨2*↑W - 1,1,b,c1,o,Z,(),Jd _,O1,(λi h0 h1=>by lia),au.refl _,s3 _ _ D,t1<|a0⟩ ?_
   rintro m σ H4 ⟨k,bk,sp,o,rfl,hm,k1,O,Y,s4,a3,C⟩
   let f:=I.trans s4
   let fk:=Wr.few S O k1
   obtain⟨j,rfl⟩:∃j,k=j+1:=⟨k - 1,()⟩
   let pj:=Wr.adj_symm S (Wr.tr_adj O (i:=j) (J9 _))
   let⟨lk,gk,ah,r,p⟩:=(hS.same f).nr.at (b:=sp) (λz=>by rw[z] at pj;cases pj) C
   let J:↑ah=↑(Wr.adj W (Wr.tr W c (j+1))):=Nb.length p
   show⟨_,h9 (aI (h_ ∅ ∅ C (bh.of (f _ _ (s1 _ _ F))) (ay M λ_ _ z=>f _ _ (s1 _ _ z)))) λ_=>aI (h_ ∅ ∅ C (bh.of (f _ _ (s1 _ _ X))) (ay Z0 λ_ _ z=>f _ _ (s1 _ _ z))),λe N c7=>?_,λe=>?_⟩
   ·rw[Jv,Bool.not_eq_true',Bool.not_eq_true',decide_eq_false_iff_not,decide_eq_false_iff_not] at e
    show bO ((gX (cD (K:=K) (eF ∅ ∅ gk) r) az) _ ⟨_,Z,?_⟩)
    rw[Jb,J]
    by_cases e2:↑(Wr.adj W (Wr.tr W c (j+1)))=2
    ·rw[N3 ()]
     show cK ?_
     let⟨u,v,eu⟩:=Wr.two_of e2
     rw[eu] at p
     let⟨a1,a2,rfl,aa,an⟩:=qO p
     let tj:Wr.tr W c (j+2)=if u=Wr.tr W c j then v else u:=by
      change Wr.onw W (Wr.tr W c j) (Wr.tr W c (j+1))=_
      unfold Wr.onw
      rw[eu]
     obtain⟨ov,eo,ho⟩:∃ov,jH ([a1,a2].map V.ref) (if decide (u=Wr.tr W c j)=true then 1 else 0)>.ref ov/\H4 ov>.tup ((Wr.tr W c (j+2)).map V.int):=by
      rw[tj]
      by_cases z:u=Wr.tr W c j
      ·rw[N1 z,N3 z];show⟨a2,Z,an⟩
      ·rw[N0 z,N5 z];show⟨a1,Z,aa⟩
     show bV (c8 (v:=.ref ov) (eF ∅ ∅ gk) (qk (yZ (K:=K) (c8 (v:=.ref a1) (eF ∅ ∅ gk) az (aM.of r) Z) ∅ aa a3)) (aM.of r) eo) ?_
     show bV ∅ ?_
     show bV ∅ ?_
     show tQ (v:=.int ((sm:Nat)+((j+2:Nat):Int))) (cA (aQ ∅ az) (congrArg V.int ())) ?_
     show c7 (m - 1) _ _ () ⟨j+2,sp,ov,some (.ref ov),Z,(),(),O.succ e2,λi h0 h1=>?_,s4,C,ho⟩
     by_cases z:i=j+1
     ·rw[z];show e
     ·show Y i h0 ()
    ·rw[N5 ()]
     let ek:Wr.wl W c=j+1:=(Wr.wl_ok S hd1).same ⟨k1,O,e2⟩
     show c9 (no _ f c R λz=>by have:=z.l4;rw[ek] at this;show e.2 this)
   ·let e:Wr.tr W c (j+1)∈A\/Wr.tr W c (j+1)∈B:=by
     by_cases y1:Wr.tr W c (j+1)∈A
     ·show .inl y1
     ·by_cases y2:Wr.tr W c (j+1)∈B
      ·show .inr y2
      ·rw[N5 y1,N5 y2] at e;cases e
    let wk:=Wr.wl_ok S hd1
    show jt (AK (aI (h_ ∅ ∅ C (bh.of (f _ _ (s1 _ _ X))) (ay Z0 λ_ _ z=>f _ _ (s1 _ _ z)))) λ_=>aI (gX (cD (K:=K) (eF ∅ ∅ gk) r) az)) (λz=>?_) (λz=>?_)
    ·show no _ f c R λy=>?_
     rcases Nat.lt_trichotomy (j+1) (Wr.wl W c) with h|h|h
     ·have:=y.l3 (j+1) () h
      show e.elim this.1 this.2
     ·let y4:=y.l4
      let y5:=y.l5
      rw[<-h] at y4 y5
      rw[N3 y4,Jb,J,y5,N3 (show((1:Nat):Int)=1 from Z)] at z
      cases z
     ·show wk.en (O.d2 _ wk.n1 h)
    ·let y4:Wr.tr W c (j+1)∈B:=by
      by_cases y:Wr.tr W c (j+1)∈B
      ·show y
      ·rw[N5 y] at z;cases z
     let y5:↑(Wr.adj W (Wr.tr W c (j+1)))=1:=by
      rw[N3 y4,Jb,J] at z
      by_cases y:↑(Wr.adj W (Wr.tr W c (j+1)))=1
      ·show y
      ·rw[N5 ()] at z;cases z
     let ek:Wr.wl W c=j+1:=wk.same ⟨k1,O,()⟩
     show⟨some (.ref b),some (.ref bk),some (.ref sp),o,?_,f,λc' cc=>?_⟩
     ·rw[aN hc,Jf,List.sum_append,ce,Jq,List.map_nil,List.sum_cons,List.sum_nil,ek,K9];rfl
     ·rw[aN hc] at cc
      rcases Jz.mp cc with w|w
      ·show n c' w
      ·rw[Jg.mp w]
       show⟨hd1,λi h0 h1=>Y i h0 (),ek<|y4,ek<|y5⟩
  ·rw[N5 hd1]
   show c9 (no _ I c R λz=>hd1 z.l2)
 rintro σ H2 ⟨x8,x9,U,o,rfl,s2,n⟩
 show b4 _ _ ?_
 rw[Jb,ac,Jx] at n
 show dr ((dY ∅ (cD (K:=K) ∅ ((s1.trans s2) _ _ hl))) _ (q _ _ (s1.trans s2) ?_))
 rw[decide_eq_true_iff,Jb,Jb,ac,Jx,len]
 show⟨λz=>⟨hB,λc hc=>(n c hc).l2,λc hc=>(n c hc).l3,λc hc=>⟨(n c hc).l4,(n c hc).l5⟩,()⟩,λz=>by have:=z.2.l5;lia⟩
theorem Bq (cc:aT P w K mg Oa "_law_beside" 1 ["doors", "spot"] iz)(b6:aT P w K mg Oa "_law_step" 1 ["prices", "tolls", "one", "two"] pY):jo P w K mg Oa 2 "_law_fair" Dg ["made", "doors", "starts", "goals", "prices", "tolls"] Aa:=by
 show rd ["made", "doors", "starts", "goals", "prices", "tolls", "wires", "price", "depth", "heights", "rents", "spot", "plain", "high", "other"] λnd _ _ _ _ _ H vs Q E hr h=>?_
 let⟨m,wr,h,dd,s,t,pl,tl,pr,de,as,W,hs,g,F',A,B,ps,rfl,hm,h3,lW,bl,lH,hg,gL,hd,hT,ar,Y,l5,⟨U,X,ab⟩,⟨be,a6,bd⟩,la,bm,Z0,jq,a5,q⟩:=h
 show⟨_,(ak (e_ (ao 0) (v_ Z (aB (bp 6 nd) (aB (bp 7 nd) (aB (bp 8 nd) (aB (bp 9 nd) bT)))))) (ak (bH (bS f9 (bz (iQ Z) T.sum_ (aE (il ["one", "two"] ["prices", "tolls"] [4,5] (bF (ao 6)) (gZ (K:=K) (n:=2) Z Z (aB (eU 0) (aB (eU 1) bT)) Z Z) dF (bq (by show b6) (by show hr) (av (ao 2) (av (ao 3) (aC (ao 0) (ao 1)))))))) (ao 7)) (aD cI)) (ak (bo 10 nd ai) (ak (iE (dU (fU (ao 9)) (bp 11 nd) (bc (bH (gw (iT (aR.one hr) (ao 11) (ao 1))) (aD cI)) (bo 10 nd (aA aX (ao 10) (bz (kO Z) T.max_ (aC ai (aA cV (aP aH (dE (aR.one hr) (ao 9) (ao 11) (λ_ _=>rfl)) ai) (aP aH (dE (aR.one hr) (ao 9) (ao 11) (λ_ _=>rfl)) ai))))))))) (ak (bH (bS f9 (ao 7) (aA cV (aA dW (bz aO T.len_ (aE (ao 2))) (ao 8)) (ao 10))) (aD cI)) (ak (bo 12 nd (aS (aC (ao 8) (ao 8)))) (bc (iE (dU (fU (ao 1)) (bp 11 nd) (ak (bo 13 nd (aP aH (bR JL JZ J7 (dk hr) (ao 9) (aC (ao 11) (ao 12))) ai)) (ak (bH (fQ (e7 (qI (K:=K) Z hr) (ao 11) (ao 2) (by with_unfolding_all rfl)) (eG (bS jg (aP aH (bR JL JZ J7 (dk hr) (ao 9) (aC (ao 11) (ao 12))) ai) ai))).pt (aD cI)) (bc (bH (fQ (e7 (qI (K:=K) Z hr) (ao 11) (ao 3) (by with_unfolding_all rfl)) (eG (bS mV (ao 13) (ao 8)))).pt (aD cI)) (dU (bF (bq cc hr (aC (ao 1) (ao 11)))) (bp 14 nd) (a9 (bH (bS jg (aP aH (bR JL JZ J7 (dk hr) (ao 9) (aC (ao 14) (ao 12))) ai) (aA aX (ao 13) (bq b6 hr (av (ao 4) (av (ao 5) (aC (ao 11) (ao 14))))))) (aD cI))))))))) (aD cI)))))))),?_⟩
 let bD:N9=2^24:=rfl
 let S:=hg.S
 let bv:↑U=↑A:=Nb.length ab
 let len:↑as=↑W:=↑hm.W
 let no:∀H',au H H'->¬GK g F' W A B pr de hs ps->Q (.bl false) H':=λH' s z=>q H' false s ⟨(λw=>by cases w),λw=>absurd w z⟩
 show⟨_,Z,m,_,_,_,_,Z,aM.of hm.m,_,_,Z,_,_,Z,_,_,Z,_,_,Z,Z,st ?_⟩
 show iU (σ':=[some (.ref m),some (.ref dd),some (.ref s),some (.ref t),some (.ref pl),some (.ref tl),some (.ref wr),some (.int pr),some (.int de),some (.ref h),none,none,none,none,none]) (by kernel_rfl) ?_
 show bO ?_
 show⟨_,Z,wr,Z,⟨_,aM.of hm.w⟩,λD nD=>?_⟩
 show bf (K:=K) (xs:=as.map V.ref) (λi τ H'=>∃x0 x1:Option V,τ=[x0,x1,some (.ref pl),some (.ref tl)]/\au H H'/\H' D>.lst (((W.take i).map λe=>iH ps g.R g.C g.ts e.1 e.2).map V.int))
  ⟨none,none,Z,(au.refl H).upd nD,af⟩ (λi τ H' _ hz=>by let⟨_,_,_,s,_⟩:=hz;show aM.of (s _ _ hm.w)) ?_ ?_
 ·rintro i y τ H' hi ⟨x0,x1,rfl,s1,hD⟩
  let⟨a,ha,rfl⟩:=bJ hi
  let b3:i<↑as:=(Js.mp ha).1
  let⟨f,x,y,ec,g1,g2,g3⟩:=(hm.W.same s1).at ha
  let fm:=Jl ec
  show⟨a,_,Z,bh.of g1,Z,_,_,Z,_,_,Z,Z,?_⟩
  show eT ?_
  let⟨f1,f2⟩:=f
  let⟨x1,y1,w1,rfl⟩:=dS (h3 _ fm).1
  let⟨x2,y2,w2,rfl⟩:=dS (h3 _ fm).2
  let⟨b0,b1,_⟩:=wH hg gL hT (bm _ fm)
  show⟨_,Z,_,Z,_,Z,_,Z,pl,tl,x,y,ps,g.R,g.C,g.ts,x1,y1,w1,x2,y2,w2,Z,s1 _ _ Y,l5,s1 _ _ ar,hg.tv,g2,g3,b0,b1,?_⟩
  show⟨_,hD,aL (by rw[Jb,Jb,JT];lia),_,_,Z,bE s1 nD,?_⟩
  rw[af,aN ec,Jf,Jf];rfl
 rintro τ H1 ⟨x0,x1,rfl,s1,hD⟩
 rw[Jb,len,Jx] at hD
 show⟨D,_,Z,aM.of hD,_,Z,Z,_,Z,?_⟩
 by_cases c1:(W.map λe=>iH ps g.R g.C g.ts e.1 e.2).sum=pr
 rotate_left
 ·rw[N5 (λz=>c1 (by injection z))]
  show c9 (no _ s1 λz=>c1 z.sm)
 rw[c1,N3 Z]
 show cK ?_
 show bV az ?_
 let⟨ls,hh,hp⟩:=hm.h.same s1
 let a7:↑ls=↑hs:=Nb.length hp
 show bQ λRh cd=>?_
 show⟨h,.dT (aJ ls),hh,trivial,λo=>?_⟩
 show⟨_,Z,h,o,.dT (aJ ls),Z,af,trivial,?_⟩
 let sF:Sb h H1 (Oc H1 h (.frz o (.dT (aJ ls)))):=λb x nb eb=>by rw[aj nb];show eb
 let ef:Oc H1 h (.frz o (.dT (aJ ls))) h>.frz o (.dT (aJ ls)):=af
 let d:∀{H2},au (Oc H1 h (.frz o (.dT (aJ ls)))) H2->au H1 (Oc H2 h (.dT (aJ ls))):=λs=>thaw hh s
 let tF:∀b xs,H1 b>.tup xs->Oc H1 h (.frz o (.dT (aJ ls))) b>.tup xs:=λb xs z=>fR hh sF z (λ_ z=>by cases z)
 revert sF ef d tF
 generalize Oc H1 h (.frz o (.dT (aJ ls)))=HF
 intro sF ef d tF
 let ba:=sF _ _ Z0 (s1 _ _ hd)
 show eV (u:=.dT (aJ ls)) (λi σ H'=>∃(C:Option V),σ=[some (.ref m),some (.ref dd),some (.ref s),some (.ref t),some (.ref pl),some (.ref tl),some (.ref wr),some (.int pr),some (.int de),some (.ref h),some (.int (m8 (hs.take i))),C,none,none,none]/\H'=HF/\∀q∈hs.take i,dI g.R g.C F' q.1=true)
  ⟨none,Z,Z,λ_ z=>by cases z⟩ (λi σ H' _ hz=>by let⟨_,_,z,_⟩:=hz;rw[z];show ef) ?_ ?_
 ·rintro i x v σ H' ⟨k,b,hk,rfl,hb⟩ hi ⟨C,rfl,rfl,r⟩
  let⟨c,hc,rfl⟩:=lI hk
  let⟨⟨c',lo,N⟩,hq,rfl,t',rfl,ht⟩:=gC hp hc
  let hb:H' b>.tup (c.map V.int):=by rw[<-cC];show hb
  show gn ?_
  show bO ⟨_,Z,_,Z,dd,_,Z,dg (.inl ba) hb,_,Z,?_⟩
  let bb:(bg (aZ g.R g.C F') (iK c)).isSome=dI g.R g.C F' c:=rfl
  rw[bb]
  cases ec:dI g.R g.C F' c with
  |false=>
   show c9 ⟨ef,?_⟩
   show no _ (s1.trans (d (au.refl _))) λz=>by
    have:=z.hk _ (Jl hq)
    rw[show dI g.R g.C F' c=false from ec] at this
    cases this
  |true=>
  show cK ?_
  let ah:=dg (.inr ⟨o,ef⟩) hb
  let bi:bg (aJ ls) (iK c)>.ref t':=yN (fV hp<|bl) hc
  rw[bi] at ah
  let bA:=tF _ _ ht
  let eg:∀{j:Int} {v:V},jH [.int lo,.int N] j>v->Ev (gb (mX K) (qZ (cR 9) (cR 11)) (tC (.int j))) [some (.ref m),some (.ref dd),some (.ref s),some (.ref t),some (.ref pl),some (.ref tl),some (.ref wr),some (.int pr),some (.int de),some (.ref h),some (.int (m8 (hs.take i))),some (.ref b),none,none,none] H' v:=λe=>cW (eF ∅ ∅ ah) az bA e
  show tQ (v:=.int (m8 (hs.take (i+1)))) (cA (aQ ∅ (dH (v:=.int (if 0<N - lo then N - lo else 0)) (ag az (ag (aQ (eg (j:=1) Z) (eg (j:=0) Z)) aw)) λQ' q'=>⟨_,_,Z,q'⟩)) ?_) ?_
  ·rw[aN hq]
   unfold m8
   rw[Jf,List.sum_append]
   change V.int _=V.int (_+(max (N - lo) 0+0))
   congr 1
   split<;>lia
  ·show⟨_,Z,Z,λq cs=>?_⟩
   rw[aN hq] at cs
   rcases Jz.mp cs with z|z
   ·show r q z
   ·rw[Jg.mp z];show ec
 rintro σ H2 ⟨C,rfl,rfl,r⟩
 let aa:nU (.dT (aJ ls))=↑hs:=by change(aJ ls).length=_;unfold aJ;rw[Jb,a7]
 rw[aa,Jx] at r
 show⟨ef,cd _ _ ?_⟩
 rw[aa,Jx]
 let s2:=d (au.refl _)
 revert s2
 generalize Oc H2 h (.dT (aJ ls))=H3
 intro s2
 let s3:=s1.trans s2
 show bO ((gX ∅ (aQ (bM (dH (v:=.int (↑(U.map V.ref):Nat)) (ag ∅ aw) λQ' q'=>⟨_,_,Z,.inr ⟨_,bh.of (s3 _ _ X),Z⟩,q'⟩) ∅ (A_ () (by rw[Jb];lia))) ∅)) _ ⟨_,Z,?_⟩)
 rw[Jb,bv]
 by_cases c2:pr=(↑A:Nat)*de - m8 hs
 rotate_left
 ·rw[N5 c2]
  show c9 (no _ s3 λz=>c2 z.re)
 rw[N3 c2]
 show cK ?_
 show cg λRh cd=>cS [.int de,.int de] (ag ∅ (ag ∅ aw)) (by change 2<=1000;decide) λpn H4 du eW dm=>cd _ _ ?_
 let s4:=s3.trans du
 show iU (σ':=[some (.ref m),some (.ref dd),some (.ref s),some (.ref t),some (.ref pl),some (.ref tl),some (.ref wr),some (.int pr),some (.int de),some (.ref h),some (.int (m8 hs)),C,some (.ref pn),none,none]) (by kernel_rfl) ?_
 let M:=s4 _ _ hd
 show bQ λRh cd=>?_
 show⟨dd,.dT (aZ g.R g.C F'),M,trivial,λo=>?_⟩
 show⟨_,Z,dd,o,.dT (aZ g.R g.C F'),Z,af,trivial,?_⟩
 let sF:Sb dd H4 (Oc H4 dd (.frz o (.dT (aZ g.R g.C F')))):=λb x nb eb=>by rw[aj nb];show eb
 let ef:Oc H4 dd (.frz o (.dT (aZ g.R g.C F'))) dd>.frz o (.dT (aZ g.R g.C F')):=af
 let d:∀{H2},au (Oc H4 dd (.frz o (.dT (aZ g.R g.C F')))) H2->au H4 (Oc H2 dd (.dT (aZ g.R g.C F'))):=λs=>thaw M s
 revert sF ef d
 generalize Oc H4 dd (.frz o (.dT (aZ g.R g.C F')))=HF
 intro sF ef d
 let kF:∀{b:N8} {x:HO},H4 b>x->(∀k,x≠.dT k)->HF b>x:=λz nz=>fR M sF z nz
 let an:jG HF h hs:=(hm.h.same s4).sb M sF Z0.symm
 let O:=kF dm (λ_ z=>by cases z)
 let a0:HF tl>.dT (aZ g.R g.C g.ts):=sF _ _ a5 (s4 _ _ ar)
 let a2:=kF (s4 _ _ Y) (λ_ z=>by cases z)
 let a3:=kF (s4 _ _ X) (λ_ z=>by cases z)
 let a4:=kF (s4 _ _ a6) (λ_ z=>by cases z)
 let a1:bG HF U A:=ay ab λb xs z=>kF (s4 _ _ z) (λ_ z=>by cases z)
 let ax:bG HF be B:=ay bd λb xs z=>kF (s4 _ _ z) (λ_ z=>by cases z)
 let bx:∀H2,au HF H2->∀p∈F',¬Hn g F' A B de hs ps (sN g.R g.C p.1)->Q (.bl false) (Oc H2 dd (.dT (aZ g.R g.C F'))):=λH2 s2 p hp z=>no _ (s4.trans (d s2)) λw=>z (w.fs p hp)
 show eV (u:=.dT (aZ g.R g.C F')) (λi σ H'=>∃(C R F:Option V),σ=[some (.ref m),some (.ref dd),some (.ref s),some (.ref t),some (.ref pl),some (.ref tl),some (.ref wr),some (.int pr),some (.int de),some (.ref h),some (.int (m8 hs)),C,some (.ref pn),R,F]/\au HF H'/\∀p∈F'.take i,Hn g F' A B de hs ps (sN g.R g.C p.1))
  ⟨C,none,none,Z,au.refl _,λ_ z=>by cases z⟩ (λi σ H' _ hz=>by let⟨_,_,_,_,z,_⟩:=hz;show z _ _ ef) ?_ ?_
 ·rintro i x v σ H' ⟨k,b,hk,rfl,hb⟩ hi ⟨C,R,F,rfl,s5,r⟩
  rw[show aZ g.R g.C F'=F'.map λp=>(iK (sN g.R g.C p.1),p.2) from Z,Jn] at hk
  let⟨y,hy,ey⟩:=JH.mp hk
  let ey:(iK (sN g.R g.C y.1),y.2)=(k,v):=ey
  cases ey
  let hb:H' b>.tup ((sN g.R g.C y.1).map V.int):=by rw[<-cC];show hb
  let ym:=Jl hy
  let yF:dI g.R g.C F' (sN g.R g.C y.1)=true:=uJ S<|eX.mpr (JG ym)
  let L:=λH2 s2=>bx H2 s2 y ym
  let⟨cx,cy,cw,ec⟩:=dS (uE g.R g.C y.1)
  rw[ec] at hb yF L
  let⟨b0,b1,_⟩:=wH hg gL hT yF
  let ap:=fun{σ:St} (e1:σ[9]?>some (.ref h)) (e2:σ[11]?>some (.ref b)) (e3:σ[12]?>some (.ref pn))=>Dk (K:=K) (ae e1) (ae e2) (ae e3) (an.same s5) hb (s5 _ _ O)
  show gn ?_
  show bV (ap Z Z Z).2 ?_
  show gH (h9 (aI (wu ∅ ∅ hb (bh.of (s5 _ _ a3)) (ay a1 λ_ _ z=>s5 _ _ z))) λ_=>aI (aQ (ap Z Z Z).1 az)) (λz=>?_) (λz=>?_)
  ·rw[Jv] at z
   show⟨s5 _ _ ef,L _ s5 λw=>?_⟩
   have:=w.1 (N4 z.1)
   have:=N4 z.2
   lia
  let f1:([cx,cy,cw]:T3)∈A->(hv hs de [cx,cy,cw]).1<=0:=λw=>by
   rw[N3 w] at z
   have:¬_:=N6 z
   lia
  show gH (h9 (aI (wu ∅ ∅ hb (bh.of (s5 _ _ a4)) (ay ax λ_ _ z=>s5 _ _ z))) λ_=>aI (aQ ∅ ∅)) (λz=>?_) (λz=>?_)
  ·rw[Jv] at z
   show⟨s5 _ _ ef,L _ s5 λw=>?_⟩
   have:=w.2.1 (N4 z.1)
   have:=N4 z.2
   lia
  let f2:([cx,cy,cw]:T3)∈B->de<=(hv hs de [cx,cy,cw]).2:=λw=>by
   rw[N3 w] at z
   have:¬_:=N6 z
   lia
  show⟨_,Z,_,Z,dd,b,g,F',cx,cy,cw,Z,.inr ⟨o,s5 _ _ ef⟩,hb,λH6 l s6 _ hl=>?_⟩
  let⟨os,o1,o2⟩:=hl
  let I:=s5.trans s6
  let lo:↑os=↑(Ef g F' [cx,cy,cw]):=Nb.length o2
  show⟨l,Z,⟨_,aM.of o1⟩,?_⟩
  show bf (K:=K) (xs:=os.map V.ref) (λj σ H'=>∃(F:Option V),σ=[some (.ref m),some (.ref dd),some (.ref s),some (.ref t),some (.ref pl),some (.ref tl),some (.ref wr),some (.int pr),some (.int de),some (.ref h),some (.int (m8 hs)),some (.ref b),some (.ref pn),some (.int (hv hs de [cx,cy,cw]).2),F]/\H'=H6/\∀o∈(Ef g F' [cx,cy,cw]).take j,(hv hs de o).1<=(hv hs de [cx,cy,cw]).2+iH ps g.R g.C g.ts [cx,cy,cw] o)
   ⟨F,Z,Z,λ_ z=>by cases z⟩ (λj σ H' _ hz=>by let⟨_,_,z,_⟩:=hz;rw[z];show aM.of o1) ?_ ?_
  ·rintro j u σ H' hu ⟨F,rfl,rfl,J⟩
   let⟨a,ha,rfl⟩:=bJ hu
   let⟨co,ac,am⟩:=br o2 ha
   let ad:=Jl ac
   obtain⟨ox,oy,ow,eo⟩:∃ox oy ow,co=[ox,oy,ow]:=kQ (Ke.mp ad).1
   subst eo
   let bn:=fun{σ:St} (e1:σ[9]?>some (.ref h)) (e2:σ[14]?>some (.ref a)) (e3:σ[12]?>some (.ref pn))=>Dk (K:=K) (ae e1) (ae e2) (ae e3) (an.same I) am (I _ _ O)
   show gn ?_
   show jt (aI (aQ (bn Z Z Z).1 (aQ ∅ (zN (v:=.int (iH ps g.R g.C g.ts [cx,cy,cw] [ox,oy,ow])) (ag ∅ (ag ∅ (ag ∅ (ag ∅ aw)))) λQ' q'=>⟨pl,tl,b,a,ps,g.R,g.C,g.ts,cx,cy,cw,ox,oy,ow,Z,I _ _ a2,l5,I _ _ a0,hg.tv,s6 _ _ hb,am,b0,b1,q'⟩)))) (λz=>?_) (λz=>?_)
   ·show⟨I _ _ ef,L _ I λw=>?_⟩
    have:=w.2.2 _ ad
    have:=N4 z
    lia
   ·show⟨_,Z,Z,λo ho=>?_⟩
    rw[aN ac] at ho
    rcases Jz.mp ho with w|w
    ·show J o w
    ·rw[Jg.mp w]
     have:¬_:=N6 z
     lia
  ·rintro σ H' ⟨F,rfl,rfl,J⟩
   rw[Jb,lo,Jx] at J
   show⟨_,_,_,Z,I,λp hp=>?_⟩
   rw[aN hy] at hp
   rcases Jz.mp hp with w|w
   ·show r p w
   ·rw[Jg.mp w,ec]
    show⟨f1,f2,J⟩
 rintro σ H5 ⟨C,R,F,rfl,s5,r⟩
 rw[show nU (.dT (aZ g.R g.C F'))=↑F' from by change(aZ g.R g.C F').length=_;rw[eI],Jx] at r
 show⟨s5 _ _ ef,cd _ _ (dy az (q _ true (s4.trans (d s5)) ⟨λ_=>⟨c1,by assumption,c2,r⟩,λ_=>rfl⟩))⟩
theorem xT (C:h8 P w K mg Oa Oh "Net" 3 ["self", "name", "pins", "half", "room"] (pK Oh))(r:jV P w K mg Oa cBundle "Bundle" 3 ["self", "name", "starts", "goals", "room"] (lP cBundle) 1)(p:aT P w K mg Oa "_law_cell_at" 1 ["script", "k"] (eE K)):jo P w K mg Oa 5 "_law_thing" vY ["script", "starts", "goals"] (mU K Oh cBundle):=by
 show rd ["script", "starts", "goals"] λnd _ _ _ _ _ H vs Q E hr h=>?_
 let⟨a,s,g,ns,A,B,rfl,ha,O,F,e,l1,Y,lg,n,q⟩:=h
 show⟨_,(ak (bH (fQ (bS cT (aA a_ (bq p hr (aC (ao 0) ai)) ai) ai) (eG (bS cT (bz aO T.len_ (aE (ao 2))) (bz aO T.len_ (aE (ao 1)))))).pt (aD (v9 r (hr.mono (by decide)) (by rfl) (av pP (av (ao 2) (aC (ao 1) ai)))))) (ak (bH (fQ (bS cT (aA a_ (bq p hr (aC (ao 0) ai)) ai) ai) (eG (bS eN (aA aX (bz aO T.len_ (aE (ao 1))) (bz aO T.len_ (aE (ao 2)))) ai))).pt (aD (AB C (hr.mono (by decide)) (by rfl) (av pP (av (aA mf (ao 1) (ao 2)) (aC ai ai)))))) (bc (bH (fQ (bS cT (aA a_ (bq p hr (aC (ao 0) ai)) ai) ai) (eG (bS jg (bz aO T.len_ (aE (ao 1))) ai))).pt (aD (CW r (hr.mono (by decide)) (by rfl) (av pP (aC (dQ jS (ao 1) (eC ai) fG) (ao 2)))))) (aD (v9 r (hr.mono (by decide)) (by rfl) (av pP (av (ao 1) (aC (ao 2) (aA a_ (bq p hr (aC (ao 0) ai)) ai))))))))),?_⟩
 let o:N9=2^24:=rfl
 let⟨c,s1,I⟩:=id O
 let⟨d,R,W⟩:=id F
 let f:↑c=↑A:=Nb.length I
 let m:↑d=↑B:=Nb.length W
 let k:∀{v:Int},jm (k9 (gb GB (gb (rI (λ_ j=>0<j) λi j=> .int (i%j)) (jP (eE K) [] E0 (bX (cR 0) (bX (tC (.int 10)) fE))) (tC (.int 18))) (tC (.int v)))) (start ["script", "starts", "goals"] [.ref a,.ref s,.ref g]) H (decide (bZ ns 10%18=v)):=fun{v}=>aI (dY (bM (bK 10 (ag ∅ (ag az aw)) ha) az (by change(0:Int)<18;decide)) az)
 let U:((B++A).map c_).Nodup:=(List.perm_append_comm.map c_).nodup_iff.mpr e
 show gH (h9 k λ_=>aI (dY (cD (K:=K) ∅ R) (cD (K:=K) ∅ s1))) (λh=>?_) (λ_=>?_)
 ·rw[Jv] at h
  let Z0:=N4 h.2
  rw[Jb,Jb,f,m] at Z0
  show dr ⟨_,Z,_,Z,λx dx y nd N=>?_⟩
  show Hx y nd F O U () () () () F5 (by decide) (by decide) λH' s' hb=>⟨Z,q H' x (some (B,A)) s' y ⟨hb,by change ↑B<=200;lia,by change ↑A<=200;lia⟩ (tN U () ())⟩
 show gH (h9 k λ_=>aI (aQ (aQ (cD (K:=K) ∅ s1) (cD (K:=K) ∅ R)) az)) (λh=>?_) (λ_=>?_)
 ·rw[Jv] at h
  let h6:=N4 h.2
  rw[Jb,Jb,f,m] at h6
  show dr ?_
  show⟨_,Z,_,Z,s,g,_,_,Z,Z,s1,R,by rw[Jb,Jb];lia,λl J=>?_⟩
  let u:au H (Oc H l (.lst (c.map V.ref++d.map V.ref))):=(au.refl H).upd J
  let D:Oc H l (.lst (c.map V.ref++d.map V.ref)) l>.lst ((c++d).map V.ref):=by rw[af,Jf]
  revert u D
  generalize Oc H l (.lst (c.map V.ref++d.map V.ref))=H1
  intro u D
  intro x dx y nd N
  let L:au H1 (Oc (Oc H1 dx (.own x)) x (.ins Oh dx [])):=i_ y nd
  show⟨x,dx,l,c++d,A++B,_,0,1,Z,af,L _ _ D,ay (cG I W) λb xs z=>L _ _ (u _ _ z),e,by rw[Jo];lia,by rw[Jo];lia,Hd,by decide,by decide,by decide,by decide,λH2 fs t' bt M S ab=>⟨Z,?_⟩⟩
  show q H2 x none (u.trans (fM.same L y bt)) (u.free y) ⟨dx,fs,M⟩ trivial
 show gH (h9 k λ_=>aI (aQ (cD (K:=K) ∅ s1) az)) (λh=>?_) (λ_=>?_)
 ·rw[Jv] at h
  let h1:=N4 h.2
  rw[Jb,f] at h1
  show dr ?_
  show⟨_,Z,_,Z,s,_,Z,aM.of s1,λl J=>?_⟩
  rw[G7,<-List.map_drop]
  let u:au H (Oc H l (.lst ((c.drop 1).map V.ref))):=(au.refl H).upd J
  let D:Oc H l (.lst ((c.drop 1).map V.ref)) l>.lst ((c.drop 1).map V.ref):=af
  revert u D
  generalize Oc H l (.lst ((c.drop 1).map V.ref))=H1
  intro u D
  show⟨_,Z,λx dx y nd N=>?_⟩
  let X:((A.drop 1++B).map c_).Nodup:=(((List.drop_sublist 1 A).append (List.Sublist.refl B)).map c_).nodup e
  show Hx y nd ⟨_,D,ay (wM I 1) λb xs z=>u _ _ z⟩ (F.same u) X (by rw[KA];lia) (by rw[KA];lia) (by rw[KA];lia) () FM (by decide) (by decide) λH' s' hb=>⟨Z,q H' x (some (A.drop 1,B)) (u.trans s') (u.free y) ⟨hb,by change(A.drop 1).length<=200;rw[KA];lia,by change ↑B<=200;lia⟩ (tN X (by rw[KA];lia) ())⟩
 ·show dr ⟨_,Z,_,Z,?_⟩
  show Gi (v:=.int (bZ ns 9%4)) (bM (bK 9 (ag ∅ (ag az aw)) ha) az (by change(0:Int)<4;decide)) ?_
  intro x dx y nd N
  show Hx y nd O F e l1 Y lg n F5 () () λH' s' hb=>⟨Z,q H' x (some (A,B)) s' y ⟨hb,by change ↑A<=200;lia,by change ↑B<=200;lia⟩ (tN e () ())⟩
theorem CT (p:aT P w K mg Oa "_law_joined" 2 ["wires", "doors", "starts", "goals"] qU)(r:aT P w K mg Oa "_law_fair" 2 ["made", "doors", "starts", "goals", "prices", "tolls"] Aa):jo P w K mg Oa 3 "_law_due" De ["made", "doors", "thing", "prices", "tolls"] (ph Oh cBundle):=by
 show rd ["made", "doors", "thing", "prices", "tolls"] λnd _ _ _ _ _ H vs Q E hr h=>?_
 let⟨m,wr,h,dd,th,pl,tl,pr,de,as,W,hs,g,F',F,ps,rfl,hm,S,N,n,lH,hg,gL,O,hT,o,k,l5,c,l,jq,j,q⟩:=h
 show⟨_,(bc (bH (fT (dw (dq (bz gj T.isinstance_ (aC (ao 2) (iD (by rfl) T.mg_Bundle))))) (fy (dw (dq (bq p hr (av (aP aF (ao 0) ai) (av (ao 1) (aC (bI (ao 2) Z) (bI (ao 2) Z))))))))).pt (aD cI)) (aD (bq r hr (av (ao 0) (av (ao 1) (av (bI (ao 2) Z) (av (bI (ao 2) Z) (aC (ao 3) (ao 4))))))))),?_⟩
 let R:∀H',au H H'->¬Gu g F' W pr de hs ps F->Q (.bl false) H':=λH' s z=>q H' false s ⟨(λw=>by cases w),λw=>absurd w z⟩
 cases F with
 |none=>
  let⟨dn,ns,n1⟩:=c
  show bO ⟨_,Z,_,_,_,_,_,Z,.ref cBundle,.ins n1 T.cl_Net T.qN T.qg T.qt T.oN,T.nb,_,Z,c9 (c9 (dy az (R H (au.refl H) id)))⟩
 |some y=>
  let⟨A,B⟩:=y
  let⟨Z0,D,lb⟩:=c
  let D:↑A<=200:=D
  let⟨x,I,M,v,C,L,U,u4,a,f⟩:=Z0.ex
  show bO ⟨_,Z,_,_,_,_,_,Z,.ref cBundle,.ins C T.cl_Bundle T.qB T.qg T.qt T.oB,T.b2,_,Z,cK ?_⟩
  show⟨_,Z,m,_,0,_,Z,Z,aM.of hm.m,Z,_,Z,_,Z,th,cBundle,x,v,_,Z,C,T.cl_Bundle,T.na_Bundle_starts,L,_,Z,th,cBundle,x,v,_,Z,C,T.cl_Bundle,T.na_Bundle_goals,U,?_⟩
  show⟨wr,dd,I,M,g,F',as,W,A,B,Z,hm.w,hm.W,S,N,O,a,f,D,λH1 b s1 hb=>?_⟩
  show⟨_,Z,?_⟩
  cases b with
  |false=>show c9 (R _ s1 λz=>by have:=hb.mpr z.1;cases this)
  |true=>
  let J:=hb.mp Z
  show cK ?_
  let d:=s1 _ _ C
  show dr ⟨_,Z,_,Z,_,Z,th,cBundle,x,v,_,Z,d,T.cl_Bundle,T.na_Bundle_starts,L,_,Z,th,cBundle,x,v,_,Z,d,T.cl_Bundle,T.na_Bundle_goals,U,_,Z,_,Z,?_⟩
  show⟨m,wr,h,dd,I,M,pl,tl,pr,de,as,W,hs,g,F',A,B,ps,Z,hm.same s1,S,N,n,lH,hg,gL,s1 _ _ O,hT,s1 _ _ o,s1 _ _ k,l5,sk a s1,sk f s1,D,λe Y=>?_,l,jq,j,λH2 b X u=>q _ b (s1.trans X) ⟨λz=>⟨J,u.mp z⟩,λz=>u.mpr z.2⟩⟩
  let⟨i,hi⟩:=KG.mp Y
  have:=(J.1 i e hi).1
  unfold sS at this
  rw[Jv] at this
  show this.1
theorem zk (r:aT P w K mg Oa "_law_cell_at" 1 ["script", "k"] (eE K)):jo P w K mg Oa 2 "_law_fewer" Ao ["script", "made", "doors"] (pZ K):=by
 show rd ["script", "made", "doors", "fewer", "wire"] λnd _ _ _ _ _ H vs Q E hr h=>?_
 let⟨a,m,wr,h,dd,ns,pr,de,R,C,as,W,hs,F',L,M,rfl,ha,hm,lW,hd,Z0,X,p,hT,q⟩:=h
 show⟨_,(ak (bo 3 nd (iw gE T.dict_ (aE (ao 2)))) (bc (dU (bF (dQ jS (aP aF (ao 1) ai) (eC (aA a_ (bq r hr (aC (ao 0) ai)) ai)) fG)) (bp 4 nd) (a9 (sP (gw (f_ (aR.one hr) (aP aH (ao 4) ai) (ao 3))) (bc (aV (bR JL LZ PySem.F.type_dict_pop (pX hr) (ao 3) (aE (aP aH (ao 4) ai)))) (aD (ao 3))) pd))) (aD (ao 3)))),?_⟩
 let o:N9=2^24:=rfl
 show cg λRh u=>⟨_,Z,dd,Z,.inr ⟨_,.inl hd,qe Z0 X hT,λf A=>u _ _ ?_⟩⟩
 let s1:au H (Oc H f (.dT (aZ R C F'))):=(au.refl H).upd A
 let hf:Oc H f (.dT (aZ R C F')) f>.dT (aZ R C F'):=af
 revert s1 hf
 generalize Oc H f (.dT (aZ R C F'))=H1
 intro s1 hf
 show iU (σ':=[some (.ref a),some (.ref m),some (.ref dd),some (.ref f),none]) (by kernel_rfl) ?_
 let g:=hm.same s1
 show bQ λRh u=>?_
 let S:=JO (bZ ns 11) (show(3:Int)≠0 by decide)
 show⟨_,Z,m,_,0,_,Z,Z,aM.of g.m,Z,?_⟩
 show ff (bM (bK 11 (ag ∅ (ag az aw)) (s1.seq ha)) az (by change(0:Int)<3;decide)) ?_
 show⟨_,Z,wr,_,Z,aM.of g.w,λl U=>?_⟩
 let⟨n,Y⟩:=Ed (as.map V.ref) _ S
 rw[Y,<-List.map_drop]
 let c:au H1 (Oc H1 l (.lst ((as.drop n).map V.ref))):=(au.refl H1).upd U
 let B:Oc H1 l (.lst ((as.drop n).map V.ref)) l>.lst ((as.drop n).map V.ref):=af
 revert c B
 generalize Oc H1 l (.lst ((as.drop n).map V.ref))=H2
 intro c B
 let I:=s1.trans c
 let d:=c _ _ hf
 let j:=g.same c
 show⟨l,Z,⟨_,aM.of B⟩,?_⟩
 show bf (K:=K) (xs:=(as.drop n).map V.ref) (λi σ H'=>∃D:Option V,σ=[some (.ref a),some (.ref m),some (.ref dd),some (.ref f),D]/\H'=H2) ⟨none,Z,Z⟩ (λi σ H' _ hz=>by let⟨_,_,z⟩:=hz;rw[z];show aM.of B) ?_ ?_
 ·rintro i v σ H' hv ⟨D,rfl,rfl⟩
  let⟨b,hb,rfl⟩:=bJ hv
  rw[List.getElem?_drop] at hb
  let⟨e,x,y,ec,N,J,g3⟩:=j.W.at hb
  show gn ?_
  show gT ?_
  show⟨_,Z,b,_,0,_,Z,Z,bh.of N,Z,_,Z,f,_,Z,dg (.inl d) J,_,Z,?_⟩
  cases ev:bg (aZ R C F') (iK e.1) with
  |none=>show cK ⟨_,Z,Z⟩
  |some v=>
   show c9 ?_
   let⟨F2,e1,O⟩:=wj (R:=R) (C:=C) (F:=F') (k:=iK e.1)
   show iX ⟨_,Z,.inr (.inr (.inl ⟨Z,.inr ⟨_,d⟩⟩)),?_⟩
   show⟨_,Z,b,_,0,_,Z,Z,bh.of N,Z,f,x,_,iK e.1,v,Z,Z,d,fS J,ev,?_⟩
   rw[e1]
   show dy ∅ (q _ f F2 ?_ A af O)
   show bE I A
 ·rintro σ H' ⟨D,rfl,rfl⟩
  show u _ _ (dy ∅ (q _ f F' I A d (List.Sublist.refl _)))
theorem Eb (ky:h8 P w K mg Oa Od "Floor" 3 ["self", "sizes", "prices", "vias", "rocks", "tolls"] (pU Od))(kd:bU P w K mg Oa cBundlePaper "is_laid" 1 ["self"] vR)(kM:h8 P w K mg Oa cBundlePaper "BundlePaper" 1 ["self", "wires", "price", "depth", "heights"] (s_ cBundlePaper))(h3:bU P w K mg Oa cBundlePaper "holds" 8 ["self", "floor", "free", "thing"] (qf K cBundlePaper Od Oh cBundle))(hY:aT P w K mg Oa "_law_cell_at" 1 ["script", "k"] (eE K))(h4:aT P w K mg Oa "_law_price" 1 ["cell"] iy)(lo:aT P w K mg Oa "_law_plan" 3 ["script"] (uK K))(ks:aT P w K mg Oa "_law_goals" 2 ["script", "plan"] (pM K))(lr:aT P w K mg Oa "_law_made" 2 ["script", "plan", "ahead"] (uG K))(i7:aT P w K mg Oa "_law_spoilt" 2 ["script", "made", "doors", "extra"] (sr K))(ih:aT P w K mg Oa "_law_lowered" 2 ["script", "plan", "prices", "made"] (ko K))(ja:aT P w K mg Oa "_law_thing" 5 ["script", "starts", "goals"] (mU K Oh cBundle))(i4:aT P w K mg Oa "_law_due" 3 ["made", "doors", "thing", "prices", "tolls"] (ph Oh cBundle))(kl:aT P w K mg Oa "_law_fewer" 2 ["script", "made", "doors"] (pZ K)):jo P w K mg Oa 9 "law" Bl ["script"] (we K):=by
 show rd ["script", "plan", "columns", "lanes", "other", "toll", "narrow", "rocks", "tolls", "doors", "prices", "starts", "goals", "made", "thing", "layers", "pairs", "floor", "due", "fewer", "handed", "paper", "found", "again"] λnd _ _ _ _ _ H vs Q E hr h=>?_
 let⟨a,ns,rfl,ha,ey,f5,q⟩:=h
 show⟨_,(ak (bo 1 nd (bq lo hr (aE (ao 0)))) (ak (e_ (dQ kB (ao 1) fG (eC ai)) (eJ Z (aB (bp 2 nd) (aB (bp 3 nd) (aB (bp 4 nd) (aB (bp 5 nd) bT)))))) (ak (e_ (dQ kB (ao 1) (eC ai) fG) (eJ Z (aB (bp 6 nd) (aB (bp 7 nd) (aB (bp 8 nd) (aB (bp 9 nd) bT)))))) (ak (bo 10 nd (bB (aC (bq h4 hr (aE (bq hY hr (aC (ao 0) ai)))) (aA aX ai (aA a_ (bq hY hr (aC (ao 0) ai)) ai))))) (ak (bo 10 nd (aA mf (ao 10) (bB (av (aP aF (ao 10) ai) (aC (bq h4 hr (aE (bq hY hr (aC (ao 0) ai)))) (bq h4 hr (aE (bq hY hr (aC (ao 0) ai))))))))) (ak (Bf 11 ["lane"] [] [] nd (bF (ao 3)) (eU 0) dF (aA (mD (K:=K) Z) (ao 0) (aS (aE ai)))) (ak (bo 12 nd (bq ks hr (aC (ao 0) (ao 1)))) (ak (bo 13 nd (bq i7 hr (av (ao 0) (av (bq lr hr (av (ao 0) (aC (ao 1) (aP aF (ao 10) ai)))) (aC (ao 9) (bz aO T.len_ (aE (ao 3)))))))) (ak (aV (bq ih hr (av (ao 0) (av (ao 1) (aC (ao 10) (ao 13)))))) (ak (bo 14 nd (bq ja hr (av (ao 0) (aC (ao 11) (ao 12))))) (ak (bo 15 nd (aA aX ai (aA a_ (bq hY hr (aC (ao 0) ai)) ai))) (ak (bo 16 nd (dQ jS (bB (aC (aS (aC (aP aF (ao 10) ai) (aP aF (ao 10) ai))) (aS (aC (aP aF (ao 10) ai) (aP aF (ao 10) ai))))) fG (eC (ao 15)))) (ak (bo 17 nd (AB ky (hr.mono (by decide)) (by rfl) (av (aS (av (ao 15) (aC (aA dO (bz aO T.len_ (aE (aA mf (ao 3) (ao 4)))) (ao 15)) (ao 2)))) (av (ao 16) (av (dQ jS (bB (aE (aP aF (ao 10) ai))) fG (eC (aA cV (ao 15) ai))) (aC (ao 7) (ao 8))))))) (ak (bo 18 nd (bq i4 hr (av (ao 13) (av (ao 9) (av (ao 14) (aC (ao 10) (ao 8))))))) (ak (bo 19 nd (bq kl hr (av (ao 0) (aC (ao 13) (ao 9))))) (ak (bo 20 nd (bB (av (iw fW T.list_ (aE (aP aF (ao 13) ai))) (aC (iw gE T.dict_ (aE (aP aF (ao 13) ai))) (iw gE T.dict_ (aE (ao 9))))))) (ak (bo 21 nd (AB kM (hr.mono (by decide)) (by rfl) (av (aP aF (ao 20) ai) (av (aP aF (ao 13) ai) (aC (aP aF (ao 13) ai) (aP aF (ao 20) ai)))))) (ak (bo 22 nd (cP (ao 21) T.cl_BundlePaper h3 (hr.mono (by decide)) (av (ao 17) (aC (aP aF (ao 20) ai) (ao 14))))) (ak (bH (fT (bS (Cv hr) (ao 20) (bB (av (aP aF (ao 13) ai) (aC (aP aF (ao 13) ai) (ao 9))))) (fT (dw (dq (bz gj T.isinstance_ (aC (ao 22) (CQ (v:=.ty "bool") (by rfl) T.bool_ BC (by rfl)))))) (fy (bS AE (ao 22) (ao 18))))).pt (aD cI)) (ak (aV (AO JR PySem.F.slot_list_clear PySem.F.type_list_clear zT (aP aF (ao 20) ai))) (ak (aV (AO JL PySem.F.slot_dict_clear PySem.F.type_dict_clear yg (aP aF (ao 20) ai))) (ak (bH (fT (bS si (Cy (ao 21) T.cl_BundlePaper kd (hr.mono (by decide))) cI) (fT (bS (CL hr) (bI (ao 21) Z) (aP aF (ao 13) ai)) (fy (bS (Cu hr) (bI (ao 21) Z) (aP aF (ao 13) ai))))).pt (aD cI)) (ak (bo 23 nd (cP (ao 21) T.cl_BundlePaper h3 (hr.mono (by decide)) (av (ao 17) (aC (ao 19) (ao 14))))) (bc (bH (fT (dw (dq (bz gj T.isinstance_ (aC (ao 21) (iD (by rfl) T.mg_Paper))))) (fy (bS AE (ao 23) (bq i4 hr (av (ao 13) (av (ao 19) (av (ao 14) (aC (ao 10) (ao 8))))))))).pt (aD cI)) (aD (gu (je D7 (cP (ao 21) T.cl_BundlePaper h3 (hr.mono (by decide)) (av (ao 17) (aC (ao 9) (ao 14)))) (ao 18)) (gR (je (CM hr) (bB (aC (bI (ao 21) Z) (bI (ao 21) Z))) (dQ jS (ao 13) (eC ai) (eC ai)))))))))))))))))))))))))))))),?_⟩
 let hk:N9=2^24:=rfl
 let hL:=jI ns
 let hC:=kZ ns
 let hN:=m9 ns
 let Z0:=kW ns
 let ws:=BV ns
 show cg λRh hE=>eK (sp:=uK K) (ag ∅ aw) ⟨a,ns,Z,ha,ey,λH1 t la ot ro tl dd aW nw fj rj rs ts F' s1 hA hO nP pj t5=>hE _ _ ?_⟩
 show iU (σ':=[some (.ref a),some (.ref t),none,none,none,none,none,none,none,none,none,none,none,none,none,none,none,none,none,none,none,none,none,none]) (by kernel_rfl) ?_
 show bQ λRh hE=>?_
 show⟨_,Z,_,Z,t,_,Z,bh.of hA.tp,(λz=>absurd z.2 (by change¬HT.sIx 8 8 (some 4)=8;decide)),λp1 n1=>?_⟩
 rw[show gh [V.int (Cz ns:Nat),.ref la,.ref ot,.int aW,.int nw,.ref ro,.ref tl,.ref dd] none (some 4)=[.int (Cz ns:Nat),.ref la,.ref ot,.int aW] from Z]
 let cj:au H1 (Oc H1 p1 (.tup [.int (Cz ns:Nat),.ref la,.ref ot,.int aW])):=(au.refl H1).upd n1
 show⟨p1,[.int (Cz ns:Nat),.ref la,.ref ot,.int aW],Z,bh.of af,Z,_,_,Z,_,_,Z,_,_,Z,_,_,Z,Z,hE _ _ ?_⟩
 revert cj
 generalize Oc H1 p1 (.tup [.int (Cz ns:Nat),.ref la,.ref ot,.int aW])=H2
 intro cj
 show iU (σ':=[some (.ref a),some (.ref t),some (.int (Cz ns:Nat)),some (.ref la),some (.ref ot),some (.int aW),none,none,none,none,none,none,none,none,none,none,none,none,none,none,none,none,none,none]) (by kernel_rfl) ?_
 show bQ λRh hE=>?_
 show⟨_,Z,_,Z,t,_,Z,bh.of (cj _ _ hA.tp),(λz=>absurd z.1 (by change¬HT.sIx 8 0 (some 4)=0;decide)),λp2 n2=>?_⟩
 rw[show gh [V.int (Cz ns:Nat),.ref la,.ref ot,.int aW,.int nw,.ref ro,.ref tl,.ref dd] (some 4) none=[.int nw,.ref ro,.ref tl,.ref dd] from Z]
 let dt:au H2 (Oc H2 p2 (.tup [.int nw,.ref ro,.ref tl,.ref dd])):=(au.refl H2).upd n2
 show⟨p2,[.int nw,.ref ro,.ref tl,.ref dd],Z,bh.of af,Z,_,_,Z,_,_,Z,_,_,Z,_,_,Z,Z,hE _ _ ?_⟩
 revert dt
 generalize Oc H2 p2 (.tup [.int nw,.ref ro,.ref tl,.ref dd])=H3
 intro dt
 let el:=cj.trans dt
 let em:=s1.trans el
 let g3:=hA.same el
 let dC:=em.seq ha
 show iU (σ':=[some (.ref a),some (.ref t),some (.int (Cz ns:Nat)),some (.ref la),some (.ref ot),some (.int aW),some (.int nw),some (.ref ro),some (.ref tl),some (.ref dd),none,none,none,none,none,none,none,none,none,none,none,none,none,none]) (by kernel_rfl) ?_
 show cg λRh hE=>fX ?_
 show cE (eK (sp:=iy) (ag (bK 4 (ag ∅ (ag az aw)) dC) aw) ⟨_,Z,λp0 a0 nj=>?_⟩)
 show cE (ff (aQ az (bM (bK 5 (ag ∅ (ag az aw)) dC) az (by change(0:Int)<9;decide))) ?_)
 obtain⟨hB,o4⟩:∃hB,hB=1+bZ ns 5%9:=⟨_,Z⟩
 let a1:1<=hB/\hB<=1000000000000:=by
  have:=JO (bZ ns 5) (show(9:Int)≠0 by decide)
  have:=JQ (bZ ns 5) (show(0:Int)<9 by decide)
  lia
 change _/\∀p,H3 p=none->Rh (.ref p) (Oc H3 p (.lst [.int p0,.int (1+bZ ns 5%9)]))
 rw[<-o4]
 show⟨by change 2<=N9;decide,λpq pA=>hE _ _ ?_⟩
 let cw:au H3 (Oc H3 pq (.lst [.int p0,.int hB])):=(au.refl H3).upd pA
 let co:Oc H3 pq (.lst [.int p0,.int hB]) pq>.lst [.int p0,.int hB]:=af
 revert cw co
 generalize Oc H3 pq (.lst [.int p0,.int hB])=H4
 intro cw co
 let ec:=cw.seq dC
 show cg λRh hE=>qz ⟨_,Z,fX ?_⟩
 show cE ⟨_,Z,pq,_,0,_,Z,Z,aM.of co,Z,?_⟩
 show cE (eK (sp:=iy) (ag (bK 7 (ag ∅ (ag az aw)) ec) aw) ⟨_,Z,λp3 a3 pB=>?_⟩)
 show cE (eK (sp:=iy) (ag (bK 8 (ag ∅ (ag az aw)) ec) aw) ⟨_,Z,λp4 a4 q8=>?_⟩)
 show⟨by change 3<=N9;decide,λix n3=>?_⟩
 let cx:au H4 (Oc H4 ix (.lst [.int p0,.int p3,.int p4])):=(au.refl H4).upd n3
 let ca:Oc H4 ix (.lst [.int p0,.int p3,.int p4]) ix>.lst [.int p0,.int p3,.int p4]:=af
 revert cx ca
 generalize Oc H4 ix (.lst [.int p0,.int p3,.int p4])=H5
 intro cx ca
 show⟨pq,ix,_,_,Z,Z,cx _ _ co,ca,by change 2+3<=N9;decide,λpl oN=>hE _ _ ?_⟩
 let db:au H5 (Oc H5 pl (.lst ([.int p0,.int hB]++[.int p0,.int p3,.int p4]))):=(au.refl H5).upd oN
 let dv:Oc H5 pl (.lst ([.int p0,.int hB]++[.int p0,.int p3,.int p4])) pl>.lst (([p0,hB,p0,p3,p4]:-Int).map V.int):=af
 revert db dv
 generalize Oc H5 pl (.lst ([.int p0,.int hB]++[.int p0,.int p3,.int p4]))=H6
 intro db dv
 let ar:=cw.trans (cx.trans db)
 let ef:=em.trans ar
 let et:=g3.same ar
 let hu:=ef.seq ha
 show iU (σ':=[some (.ref a),some (.ref t),some (.int (Cz ns:Nat)),some (.ref la),some (.ref ot),some (.int aW),some (.int nw),some (.ref ro),some (.ref tl),some (.ref dd),some (.ref pl),none,none,none,none,none,none,none,none,none,none,none,none,none]) (by kernel_rfl) ?_
 let hg:fu (gL ns p0 hB p3 p4 rs ts):=FC hO ⟨a0,nj⟩ a1 ⟨a3,pB⟩ ⟨a4,q8⟩
 let⟨fl,rl,fn,fr,f8,hc⟩:=u_ hO.pm
 let f1:=hO.f1
 let f6:=hO.f6
 let⟨cy,dc,ea⟩:=id et.la
 let gc:↑cy=↑fj:=by rw[Nb.length ea,Jb]
 show bQ λRh hE=>?_
 show⟨_,Z,la,Z,⟨_,aM.of dc⟩,λhS nE=>?_⟩
 show bf (K:=K) (xs:=cy.map V.ref) (λi τ H'=>∃(x0:Option V) (bs:-N8),τ=[x0]/\au H6 H'/\H' hS>.lst (bs.map V.ref)/\bG H' bs (((fj.take i).map λj=>j*Cz ns+0).map (sN (Rz ns) (Cz ns)))/\↑bs<=i) ⟨none,[],Z,(au.refl H6).upd nE,af,.nil,Jd _⟩ (λi τ H' _ hz=>by let⟨_,_,_,s,_⟩:=hz;show aM.of (s _ _ dc)) ?_ ?_
 ·rintro i v τ H' hv ⟨x0,bs,rfl,s,hD,ge,hl⟩
  let⟨b,hb,rfl⟩:=bJ hv
  let hi:i<↑cy:=(Js.mp hb).1
  let⟨cc,eq,ga⟩:=br ea hb
  rw[Jn] at eq
  let⟨j,hj,rfl⟩:=JH.mp eq
  show gn (eT ?_)
  show eB (c:=Cz ns) (x:=0) ∅ (s _ _ ga) () az λp H2 s2 np hp=>?_
  let dT:=s2 _ _ hD
  show⟨_,dT,aL (by rw[Jb];lia),_,bs++[p],Z,bE (s.trans s2) nE,by rw[af,Jf];rfl,?_,by rw[Jo];change ↑bs+1<=_;lia⟩
  rw[aN hj,Jf,Jf]
  show cG (ay ge λb xs z=>bj dT _ _ (s2 _ _ z)) (.cons (bj dT _ _ hp) .nil)
 rintro τ H7 ⟨x0,f7,rfl,cZ,g1,dK,_⟩
 show hE _ _ ?_
 rw[Jb,gc,Jx] at dK
 let ev:=ef.trans cZ
 let eu:=et.same cZ
 show iU (σ':=[some (.ref a),some (.ref t),some (.int (Cz ns:Nat)),some (.ref la),some (.ref ot),some (.int aW),some (.int nw),some (.ref ro),some (.ref tl),some (.ref dd),some (.ref pl),some (.ref hS),none,none,none,none,none,none,none,none,none,none,none,none]) (by kernel_rfl) ?_
 show cg λRh hE=>eK (sp:=pM K) (ag ∅ (ag ∅ aw)) ⟨a,t,la,ot,ro,tl,dd,ns,aW,nw,fj,rj,rs,ts,F',Z,ev.seq ha,eu,hO,λH8 go gs ij ww pu qn nA t3 x9=>hE _ _ ?_⟩
 let b0:=ev.trans ij
 let N:=eu.same ij
 show iU (σ':=[some (.ref a),some (.ref t),some (.int (Cz ns:Nat)),some (.ref la),some (.ref ot),some (.int aW),some (.int nw),some (.ref ro),some (.ref tl),some (.ref dd),some (.ref pl),some (.ref hS),some (.ref go),none,none,none,none,none,none,none,none,none,none,none]) (by kernel_rfl) ?_
 let di:H8 pl>.lst (([p0,hB,p0,p3,p4]:-Int).map V.int):=ij _ _ (cZ _ _ dv)
 show cg λRh hE=>?_
 show⟨_,Z,?_⟩
 show cE (eK (sp:=uG K) (ag ∅ (ag ∅ (ag (c8 (v:=.int p0) ∅ az (aM.of di) Z) aw))) ⟨a,t,la,ot,ro,tl,dd,ns,aW,nw,p0,fj,rj,rs,ts,F',Z,b0.seq ha,N,hO,a0,nj,λH9 m0 wr h pr de as W hs k0 wf ir nh v2 hm q3 p5=>?_⟩)
 let ek:=b0.trans k0
 let ep:=N.same k0
 let f4:=k0 _ _ (ij _ _ (cZ _ _ dc))
 let ct:dd≠h:=λz=>by rw[<-z,N.dd] at nh;cases nh
 let jq:tl≠h:=λz=>by rw[<-z,N.tl] at nh;cases nh
 show⟨_,Z,_,Z,_,_,Z,.inl ⟨_,aM.of f4,Z⟩,?_⟩
 show⟨a,m0,wr,h,dd,ns,pr,de,(↑(cy.map V.ref):Nat),as,W,hs,F',Z,ek.seq ha,hm,q3,p5,ep.dd,hO.ft,hO.fe,(),by rw[Jb];lia,ct,λH10 m hI hH hK W' pk F2 J nm j1 O10 sub=>hE _ _ ?_⟩
 let X:∀{b:N8} {o:HO},H8 b>o->(∀z,o≠.dT z)->H10 b>o:=fun{b o} e nz=>J.bt _ _ (λy=>by
  simp only[Jk,JJ,or_false] at y
  rcases y with y|y|y
  ·rw[y,ir] at e;cases e
  ·rw[y,nh] at e;cases e
  ·rw[y,N.dd] at e;cases e;show nz _ Z) (k0 _ _ e)
 let dV:H10 tl>.dT (aZ (Rz ns) (Cz ns) ts):=J.bt _ _ (λy=>by
  simp only[Jk,JJ,or_false] at y
  rcases y with y|y|y
  ·rw[<-y,N.tl] at ir;cases ir
  ·show jq y
  ·show nP y) ep.tl
 let ad:C3 H10 t la ot ro tl dd ns aW nw fj rj rs ts F2:=⟨X N.tp (λ_ z=>by cases z),jh X N.la,jh X N.ot,jh X N.ro,dV,J.d⟩
 let c5:aM K H10 a (ns.map V.int):=mJ ha λo z=>J.bt _ _ (λy=>by
  simp only[Jk,JJ,or_false] at y
  rcases y with y|y|y
  ·rw[y] at z;rw[b0 _ _ z] at ir;cases ir
  ·rw[y] at z;rw[b0 _ _ z] at nh;cases nh
  ·rw[y,pj] at z;cases z) (ek _ _ z)
 let D:Tb (Nz ns*Cz ns) F2:=⟨(sub.map _).nodup hO.ft.nd,λp hp=>hO.ft.lt p (sub.subset hp)⟩
 let cr:=X di (λ_ z=>by cases z)
 let fC:fH H10 hS ((fj.map λj=>j*Cz ns+0).map (sN (Rz ns) (Cz ns))):=jh X ⟨f7,ij _ _ g1,ay dK λ_ _ z=>ij _ _ z⟩
 let ew:fH H10 go (gs.map (sN (Rz ns) (Cz ns))):=jh X pu
 show iU (σ':=[some (.ref a),some (.ref t),some (.int (Cz ns:Nat)),some (.ref la),some (.ref ot),some (.int aW),some (.int nw),some (.ref ro),some (.ref tl),some (.ref dd),some (.ref pl),some (.ref hS),some (.ref go),some (.ref m),none,none,none,none,none,none,none,none,none,none]) (by kernel_rfl) ?_
 show iX (eK (sp:=ko K) (ag ∅ (ag ∅ (ag ∅ (ag ∅ aw)))) ⟨a,t,la,ot,ro,tl,dd,pl,m,wr,h,ns,aW,nw,hI,hH,fj,rj,rs,ts,F2,hK,W',pk,[p0,hB,p0,p3,p4],Z,c5,ad,D,hO.tv,⟨j1,J.w,J.W,J.h⟩,O10,cr,Z,ct,jq,λH11 hs2 sb m5 O11=>?_⟩)
 let⟨g8,dl,_⟩:=J.h
 let B:∀{b:N8} {o:HO},H10 b>o->(∀z,o≠.dT z)->H11 b>o:=λz nz=>fR dl sb z nz
 let c3:w5 H11 m wr h hI hH hK W' hs2:=⟨B j1 (λ_ z=>by cases z),B J.w (λ_ z=>by cases z),J.W.tups λb xs z=>B z (λ_ z=>by cases z),m5⟩
 let be:C3 H11 t la ot ro tl dd ns aW nw fj rj rs ts F2:=⟨B ad.tp (λ_ z=>by cases z),jh B ad.la,jh B ad.ot,jh B ad.ro,sb _ _ jq dV,sb _ _ ct J.d⟩
 let ch:aM K H11 a (ns.map V.int):=oA c5 dl λb o nb z nz=>B z nz
 let cm:=B cr (λ_ z=>by cases z)
 let f0:H11 (fY K "arcs_in").2>(.tbl #[]):=B (X (b0 _ _ f5) (λ_ z=>by cases z)) (λ_ z=>by cases z)
 let hx:Cz ns - 1<Cz ns:=by lia
 let g5:((fj.map λj=>j*Cz ns+0)++gs).Nodup:=Kh.mpr ⟨gv f8 λi _ j _ e=>(qD () () e).1,qn,λx ru y hy e=>by
  let⟨i,_,rfl⟩:=Jh.mp ru
  let⟨j,_,e2⟩:=nA y hy
  have:=(qD (x:=0) (y:=Cz ns - 1) () hx (e.trans e2)).2
  lia⟩
 let c4:=CP P w hg g5 λn hn=>by
  change n<Nz ns*Cz ns
  rcases Jz.mp hn with z|z
  ·let⟨j,hj,rfl⟩:=Jh.mp z
   show jE (fl j hj) ()
  ·let⟨j,hj,rfl⟩:=nA n z
   show jE hj hx
 rw[Jf] at c4
 show cg λRh hE=>eK (sp:=mU K Oh cBundle) (ag ∅ (ag ∅ (ag ∅ aw))) ⟨a,hS,go,ns,(fj.map λj=>j*Cz ns+0).map (sN (Rz ns) (Cz ns)),gs.map (sN (Rz ns) (Cz ns)),Z,ch,jh B fC,jh B ew,c4,by rw[Jb,Jb];lia,by rw[Jb,Jb];lia,by rw[Jb,Jb,Jb];lia,by rw[Jb];lia,λH12 th ob j6 s8 pF oT=>hE _ _ ?_⟩
 show iU (σ':=[some (.ref a),some (.ref t),some (.int (Cz ns:Nat)),some (.ref la),some (.ref ot),some (.int aW),some (.int nw),some (.ref ro),some (.ref tl),some (.ref dd),some (.ref pl),some (.ref hS),some (.ref go),some (.ref m),some (.ref th),none,none,none,none,none,none,none,none,none]) (by kernel_rfl) ?_
 let fv:=j6.seq ch
 let d5:=j6 _ _ cm
 show bV (v:=.int (Lz ns:Nat)) (cA (aQ az (bM (bK 0 (ag ∅ (ag az aw)) fv) az (by change(0:Int)<2;decide))) (by rw[hL.1])) ?_
 show iU (σ':=[some (.ref a),some (.ref t),some (.int (Cz ns:Nat)),some (.ref la),some (.ref ot),some (.int aW),some (.int nw),some (.ref ro),some (.ref tl),some (.ref dd),some (.ref pl),some (.ref hS),some (.ref go),some (.ref m),some (.ref th),some (.int (Lz ns:Nat)),none,none,none,none,none,none,none,none]) (by kernel_rfl) ?_
 show cg λRh hE=>Dq (fX ?_)
 let b3:∀{H':Hp} {σ:St} {j:Int} {v:Int},au H12 H'->σ[10]?>some (.ref pl)->jH (([p0,hB,p0,p3,p4]:-Int).map V.int) j>.int v->Ev (gb (nu K) (cR 10) (tC (.int j))) σ H' (.int v):=λs e1 e2=>c8 (ae e1) az (aM.of (s _ _ d5)) e2
 show cE (cS [.int p0,.int hB] (ag (b3 (au.refl _) Z Z) (ag (b3 (au.refl _) Z Z) aw)) (by change 2<=1000;decide) λq1 H13 j4 u6 p8=>?_)
 show cE (cS [.int p0,.int p3] (ag (b3 j4 Z Z) (ag (b3 j4 Z Z) aw)) (by change 2<=1000;decide) λq2 H14 k8 ul rz=>?_)
 show⟨by change 2<=N9;decide,λl2 kt=>?_⟩
 let ab:au H14 (Oc H14 l2 (.lst [.ref q1,.ref q2])):=(au.refl H14).upd kt
 let bv:Oc H14 l2 (.lst [.ref q1,.ref q2]) l2>.lst [.ref q1,.ref q2]:=af
 revert ab bv
 generalize Oc H14 l2 (.lst [.ref q1,.ref q2])=jp
 intro ab bv
 show⟨_,Z,_,Z,l2,_,Z,aM.of bv,λpa ra=>hE _ _ ?_⟩
 rw[zZ [.ref q1,.ref q2] (Lz ns) (by change Lz ns<=2;lia)]
 let ah:au jp (Oc jp pa (.lst ([V.ref q1,.ref q2].take (Lz ns)))):=(au.refl jp).upd ra
 let d1:Oc jp pa (.lst ([V.ref q1,.ref q2].take (Lz ns))) pa>.lst ((([q1,q2]:-N8).take (Lz ns)).map V.ref):=by rw[af,List.map_take];rfl
 revert ah d1
 generalize Oc jp pa (.lst ([V.ref q1,.ref q2].take (Lz ns)))=h6
 intro ah d1
 let bd:=j4.trans (k8.trans (ab.trans ah))
 let Y:=j6.trans bd
 let fm:fH h6 pa (([[p0,hB],[p0,p3]]:-T3).take (Lz ns)):=⟨_,d1,Bh (show bG h6 [q1,q2] [[p0,hB],[p0,p3]] from .cons ((k8.trans (ab.trans ah)) _ _ p8) (.cons ((ab.trans ah) _ _ rz) .nil)) _⟩
 show iU (σ':=[some (.ref a),some (.ref t),some (.int (Cz ns:Nat)),some (.ref la),some (.ref ot),some (.int aW),some (.int nw),some (.ref ro),some (.ref tl),some (.ref dd),some (.ref pl),some (.ref hS),some (.ref go),some (.ref m),some (.ref th),some (.int (Lz ns:Nat)),some (.ref pa),none,none,none,none,none,none,none]) (by kernel_rfl) ?_
 show cg λRh hE=>?_
 let bm:=be.same Y
 let⟨A,d4,d7⟩:=id bm.la
 let⟨f,d3,d8⟩:=id bm.ot
 let g4:↑A=↑fj:=by rw[Nb.length d7,Jb]
 let gi:↑f=↑rj:=by rw[Nb.length d8,Jb]
 show cE ⟨_,Z,cE (qz ?_)⟩
 show⟨_,Z,_,Z,la,ot,_,_,Z,Z,d4,d3,by rw[Jb,Jb];lia,λen o2=>?_⟩
 let a6:au h6 (Oc h6 en (.lst (A.map V.ref++f.map V.ref))):=(au.refl h6).upd o2
 let dm:Oc h6 en (.lst (A.map V.ref++f.map V.ref)) en>.lst (A.map V.ref++f.map V.ref):=af
 revert a6 dm
 generalize Oc h6 en (.lst (A.map V.ref++f.map V.ref))=io
 intro a6 dm
 show⟨_,_,Z,.inl ⟨_,aM.of dm,Z⟩,_,Z,_,_,Z,Z,zo (by change(0:Int)<(Lz ns:Nat);lia) (by change((Lz ns:Nat):Int)<2^200;lia),?_⟩
 let eR:((↑(A.map V.ref++f.map V.ref):Nat):Int)/((Lz ns:Nat):Int)=((Rz ns:Nat):Int):=by
  rw[Jo,Jb,Jb,g4,gi,fn]
  unfold Nz
  rw[Int.natCast_mul]
  show Int.mul_ediv_cancel_left _ ()
 show⟨_,Z,?_⟩
 change _/\∀p,io p=none->_
 show⟨by change 3<=N9;decide,λz nz=>?_⟩
 let bb:au io (Oc io z (.tup [.int (Lz ns:Nat),.int (((↑(A.map V.ref++f.map V.ref):Nat):Int)/((Lz ns:Nat):Int)),.int (Cz ns:Nat)])):=(au.refl io).upd nz
 let hz:Oc io z (.tup [.int (Lz ns:Nat),.int (((↑(A.map V.ref++f.map V.ref):Nat):Int)/((Lz ns:Nat):Int)),.int (Cz ns:Nat)]) z>.tup [.int (Lz ns:Nat),.int (Rz ns:Nat),.int (Cz ns:Nat)]:=by rw[af,eR]
 revert bb hz
 generalize Oc io z (.tup [.int (Lz ns:Nat),.int (((↑(A.map V.ref++f.map V.ref):Nat):Int)/((Lz ns:Nat):Int)),.int (Cz ns:Nat)])=js
 intro bb hz
 let d6:=bd.trans (a6.trans bb)
 show⟨_,Z,?_⟩
 show cE (Dq (fX (cE (ff (b3 d6 Z (j:=4) (v:=p4) Z) ?_))))
 show⟨by change 1<=N9;decide,λv1 pi=>?_⟩
 let cd:au js (Oc js v1 (.lst [.int p4])):=(au.refl js).upd pi
 let du:Oc js v1 (.lst [.int p4]) v1>.lst [.int p4]:=af
 revert cd du
 generalize Oc js v1 (.lst [.int p4])=i2
 intro cd du
 show ff (v:=.int ((Lz ns - 1:Nat):Int)) (cA (aQ ∅ az) (congrArg V.int ())) ⟨_,Z,v1,_,Z,aM.of du,λvi o5=>?_⟩
 rw[zZ [.int p4] (Lz ns - 1) (by change Lz ns - 1<=1;lia)]
 let ce:au i2 (Oc i2 vi (.lst ([V.int p4].take (Lz ns - 1)))):=(au.refl i2).upd o5
 let dp:Oc i2 vi (.lst ([V.int p4].take (Lz ns - 1))) vi>.lst ((([p4]:-Int).take (Lz ns - 1)).map V.int):=by rw[af,List.map_take];rfl
 revert ce dp
 generalize Oc i2 vi (.lst ([V.int p4].take (Lz ns - 1)))=lH
 intro ce dp
 let cN:=cd.trans ce
 let bl:=a6.trans (bb.trans cN)
 show⟨_,Z,_,Z,λfo dx m6 lF ne=>?_⟩
 let sm:au lH (Oc (Oc lH dx (.own fo)) fo (.ins Od dx [])):=i_ m6 lF
 let ac:=bl.trans sm
 show⟨fo,dx,z,pa,vi,.ref ro,.ref tl,gL ns p0 hB p3 p4 rs ts,Z,af,hg,sm _ _ (cN _ _ hz),fm.same ac,sm _ _ dp,.inr ⟨ro,Z,bm.ro.same ac⟩,.inr ⟨tl,Z,ac _ _ bm.tl⟩,λH21 iv i6 rd td mk n1 n2 n3 n4 rr=>⟨Z,hE _ _ ?_⟩⟩
 let ed:au lH H21:=fM.same sm m6 mk
 let I:=Y.trans (bl.trans ed)
 let fresh:∀{b:N8} {o:HO},h6 b>o->b≠rd/\b≠td:=λe=>⟨λz=>by(rw[z] at e;rw[ac _ _ e] at n3;cases n3),λz=>by(rw[z] at e;rw[ac _ _ e] at n4;cases n4)⟩
 let LW:GG Od Oh cBundle H21 m wr h dd th pl tl fo iv i6 rd td hI hH hK W' hs2 (gL ns p0 hB p3 p4 rs ts) F2 ob [p0,hB,p0,p3,p4]:=⟨c3.same I,I _ _ be.dd,I _ _ be.tl,I _ _ cm,(Kp.of (bd.trans (bl.trans ed))).tha pF,rr⟩
 let e5:=I.seq ch
 let eH:mx K H21:=.inl (I _ _ f0)
 let eb:(gL ns p0 hB p3 p4 rs ts).L<=2:=by change((Lz ns:Nat):Int)<=2;lia
 let⟨g7,ex,_⟩:=c3.h.same Y
 let fh:=fresh ex
 let fd:=fresh (Y _ _ be.dd)
 show iU (σ':=[some (.ref a),some (.ref t),some (.int (Cz ns:Nat)),some (.ref la),some (.ref ot),some (.int aW),some (.int nw),some (.ref ro),some (.ref tl),some (.ref dd),some (.ref pl),some (.ref hS),some (.ref go),some (.ref m),some (.ref th),some (.int (Lz ns:Nat)),some (.ref pa),some (.ref fo),none,none,none,none,none,none]) (by kernel_rfl) ?_
 let wl:=O11.wl
 let hl:=O11.hl
 let k3:∀q∈hs2,↑q.1=3:=λq hq=>by let⟨l,r,x,e,_⟩:=O11.g3 q hq;rw[e];rfl
 let gk:∀p∈F2,p.1∉rs:=λp hp=>hO.fo p (sub.subset hp)
 let pe:∀(F:-(Nat×V)),Tb (Nz ns*Cz ns) F->∀c o,dI (Rz ns) (Cz ns) F c=true->o∈jD c->dI (Rz ns) (Cz ns) F o=true->iH [p0,hB,p0,p3,p4] (Rz ns) (Cz ns) ts c o=e8 (gL ns p0 hB p3 p4 rs ts) c o:=λF hF c o h1 _ h2=>by
  let i:∀{c:T3},dI (Rz ns) (Cz ns) F c=true->uT (gL ns p0 hB p3 p4 rs ts) c=true:=fun{c} h=>by
   let⟨p,hp,rfl⟩:=(iP (g:=gL ns p0 hB p3 p4 rs ts)).mp h
   show N3 (mC hg (hF.lt p hp) Z)
  show yv (i h1) (i h2)
 let VD:∀{F:-(Nat×V)},F.Sublist F2->(GP (gL ns p0 hB p3 p4 rs ts) F W' hI hH hs2 ob↔Gu (gL ns p0 hB p3 p4 rs ts) F W' hI hH hs2 [p0,hB,p0,p3,p4] ob):=fun{F} sF=>by
  let hF:Tb (Nz ns*Cz ns) F:=⟨(sF.map _).nodup D.nd,λp hp=>D.lt p (sF.subset hp)⟩
  show zC hg hF (λp hp=>gk p (sF.subset hp)) O11.l3 oT (pe F hF)
 show cg λRh hE=>eK (sp:=ph Oh cBundle) (ag ∅ (ag ∅ (ag ∅ (ag ∅ (ag ∅ aw))))) ⟨m,wr,h,dd,th,pl,tl,hI,hH,hK,W',hs2,gL ns p0 hB p3 p4 rs ts,F2,ob,[p0,hB,p0,p3,p4],Z,LW.md,O11.l3,(),O11.nd,(),hg,eb,LW.dd,D,LW.tl,LW.pl,Z,LW.th,ct,jq,nP,λH22 due jj k5=>hE _ _ ?_⟩
 show iU (σ':=[some (.ref a),some (.ref t),some (.int (Cz ns:Nat)),some (.ref la),some (.ref ot),some (.int aW),some (.int nw),some (.ref ro),some (.ref tl),some (.ref dd),some (.ref pl),some (.ref hS),some (.ref go),some (.ref m),some (.ref th),some (.int (Lz ns:Nat)),some (.ref pa),some (.ref fo),some (.bl due),none,none,none,none,none]) (by kernel_rfl) ?_
 let h0:=(Kp.of jj).lwa LW
 show cg λRh hE=>eK (sp:=pZ K) (ag ∅ (ag ∅ (ag ∅ aw))) ⟨a,m,wr,h,dd,ns,hI,hH,Rz ns,Cz ns,hK,W',hs2,F2,Lz ns,Nz ns*Cz ns,Z,jj.seq e5,h0.md,(),h0.dd,Z0,hg.M,hg.m,D,λH23 fe F3 k4 q5 n0 i5=>hE _ _ ?_⟩
 show iU (σ':=[some (.ref a),some (.ref t),some (.int (Cz ns:Nat)),some (.ref la),some (.ref ot),some (.int aW),some (.int nw),some (.ref ro),some (.ref tl),some (.ref dd),some (.ref pl),some (.ref hS),some (.ref go),some (.ref m),some (.ref th),some (.int (Lz ns:Nat)),some (.ref pa),some (.ref fo),some (.bl due),some (.ref fe),none,none,none,none]) (by kernel_rfl) ?_
 let hQ:=(Kp.of k4).lwa h0
 let e6:=(eH.same jj).same k4
 let⟨ls,hh,hp⟩:=hQ.md.h
 let cB:=ki ls (fV hp<|O11.nd)
 let eg:=Eo Z0 D
 let g2:∀p∈aJ ls,jX p.2=true:=λp lq=>by
  let⟨q,hq,rfl⟩:=Jh.mp lq
  let⟨t',_,_,e,_⟩:=ue hp q hq
  change jX q.2=true
  rw[e];rfl
 let g0:∀p∈aZ (Rz ns) (Cz ns) F2,jX p.2=true:=λp lq=>by
  let⟨q,hq,rfl⟩:=Jh.mp lq
  change jX q.2=true
  rw[hO.fv q (sub.subset hq)];rfl
 show cg λRh hE=>fX ?_
 show cE ⟨_,Z,m,_,0,_,Z,Z,aM.of hQ.md.m,Z,wr,_,Z,.inl (aM.of hQ.md.w),λc0 n5=>?_⟩
 let ap:au H23 (Oc H23 c0 (.lst (hK.map V.ref))):=(au.refl H23).upd n5
 let bD:Oc H23 c0 (.lst (hK.map V.ref)) c0>.lst (hK.map V.ref):=af
 revert ap bD
 generalize Oc H23 c0 (.lst (hK.map V.ref))=i1
 intro ap bD
 show cE ⟨_,Z,m,_,3,_,Z,Z,aM.of (ap _ _ hQ.md.m),Z,h,Z,.inr ⟨_,.inl (ap _ _ hh),vK hp O11.nd O11.g3,λc1 kn=>?_⟩⟩
 let bn:au i1 (Oc i1 c1 (.dT (aJ ls))):=(au.refl i1).upd kn
 let bx:Oc i1 c1 (.dT (aJ ls)) c1>.dT (aJ ls):=af
 revert bn bx
 generalize Oc i1 c1 (.dT (aJ ls))=i3
 intro bn bx
 let a7:=ap.trans bn
 show cE ⟨_,Z,dd,Z,.inr ⟨aZ (Rz ns) (Cz ns) F2,.inl (a7 _ _ hQ.dd),qe Z0 hg.M D,λc2 kw=>?_⟩⟩
 let aa:au i3 (Oc i3 c2 (.dT (aZ (Rz ns) (Cz ns) F2))):=(au.refl i3).upd kw
 let dj:Oc i3 c2 (.dT (aZ (Rz ns) (Cz ns) F2)) c2>.dT (aZ (Rz ns) (Cz ns) F2):=af
 revert aa dj
 generalize Oc i3 c2 (.dT (aZ (Rz ns) (Cz ns) F2))=jr
 intro aa dj
 show⟨by change 3<=N9;decide,λhd j5=>hE _ _ ?_⟩
 let a2:au jr (Oc jr hd (.lst [.ref c0,.ref c1,.ref c2])):=(au.refl jr).upd j5
 let an:Oc jr hd (.lst [.ref c0,.ref c1,.ref c2]) hd>.lst [.ref c0,.ref c1,.ref c2]:=af
 revert a2 an
 generalize Oc jr hd (.lst [.ref c0,.ref c1,.ref c2])=jw
 intro a2 an
 let M:=a7.trans (aa.trans a2)
 let dL:=(bn.trans (aa.trans a2)) _ _ bD
 let d0:=(aa.trans a2) _ _ bx
 let da:=a2 _ _ dj
 let hX:=(Kp.of M).lwa hQ
 let eA:=e6.same M
 let u:∀{b:N8} {o:HO},H23 b>o->b≠c0/\b≠c1/\b≠c2:=fun{b o} e=>⟨aq e n5,aq (ap _ _ e) kn,aq (a7 _ _ e) kw⟩
 let f3:hd≠c0/\hd≠c1:=⟨λz=>by(rw[z,(bn.trans aa) _ _ bD] at j5;cases j5),λz=>by(rw[z,aa _ _ bx] at j5;cases j5)⟩
 let ho:c2≠c1:=λz=>by rw[z,bx] at kw;cases kw
 show iU (σ':=[some (.ref a),some (.ref t),some (.int (Cz ns:Nat)),some (.ref la),some (.ref ot),some (.int aW),some (.int nw),some (.ref ro),some (.ref tl),some (.ref dd),some (.ref pl),some (.ref hS),some (.ref go),some (.ref m),some (.ref th),some (.int (Lz ns:Nat)),some (.ref pa),some (.ref fo),some (.bl due),some (.ref fe),some (.ref hd),none,none,none]) (by kernel_rfl) ?_
 let bA:∀{H':Hp} {σ:St} {j:Int} {v:V},H' hd>.lst [.ref c0,.ref c1,.ref c2]->σ[20]?>some (.ref hd)->jH [V.ref c0,.ref c1,.ref c2] j>v->Ev (gb (nu K) (cR 20) (tC (.int j))) σ H' v:=λs e1 e2=>c8 (ae e1) az (aM.of s) e2
 let a5:∀{H':Hp} {σ:St} {j:Int} {v:V},H' m>.lst [.ref wr,.int hI,.int hH,.ref h]->σ[13]?>some (.ref m)->jH [V.ref wr,.int hI,.int hH,.ref h] j>v->Ev (gb (nu K) (cR 13) (tC (.int j))) σ H' v:=λs e1 e2=>c8 (ae e1) az (aM.of s) e2
 show cg λRh hE=>?_
 show DP (ag (bA an Z Z) (ag (a5 hX.md.m Z Z) (ag (a5 hX.md.m Z Z) (ag (bA an Z Z) aw)))) λp dx np lF ne=>?_
 let am:au jw (Oc (Oc jw dx (.own p)) p (.ins cBundlePaper dx [])):=i_ np lF
 let len:↑hK=↑W':=↑hX.md.W
 let fk:Nb (o3 jw) ls hs2:=Nb.mapP hp λ_ _ z=>by
  let⟨z1,t',z2,z3⟩:=z
  show⟨z1,t',z2,M _ _ z3⟩
 show⟨p,dx,c0,c1,hK.map V.ref,hI,hH,hs2,Z,af,am _ _ dL,by rw[Jb];lia,⟨ls,am _ _ d0,Nb.mapP fk λ_ _ z=>by
  let⟨z1,t',z2,z3⟩:=z
  show⟨z1,t',z2,am _ _ z3⟩⟩,O11.nd,O11.g3,λH28 w' d nc lw rx pz mA nR=>⟨Z,hE _ _ ?_⟩⟩
 let S:au jw H28:=fM.same am np nc
 let C:∀{b:N8} {o:HO},jw b>o->b≠w'/\b≠d:=λe=>⟨aq (am _ _ e) rx,aq (am _ _ e) pz⟩
 let k7:=(Kp.of S).lwa hX
 let c7:=eA.same S
 show iU (σ':=[some (.ref a),some (.ref t),some (.int (Cz ns:Nat)),some (.ref la),some (.ref ot),some (.int aW),some (.int nw),some (.ref ro),some (.ref tl),some (.ref dd),some (.ref pl),some (.ref hS),some (.ref go),some (.ref m),some (.ref th),some (.int (Lz ns:Nat)),some (.ref pa),some (.ref fo),some (.bl due),some (.ref fe),some (.ref hd),some (.ref p),none,none]) (by kernel_rfl) ?_
 let ee:d≠rd/\d≠td:=⟨((C hX.fa.rd).2).symm,((C hX.fa.td).2).symm⟩
 let b5:∀{H':Hp} {e:N8} {F:-(Nat×V)} {R:VK},GG Od Oh cBundle H' m wr h dd th pl tl fo iv i6 rd td hI hH hK W' hs2 (gL ns p0 hB p3 p4 rs ts) F2 ob [p0,hB,p0,p3,p4]->qX cBundlePaper H' p w' d hI hH hs2->H' w'>.lst (hK.map V.ref)->mx K H'->H' e>.dT (aZ (Rz ns) (Cz ns) F)->F.Sublist F2->e≠rd->e≠td->d≠e->(∀H2 b,Bb K H' H2->mx K H2->(b=true↔Gu (gL ns p0 hB p3 p4 rs ts) F W' hI hH hs2 [p0,hB,p0,p3,p4] ob)->R (.bl b) H2)->qf K cBundlePaper Od Oh cBundle [.ref p,.ref fo,.ref e,.ref th] H' R E0:=fun{H' e F R} L P hw tb he sF n1 n2 n3 hR=>by
  let hF:Tb (Nz ns*Cz ns) F:=⟨(sF.map _).nodup D.nd,λp hp=>D.lt p (sF.subset hp)⟩
  show⟨p,w',d,fo,iv,i6,rd,td,e,th,hI,hH,hs2,gL ns p0 hB p3 p4 rs ts,F,hK,W',ob,Z,P,L.fa,hg,he,hF,n1,n2,n3,ee.1,ee.2,tb,hw,L.md.W,O11.l3,(),(),k3,L.th,λH2 b s2 t2 hb=>hR H2 b s2 t2 (hb.trans (VD sF))⟩
 let r0:qX cBundlePaper H28 p w' d hI hH hs2:=⟨dx,lw,nR⟩
 let ej:c2≠rd/\c2≠td:=⟨λz=>(u hQ.fa.rd).2.2 z.symm,λz=>(u hQ.fa.td).2.2 z.symm⟩
 show cg λRh hE=>⟨_,Z,p,dx,_,Z,lw,DU,(ag ∅ (ag (bA (S _ _ an) Z Z) (ag ∅ aw))) _ (b5 k7 r0 mA c7 (S _ _ da) (List.Sublist.refl _) ej.1 ej.2 (C da).2.symm λH29 DS nD nT no=>hE _ _ ?_)⟩
 obtain rfl:DS=due:=KJ.mpr (no.trans k5.symm)
 show iU (σ':=[some (.ref a),some (.ref t),some (.int (Cz ns:Nat)),some (.ref la),some (.ref ot),some (.int aW),some (.int nw),some (.ref ro),some (.ref tl),some (.ref dd),some (.ref pl),some (.ref hS),some (.ref go),some (.ref m),some (.ref th),some (.int (Lz ns:Nat)),some (.ref pa),some (.ref fo),some (.bl DS),some (.ref fe),some (.ref hd),some (.ref p),some (.bl DS),none]) (by kernel_rfl) ?_
 let O:=c7.kp nD
 let j8:=O.lwa k7
 let b7:=O _ _ (S _ _ an) (λ_ z=>by cases z)
 let ba:=O _ _ (S _ _ dL) (λ_ z=>by cases z)
 let bi:=O _ _ (S _ _ d0) (λ_ z=>by cases z)
 let e0:=O _ _ (S _ _ da) (λ_ z=>by cases z)
 let b1:Kp H23 H29:=(Kp.of (M.trans S)).trans O
 let e4:=b1 _ _ hh (λ_ z=>by cases z)
 show bO (lK ⟨_,Z,gm [.ref wr,.ref h,.ref dd] (ag (a5 j8.md.m Z Z) (ag (a5 j8.md.m Z Z) (ag ∅ aw))) (by change 3<=1000;decide) λl2 H30 hM kt bv=>?_⟩)
 let ld:=(Kp.of hM).lwa j8
 show⟨hd,l2,_,_,Z,Z,aM.of (hM _ _ b7),aM.of bv,Z,λi hi=>?_,_,Z,cK ?_⟩
 ·have:i=0\/i=1\/i=2:=by have:i<3:=hi;lia
  rcases this with rfl|rfl|rfl
  ·show .inr ⟨c0,wr,hK.map V.ref,Z,Z,(u hQ.md.w).1.symm,aM.of (hM _ _ ba),aM.of ld.md.w,rF hK⟩
  ·show .inl (rK (u hh).2.1.symm (hM _ _ bi) (hM _ _ e4) cB.1 cB.2 g2)
  ·show .inl (rK (u hQ.dd).2.2.symm (hM _ _ e0) ld.dd eg.1 eg.2 g0)
 show AY (Av (uj (dH (v:=.bl true) (ag ∅ (ag az aw)) λQ' q'=>⟨_,_,_,_,_,Z,.ty "bool",.bl _,T.bb,q'⟩))) ?_
 show⟨_,Z,_,Z,_,_,Z,Z,_,Z,?_⟩
 rw[beq_self_eq_true]
 show cK ?_
 show iX ((bA (hM _ _ b7) Z (j:=0) Z) _ ⟨.inl ⟨Z,_,aM.of (hM _ _ ba)⟩,c0,_,Z,Z,hM _ _ ba,?_⟩)
 let ax:∀{b:N8} {o:HO},b≠c0->H30 b>o->Oc H30 c0 (.lst []) b>o:=λn e=>by rw[aj n];show e
 revert ax
 generalize Oc H30 c0 (.lst [])=lh
 intro ax
 let d9:c1≠c0:=λz=>by rw[z,bD] at kn;cases kn
 show iX ((bA (ax f3.1 (hM _ _ b7)) Z (j:=1) Z) _ ⟨.inr (.inr (.inl ⟨Z,.inr ⟨_,ax d9 (hM _ _ bi)⟩⟩)),c1,_,Z,Z,ax d9 (hM _ _ bi),?_⟩)
 let ds:∀{b:N8} {o:HO},b≠c1->lh b>o->Oc lh c1 (.dT []) b>o:=λn e=>by rw[aj n];show e
 revert ds
 generalize Oc lh c1 (.dT [])=H32
 intro ds
 let kC:∀{b:N8} {o:HO},b≠c0->b≠c1->H30 b>o->H32 b>o:=λn n' e=>ds n' (ax n e)
 let U:Kp H23 H32:=λb o e nt=>kC (u e).1 (u e).2.1 (hM _ _ (b1 _ _ e nt))
 let ia:=U.lwa hQ
 let ft:=nT.same hM
 let e3:=hM _ _ ba
 let eW:=hM _ _ bi
 let kK:∀{b:N8} {o:HO},H30 b>o->(∀xs,o≠.lst xs)->(∀k,o≠.dT k)->H32 b>o:=λe n1 n2=>kC (λz=>by rw[z,e3] at e;cases e;show n1 _ Z) (λz=>by rw[z,eW] at e;cases e;show n2 _ Z) e
 let b8:mx K H32:=by
  rcases ft with z|⟨c,oc,z1,z2,z3⟩
  ·show .inl (kK z (λ_ z=>by cases z) (λ_ z=>by cases z))
  ·show .inr ⟨c,oc,kK z1 (λ_ z=>by cases z) (λ_ z=>by cases z),kK z2 (λ_ z=>by cases z) (λ_ z=>by cases z),z3⟩
 let ci:Kp H28 H30:=O.trans (Kp.of hM)
 let wn:=C dL
 let dn:=C d0
 let b4:H32 w'>.lst (hK.map V.ref):=kC wn.1.symm dn.1.symm (ci _ _ mA (λ_ z=>by cases z))
 let ll:qX cBundlePaper H32 p w' d hI hH hs2:=by
  let⟨es,e1,e2⟩:=ci.hta nR
  show⟨dx,kK (ci _ _ lw (λ_ z=>by cases z)) (λ_ z=>by cases z) (λ_ z=>by cases z),es,kC wn.2.symm dn.2.symm e1,Nb.mapP e2 λ_ _ z=>?_⟩
  let⟨z1,t',z2,z3⟩:=z
  show⟨z1,t',z2,kK z3 (λ_ z=>by cases z) (λ_ z=>by cases z)⟩
 let⟨cs,cU,es,gD,f2⟩:=id ll
 let fp:=U _ _ hh (λ_ z=>by cases z)
 let d2:Nb (o3 H32) ls hs2:=Nb.mapP hp λ_ _ z=>by
  let⟨z1,t',z2,z3⟩:=z
  show⟨z1,t',z2,U.tup _ _ z3⟩
 show bO (lK ⟨_,Z,p,cs,_,Z,cU,IK,p,Z,_,_,Z,Z,_,Z,cK ?_⟩)
 show lK ⟨_,Z,p,cBundlePaper,cs,_,_,Z,cU,T.cl_BundlePaper,T.na_BundlePaper_wires,Ii,(a5 ia.md.m Z (j:=0) Z) _ ⟨w',wr,hK.map V.ref,Z,Z,aM.of b4,aM.of ia.md.w,rF hK,_,Z,cK ?_⟩⟩
 show⟨_,Z,p,cBundlePaper,cs,_,_,Z,cU,T.cl_BundlePaper,T.na_BundlePaper_heights,Er,(a5 ia.md.m Z (j:=3) Z) _ ⟨DJ (C (M _ _ hh)).2.symm gD fp f2 d2 O11.nd,_,Z,cK ?_⟩⟩
 let cF:=U _ _ n0 (λ_ z=>by cases z)
 let cv:∀{b:N8} {o:HO},H22 b>o->b≠fe:=λe=>aq e q5
 show cg λRh hE=>⟨_,Z,p,cs,_,Z,cU,DU,(ag ∅ (ag ∅ (ag ∅ aw))) _ (b5 ia ll b4 b8 cF i5 (cv h0.fa.rd).symm (cv h0.fa.td).symm (C (M _ _ n0)).2.symm λH33 nS lf j2 nG=>hE _ _ ?_)⟩
 show iU (σ':=[some (.ref a),some (.ref t),some (.int (Cz ns:Nat)),some (.ref la),some (.ref ot),some (.int aW),some (.int nw),some (.ref ro),some (.ref tl),some (.ref dd),some (.ref pl),some (.ref hS),some (.ref go),some (.ref m),some (.ref th),some (.int (Lz ns:Nat)),some (.ref pa),some (.ref fo),some (.bl DS),some (.ref fe),some (.ref hd),some (.ref p),some (.bl DS),some (.bl nS)]) (by kernel_rfl) ?_
 let b6:=b8.kp lf
 let h5:=b6.lwa ia
 let mo:=ll.keep b8 lf
 let⟨g9,gl,_⟩:=id mo
 let⟨g6,ez,_⟩:=h0.md.h
 let gg:Tb (Nz ns*Cz ns) F3:=⟨(i5.map _).nodup D.nd,λp hp=>D.lt p (i5.subset hp)⟩
 show bO (AY (Av (uj (dH (v:=.bl true) (ag ∅ (ag az aw)) λQ' q'=>⟨_,_,_,_,_,Z,.ref cPaper,.ins gl T.cl_BundlePaper T.qS T.qg T.qt T.oS,T.sp,q'⟩))) ?_)
 show⟨_,Z,eK (sp:=ph Oh cBundle) (ag ∅ (ag ∅ (ag ∅ (ag ∅ (ag ∅ aw))))) ⟨m,wr,h,fe,th,pl,tl,hI,hH,hK,W',hs2,gL ns p0 hB p3 p4 rs ts,F3,ob,[p0,hB,p0,p3,p4],Z,h5.md,O11.l3,(),O11.nd,(),hg,eb,b6 _ _ cF (λ_ z=>by cases z),gg,h5.tl,h5.pl,Z,h5.th,(cv ez).symm,jq,cv h0.tl,λH34 du2 ii ms=>⟨_,_,Z,Z,_,Z,?_⟩⟩⟩
 obtain rfl:nS=du2:=KJ.mpr (nG.trans ms.symm)
 rw[beq_self_eq_true]
 show cK ?_
 let j3:=(Kp.of ii).lwa h5
 let lg:=mo.same ii
 let⟨gd,gt,_⟩:=id lg
 let eS:=ii _ _ (b6 _ _ b4 (λ_ z=>by cases z))
 show dr ⟨_,Z,p,gd,_,Z,gt,DU,(ag ∅ (ag ∅ (ag ∅ aw))) _ (b5 j3 lg eS (j2.same ii) j3.dd (List.Sublist.refl _) fd.1 fd.2 (C hX.dd).2.symm λH35 b lb s9 hb=>?_)⟩
 obtain rfl:b=DS:=KJ.mpr (hb.trans k5.symm)
 show⟨_,Z,_,_,Z,Z,_,Z,?_⟩
 rw[beq_self_eq_true]
 show c9 ?_
 let e9:=(j2.same ii).kp lb
 let nC:=e9.lwa j3
 let q7:=lg.keep (j2.same ii) lb
 let⟨er,eo,_⟩:=id q7
 show qz (fX ⟨_,Z,p,cBundlePaper,er,_,_,Z,eo,T.cl_BundlePaper,T.na_BundlePaper_price,G6,_,Z,p,cBundlePaper,er,_,_,Z,eo,T.cl_BundlePaper,T.na_BundlePaper_depth,DF,by change 2<=N9;decide,λl1 qc=>?_⟩)
 let ar:au H35 (Oc H35 l1 (.lst [.int hI,.int hH])):=(au.refl H35).upd qc
 let ck:Oc H35 l1 (.lst [.int hI,.int hH]) l1>.lst [.int hI,.int hH]:=af
 revert ar ck
 generalize Oc H35 l1 (.lst [.int hI,.int hH])=w1
 intro ar ck
 show⟨_,Z,_,Z,_,Z,m,_,Z,aM.of (ar _ _ nC.md.m),λl2 kt=>?_⟩
 show⟨l1,l2,[.int hI,.int hH],Z,Z,aM.of (aj (aq ck kt)<|ck),aM.of af,λx hx=>?_,q _⟩
 simp only[Jk,JJ,or_false] at hx
 rcases hx with rfl|rfl<;>rfl
end
set_option maxHeartbeats 2000000 in
theorem all_mk {l:PySem.W.OpenLaw}(X:K.In h)(G:h.Ns Nj mg)(g8:mg "law" >.ref fa)
  {bx b0 bv co bm bn e9:N8} (T:Txt K mg bx b0 bv co bm bn e9)
  {f7:N8} {e0 em:Option N8} {eS:Array (Option N7)} {eq eo dc eb c4 ee:N7}
  {T7:N8} {g7:Option N8} {e5:Array (Option N7)} {ey c3 c2:N7} {ge:Nat}
  {cv:N8} {dx d1:Option N8} {dm:Array (Option N7)} {du d9 dl ea b3 ds:N7}
  {cr:N8} {di d4:Option N8} {en:Array (Option N7)} {ec eg ej db cF dV:N7}
  {cj:N8} {da cN:Option N8} {ek:Array (Option N7)} {dT cy cB c0 ci cU:N7}
  {c1:N8} {dd:Option N8} {d2:Array (Option N7)} {dL cw cx:N7} {el:Nat}
  {cd:N8} {de ce:Option N8} {dt:Array (Option N7)} {ef ch b8 cc b6 ck:N7}
  {ct:N8} {ed:Option N8} {dn:Array (Option N7)} {c5:N7} {dp:Nat} {b5:Tok}
  {dC dP:N8}
  (cm:ClG K b0 "Net")
  (bA:ClG K bv "Bundle")
  (bD:ClG K bm "BundlePaper")
  (b1:ClG K bn "Floor")
  (l0:gM K "inside" vL)
  (l1:gM K "check_sizes" vG)
  (l2:gM K "check_price" wq)
  (l3:gM K "check_prices" sX)
  (l4:gM K "check_inside" sQ)
  (l5:gM K "spots_round" vg)
  (l6:gM K "neighbours" yu)
  (a7:JS K (.ref bn) "__init__" >some (.ref f7))
  (i7:KL K (.ref f7)=true)
  (l7:K.lookup f7>⟨eq,e0,.func (JK "__init__" "Floor.__init__" (cn g_) (bP g_) (aK g_) (.ref T7) eo dc eb em c4 ee),eS⟩)
  (d7:K.lookup T7>⟨ey,g7,.seq #[c3,c2] ge,e5⟩)
  (c7:Kd K c4 "Floor.__init__" =true)
  (k7:J5 K (.ref f7)=true)
  (l8:mr K bn "is_rock" "Floor.is_rock" vh)
  (l9:mr K bn "is_open" "Floor.is_open" wA)
  (fj:mr K bn "is_step" "Floor.is_step" vO)
  (eW:mr K bn "priced" "Floor.priced" vM)
  (eH:mr K bn "steps" "Floor.steps" yt)
  (f8:mr K bn "step_price" "Floor.step_price" Aj)
  (hd:mr K bn "wiring_price" "Floor.wiring_price" C_)
  (fe:gM K "leads_in" rH)
  (fv:PySem.W.nsIn K Nj "arcs_in" >some (.ref cv))
  (f0:K.lookup cv>⟨du,dx,.func (JK "arcs_in" "arcs_in" (cn h7) (bP h7) (aK h7) .none d9 dl ea d1 b3 ds),dm⟩)
  (fr:Kd K b3 "arcs_in" =true)
  (dK:J5 K (.ref cv)=true)
  (g2:gM K "is_name" C6)
  (fp:gM K "check_unlike" vI)
  (e6:gM K "near_by" vJ)
  (f5:gM K "walked" wD)
  (g1:PySem.W.readsIn K bx (.type "type")=true)
  (fC:PySem.W.findCls K (.ref bx) (.type "type") "__init__" >.val (.ref cr))
  (ft:LS K (.ref bx) "__getattribute__" >some (.builtin "type.__getattribute__"))
  (er:K.lookup cr>⟨ec,di,.func (JK "__init__" "Thing.__init__" (cn kG) (bP kG) (aK kG) .none eg ej db d4 cF dV),en⟩)
  (g5:Kd K cF "Thing.__init__" =true)
  (dj:J5 K (.ref cr)=true)
  (g0:JS K (.ref b0) "__init__" >some (.ref cj))
  (ex:KL K (.ref cj)=true)
  (g4:K.lookup cj>⟨dT,da,.func (JK "__init__" "Net.__init__" (cn gP) (bP gP) (aK gP) (.ref c1) cy cB c0 cN ci cU),ek⟩)
  (eR:K.lookup c1>⟨dL,dd,.seq #[cw,cx] el,d2⟩)
  (ga:Kd K ci "Net.__init__" =true)
  (hE:J5 K (.ref cj)=true)
  (gi:JS K (.ref bv) "__init__" >some (.ref cd))
  (gd:KL K (.ref cd)=true)
  (g9:K.lookup cd>⟨ef,de,.func (JK "__init__" "Bundle.__init__" (cn fO) (bP fO) (aK fO) (.ref ct) ch b8 cc ce b6 ck),dt⟩)
  (d3:K.lookup ct>⟨c5,ed,.seq #[.int 0 b5] dp,dn⟩)
  (ez:Kd K b6 "Bundle.__init__" =true)
  (hX:J5 K (.ref cd)=true)
  (gt:mr K bv "shaped" "Bundle.shaped" uZ)
  (hc:mr K bv "sound" "Thing.sound" zD)
  (e2:gM K "all_clear" yC)
  (gk:gM K "wires_lie" Fu)
  (gD:mr K bm "is_laid" "BundlePaper.is_laid" zy)
  (fk:mr K bm "__init__" "BundlePaper.__init__" zV)
  (f1:mr K bm "lows_and_highs" "BundlePaper.lows_and_highs" Ia)
  (ha:mr K bm "ends_hold" "BundlePaper.ends_hold" yx)
  (g3:mr K bm "climbs_hold" "BundlePaper.climbs_hold" sx)
  (gc:mr K bm "holds" "BundlePaper.holds" zM)
  (fl:gM K "_law_cell_at" Di)
  (fh:gM K "_law_mix" Fk)
  (eu:gM K "_law_price" yT)
  (f2:gM K "_law_beside" vj)
  (gs:gM K "_law_lanes" Aw)
  (f3:gM K "_law_strewn" vC)
  (gg:gM K "_law_plan" C9)
  (gl:gM K "_law_goals" AA)
  (ew:gM K "_law_made" C8)
  (et:gM K "_law_step" zR)
  (g6:gM K "_law_spoilt" v8)
  (f4:gM K "_law_lowered" rX)
  (eA:gM K "_law_joined" vS)
  (hb:gM K "_law_fair" Dg)
  (fm:gM K "_law_thing" vY)
  (fn:gM K "_law_due" De)
  (e4:gM K "_law_fewer" Ao)
  (f6:gM K "law" Bl)
  (ub:Ly K "arcs_in" >(dC,dP))
  (uc:b3=.ref dC)
  (uh:LA K dC dP=true)
  :∃fd:NN,(∀(s:N_) (v:N7),BindsTo s fd ⟨[v],[]⟩ [("script",v)])/\∀Oa:Ng,K.In Oa->Oa.Ns Nj mg->Oa.BuiltinsAt mg (fY K "arcs_in").2->Nj≠(fY K "arcs_in").2->fq l.prog w K mg Oa kf 9 fa fd ["script"] (we K):=by
 let F7:=pH (st:=g_) l7 c7
 let b7:c6 K (JK "__init__" "Floor.__init__" (cn g_) (bP g_) (aK g_) (.ref T7) eo dc eb em c4 ee) ["self", "sizes", "prices", "vias", "rocks", "tolls"] []:=y7 Z d7 λus hl=>by let⟨_,_,_,_,_,_,rfl⟩:=Ie hl;show⟨_,Z,Z⟩
 let d6:=qx (st:=h7) f0 fr dK
 let bi:c6 K _ ["floor", "free"] []:=d6.binds λ_ _ _ _ _ _ us hl=>by let⟨_,_,rfl⟩:=Ip hl;rfl
 let d8:=qx (st:=kG) er g5 dj
 let bl:c6 K _ ["self", "name", "half", "room"] []:=d8.binds λ_ _ _ _ _ _ us hl=>by let⟨_,_,_,_,rfl⟩:=Hj hl;rfl
 let es:=pH (st:=gP) g4 ga
 let be:c6 K (JK "__init__" "Net.__init__" (cn gP) (bP gP) (aK gP) (.ref c1) cy cB c0 cN ci cU) ["self", "name", "pins", "half", "room"] []:=y7 Z eR λus hl=>by let⟨_,_,_,_,_,rfl⟩:=Hb hl;show⟨_,Z,Z⟩
 let e3:=pH (st:=fO) g9 ez
 let a0:c6 K (JK "__init__" "Bundle.__init__" (cn fO) (bP fO) (aK fO) (.ref ct) ch b8 cc ce b6 ck) ["self", "name", "starts", "goals", "room"] ([]:-N7):=zH Z d3 5 Z λus hl=>(by let⟨_,_,_,_,_,rfl⟩:=Hb (us:=us) hl;show⟨_,Z,Z⟩)
 let a2:c6 K (JK "__init__" "Bundle.__init__" (cn fO) (bP fO) (aK fO) (.ref ct) ch b8 cc ce b6 ck) ["self", "name", "starts", "goals", "room"] ([.int 0 b5]:-N7):=zH Z d3 4 Z λus hl=>(by let⟨_,_,_,_,rfl⟩:=Hj (us:=us) hl;show⟨_,Z,Z⟩)
 let⟨fd,F,_,_,_,_,_,_,e⟩:=gM.law X G f6 g8
 show⟨fd,λs v=>by subst e;show .of_eq Z,λOa hB _ dv d5=>?_⟩
 let e1:fY K "arcs_in" =(dC,dP):=by unfold fY;rw[ub];rfl
 let bd:b3=.ref (fY K "arcs_in").1:=e1<|uc
 let bb:LA K (fY K "arcs_in").1 (fY K "arcs_in").2=true:=e1<|uh
 let go:∀{x st k ps sp},gM K x st->mK l.prog w K mg Oa k x x st ps sp->aT l.prog w K mg Oa x k ps sp:=gM.go X G
 let me:∀{C x q st k ps sp},mr K C x q st->mK l.prog w K mg Oa k x q st ps sp->bU l.prog w K mg Oa C x k ps sp:=mr.go
 let g:=go l0 (xI T)
 let H:=go l1 (xX T hB)
 let A:=go l2 (ya T hB)
 let o:=go l3 (uw T A)
 let c:=go l4 (tW T hB g)
 let E:=go l5 (xM T)
 let an:=go l6 (yI T)
 let ap:h8 l.prog w K mg Oa bn "Floor" 3 ["self", "sizes", "prices", "vias", "rocks", "tolls"] (pU bn):=⟨f7,_,yw T F7 H o c,⟨b1.mi,a7,i7,b1.kc⟩,K_ X G b1.n,b7⟩
 let z:=me l8 (xo T c)
 let d:=me l9 (xt T g)
 let f:=me fj (xk T an d)
 let j:=me eW (ye T)
 let U:=me eH (zj T E z d j)
 let R:=me f8 (yJ T hB c f j)
 let a4:=me hd (Bn T R)
 let p:=go fe (uC T U)
 let L:aT l.prog w K mg Oa "arcs_in" 6 ["floor", "free"] (pI K mg bn):=⟨cv,_,xD T d6 bd bb dv d5 p,K_ X G fv,dK,bi⟩
 let eM:=go g2 (Cn T)
 let i:=go fp (wL T hB)
 let B:=go e6 (x_ T f)
 let I:=go f5 (xU T)
 let m:iR l.prog w K mg Oa bx "__init__" 2 ["self", "name", "half", "room"] (wI b0 bv):=⟨cr,_,y_ T d8 hB eM,⟨⟨_,g1,fC⟩,Z,ft,dj⟩,bl⟩
 let ar:h8 l.prog w K mg Oa b0 "Net" 3 ["self", "name", "pins", "half", "room"] (pK b0):=⟨cj,_,AS T es hB i m,⟨cm.mi,g0,ex,cm.kc⟩,K_ X G cm.n,be⟩
 let Z0:jV l.prog w K mg Oa bv "Bundle" 3 ["self", "name", "starts", "goals", "room"] (lP bv) 1:=⟨cd,_,AV T e3 hB i m,⟨bA.mi,gi,gd,bA.kc⟩,K_ X G bA.n,B9 a0 a2⟩
 let J:=me gt (wU T I)
 let Q:=me hc (Ax T B J)
 let am:=go e2 (AI T d)
 let ba:=go gk (DH T a4 Q)
 let aa:=me gD (yB T)
 let S:=mr.init (P:=l.prog) (w:=w) (Oa:=Oa) X G bD fk (yL T)
 let a6:=me f1 (F4 T)
 let ad:=me ha (Ab T a6)
 let r:=me g3 (tY T L a6)
 let ac:=me gc (Ai T am ba ad r)
 let a:=go fl (BA T)
 let W:=go fh (EW T)
 let ah:=go eu (yK T)
 let b:=go f2 (xf T)
 let Y:=go gs (y9 T a W)
 let N:=go f3 (xV T W)
 let a5:=go gg (Ck T a Y N)
 let ab:=go gl (zz T a)
 let ax:=go ew (C0 T a)
 let n:=go et (yG T)
 let y:=go g6 (wW T a b)
 let u:=go f4 (uS T a b n)
 let D:=go eA (xQ T b)
 let a1:=go hb (Bq T b n)
 let M:=go fm (xT T ar Z0 a)
 let a3:=go fn (CT T D a1)
 let O:=go e4 (zk T a)
 show(Eb T ap aa S ac a ah a5 ab ax y u M a3 O).2 F
theorem walk {l:PySem.W.OpenLaw}{E:(Nh->Option N7)->Ng->Prop}{p:Nr->Ng->Prop}{d:DefRec}{K:Params->Je}(I:l.most>63)(i:d.params.defaults=[])
  (r:∀(w:Nr) (h:Ng),p w h->(K w.params).In h) (g:∃e,(PyProof.Rows.recsOf q).find? (λe=>e.name==("arcs_in" :Nh))>e) (m:∀w:Nr,∃c P,Ly (K w.params) "arcs_in" >(c,P)/\(K w.params).lookup P=none)
  (F:∀(w:Nr) (mg:Nh->Option N7) (fa:N8) (h:Ng),(K w.params).In h->h.Ns Nj mg->mg d.name>.ref fa->
   ∃fd:NN,(∀(s:N_) (u:N7),BindsTo s fd ⟨[u],[]⟩ [("script",u)])/\∀Oa:Ng,(K w.params).In Oa->Oa.Ns Nj mg->Oa.BuiltinsAt mg (fY (K w.params) "arcs_in").2->Nj≠(fY (K w.params) "arcs_in").2->fq l.prog w (K w.params) mg Oa kf 9 fa fd ["script"] (we (K w.params))):
  PySem.W.WalkO q loose E p l.row.toRowW d [] (λf vs=>PySem.call f vs):=by
 let o:∀w:Nr,Ly (K w.params) "arcs_in" >fY (K w.params) "arcs_in"/\(K w.params).lookup (fY (K w.params) "arcs_in").2=none:=λw=>by
  let⟨c,P,h1,h2⟩:=m w
  unfold fY
  rw[h1]
  show⟨Z,h2⟩
 show L2.walk_ofT (n:=63) (k:=9) (x:= "script") (xs:=["arcs_in"]) (CX:=λ_=>kf) (sp:=λw=>we (K w.params)) I (by decide) i ⟨Z,by decide,by decide,Z⟩ r (λw=>[fY (K w.params) "arcs_in"]) (λy D=>?_) (λw t ht=>?_) (λw mg fa h KX G j=>?_) (λw H a ns B _ m C=>⟨a,ns,Z,C,B,m _ (Jg.mpr Z),λ_=>rfl⟩) λ_ _ _ _ _ z=>z
 ·rw[Jg.mp D];show g
 ·rw[Jg.mp ht];show⟨⟨_,Jg.mpr Z,(o w).1⟩,(o w).2⟩
 ·let⟨fd,h1,h2⟩:=F w mg fa h KX G j
  show⟨fd,h1,λOa v A b=>h2 Oa v A (b _ (Jg.mpr Z)).1 (b _ (Jg.mpr Z)).2⟩
end K35

end
end
/-! these names are taken, so that the head lays no second forms of the greatest of its objects -/
structure PySem.W.Fast:Prop where
 (tw7055575970105348084 tw9815838933746650192 tw7713798641318473540 tw7863652038148003030 tw1365121646041465027 tw5256762080178285252 tw15944369644041449723 tw7675358900307998034 tw10030731711010582990 tw2980638228875768057 tw3169940654937430037 tw18095855507991469791 tw15888475583368546576 tw2997909453249624314 tw3108178616747325832 tw4564831523390875295 tw2499744450339415852 tw8030331773812679575 tw8655597344120416068 tw17113845451552516196 tw10600947759271006050 tw14054013376773394088 tw4811441127852517301 tw5468957153010643683 tw14081760356359109522 tw3748135190494982129 tw10330551598127331849 tw7437297983484342399 tw13856452845844228265 tw2786684500462953229 tw1758688281782003456 tw11796311335700454677 tw2355392409394704814 tw3313385569922808413 tw5168584730320668370 tw5855552752771202427 tw3989807191278019839 tw548240623838673631 tw8065293842660712940 tw3498416493757926600 tw6712951417807716235 tw14207226222720987320 tw15268271735035505810 tw10549312635389512022 tw3677621960306395138 tw552119060889191411 tw897654971446308702 tw16232704321060618295 tw5656093520333857648 tw12266872999197846788 tw803931146513900243 tw11405972567129070378 tw7191227723146441918 tw10290399414941964908 tw4282689226290430817 tw11998531349888300407 tw10529196677511949276 tw1244374484791096756 tw12783418389760665327 tw8589207352109238655 tw14884578136929406780 tw7276451808115071142 tw12976912749258843226 tw12188108371290182384 tw1821486612667010248 tw14051200331714003979 tw1035721952102532359 tw11204033283578202200 tw9474927190620339623 tw9587717477434243795 tw12989048193212422565 tw17581050727526810568 tw13150180140497833267 tw10880593380555848884 tw11351111676794118810 tw12122417803836743689 tw5839756972731774529 tw8640102828259891722 tw14465788370257721450 tw1112953696156702152 tw12742980423493611132 tw10942465700668227938 tw2624738177352176317 tw11851134831520299764 tw5797576837323408444 tw4090066576955353771 tw15391202185902310797 tw17655056086979417114 tw12698520536854902899 tw4078422387388837185 tw12637208347570112053 tw16522481464432658574 tw14481264004372941305 tw17538748572017790433 tw693230196549622449 tw17078960079510902109 tw16459358308311994757 tw6386060840144467193 tw585523888148758484 tw16410698751609957945 tw11721885300372710032 tw8835062623675607606 tw807477179134797653 tw13596829077337693141 tw9987463312997989843 tw14699788455163969941 tw18204161024443494596 tw618571639630144216 tw4047495629911706368 tw2061527448784301203 tw4282937398205746451 tw6550592690159261725 tw7953874005456142124 tw2889529228460861421 tw15717646171753989280 tw12738834341550022480 tw10793373941341165290 tw15267132518471730331 tw18251233507823649562 tw9423120016727762297 tw1511233124861596769 tw6931369469545956949 tw12684923253594540037 tw9945201993450476637 tw4227018023406781273 tw8010142298024962649 tw5403542346281928636 tw6865508244806383568 tw12229428964851250638 tw18424736195432266266 tw650529649727525483 tw1327418283481577863 tw104756151284606232 tw12171252698682044865 tw11091112490462755321 tw2538735743156415523 tw14198041635333833906 tw12047836685785093496 tw18099280652204556255 tw15343547588989233655 tw14001466302849394928 tw13478798152229729776 tw2314456445988381609 tw13099342590804014366 tw6238325561065005213 tw15755058013444405640 tw13726254919910768965 tw17552184738587782194 tw13672030192143769177 tw16231586019597809124 tw12352311026690876305 tw3951270875382006351 tw6382991105792489985 tw3039951537271150456 tw4120691777117975195 tw18204625104796805992 tw18040537355860001904 tw13527777308783315765 tw11693560128003346738 tw3023297165262862960 tw4391078541129701190 tw14984392738307215999 tw5701909755370037392 tw10127433625353815634 tw1699851212110319571 tw9882807860941252493 tw3088957509309259609 tw5787716740047173539 tw11199651751166339212 tw6377961328816866551 tw12155005276898898821 tw101422059407836804 tw14020758735775889391 tw18254828175629952080 tw15342491036675827154 tw11313760758687354088 tw281373729448477916 tw13712070802407349261 tw11196042510853543934 tw2933337007363506232 tw14656620123926493087 tw206537417952025952 tw9244224481668784415 tw11116348121193411203 tw15078203258493665525 tw1500182930548926955 tw11170042714399480990 tw4744259506714255497 tw11011524436357578315 tw5695783853317053584 tw11898800429003846652 tw6801267501483564388 tw13022030600261097496 tw7941960240046407823 tw5485935987322884205 tw218048886837372377 tw17452815979152623683 tw536682052185571728 tw14083885830277127396 tw8432231091982264692 tw7106355986092987422 tw13862405811489980347 tw13547263707667542056 tw10433654863195709303 tw2182176825905892716 tw2140548005123415982 tw16644029018827007846 tw8695512982627800473 tw3523528060096718236 tw11527487271690428337 tw1737669616191355250 tw13123780604759564586 tw4194263927208763081 tw1705706103561138899 tw13350056601956147359 tw426764603947355094 tw8628590289865374759 tw10521263387552045325 tw4982573226987402545 tw10860855522018685704 tw7038339138921888067 tw1590734532533849483 tw12345701811488729533 tw11135774421065028786 tw16513245529902229249 tw5720698241299379449 tw4034005356964496848 tw8501083128000157834 tw14983214376065149103 tw6878047369738968802 tw16867267767575894673 tw6304673961020715184 tw13287167483271767558 tw15403431464635660814 tw15261178837202206661 tw4778968582411742792 tw14443435644743195824 tw659483624615042096 tw1237909498650318016 tw11189925651508086788 tw8072329088129748421 tw4851988503856916122 tw5185969495070515039 tw11738684468524772937 tw7810798397347990955 tw11593027403808601969 tw16663097447606557110 tw13877232509817810419 tw2002961302975053263 tw15331706881354600981 tw1777291820347354644 tw4110353954971660871 tw7186732888721174556 tw5578384430665948697 tw10151876575236210021 tw10759647378466646050 tw14186883062634451851 tw9319079579392151238 tw10790411890009623880 tw7658579357199567442 tw11271526355187298094 tw10889179482634505791 tw14317665831550609303 tw1811919376450887370 tw4915134169660521203 tw12964224459212345585 tw4358118911937746959 tw2075086961003982074 tw18263640574033181841 tw10297239279852303794 tw18092365889522100592 tw1825310545538013251 tw1934939522409470089 tw10023475606484445431 tw1167182692679543644 tw3497062755613032652 tw6296434964372717673 tw1014941620633287334 tw16380788122513829508 tw11794281960692896052 tw10392141730613701258 tw6866498046722245491 tw4283333209588474007 tw762311413033236971 tw4722548583039098528 tw11161771644283326174 tw1115627589956658101 tw15344272671359048847 tw3357215821971522054 tw18288304216232690746 tw3675415513321773036 tw10043067459960293955 tw1676260429791029632 tw14828818740446495710 tw9100029675232086160 tw7310027742869594081 tw8037560605013701593 tw16056078807859673738 tw13009437549369557400 tw2207258944301364071 tw15991816563320719178 tw11246504367750027872 tw654569164948529829 tw15092562970113275464 tw1088350992405421367 tw9553486954279294243 tw8081315308942000521 tw9131994601553579071 tw1476996422186165239 tw4824981090505178687 tw2120830110293874249 tw14985627991134941461 tw380457087877649337 tw10384780476892602790 tw9731515861901523456 tw13063519291889771972 tw18258164309477355445 tw12247990675914854338 tw10600259447318919065 tw13415361978536766325 tw3002331184532421892 tw16955835257444683575 tw6769810522892365554 tw11511391227358608501 tw16842741513073395153 tw8173349486050277543 tw4664145955001201858 tw6238699049704609979 tw603166022192967662 tw4622841668383831787 tw16024992670959094639 tw8602885508840792232 tw7781178020204832390 tw15404705964644015344 tw15038514376550167149 tw11791710056536460946 tw6865965039782206046 tw4208204538889084205 tw13151542468822380558 tw11483253449221012619 tw135313205183469549 tw14115046850987766435 tw6494694747762888622 tw15213320460435993245 tw5703333831121122555 tw11920076737850545559 tw12127632222119569055 tw12202229900804159320 tw382721049852244852 tw5965324954653530525 tw859619617205515299 tw10612936671435356355 tw760719320617764359 tw2950013297994596110 tw17841711427634038908 tw9285272948449995695 tw4429000688351227573 tw17589009366450508676 tw906370064193473888 tw11835846921958707284 tw8037004052726183907 tw2795477116518292104 tw11631086843944931957 tw4896592027834205787 tw11170378161037892146:True)
open PySem PySem.W PyProof.Rows
set_option maxRecDepth 100000 in
set_option tactic.hygienic true in
set_option maxHeartbeats 0 in
theorem PySem.Challenge.cw_wirefloor_k35_bundle_papers_holds : PySem.Challenge.rw_wirefloor_k35_bundle_papers.Holds := by
  w_on; o_law; k_head; (case hw => w_witness2)
  k_fill
  refine K35.walk (l := PySem.Challenge.rw_wirefloor_k35_bundle_papers) rfl rfl (fun w h Y => PySem.W.km_in_of Y) ⟨_, by first | rfl | decide +kernel⟩ ?T ?F
  case T =>
    intro w
    refine' ⟨105, 101, ?tbx, ?tnx⟩
    (case tbx => kernel_rfl)
    (case tnx => kernel_rfl)
  case F =>
    intro w mg fa h KX G hmg
    have N := fun {n} e => @PySem.W.mg_none_of _ _ _ n KX G e
    have M := fun {n v} e => @PySem.W.mg_of _ _ _ n v KX G e
    refine' K35.all_mk KX G hmg ⟨N ?u0, N ?u1, N ?u2, N ?u3, N ?u4, N ?u5, N ?u6, N ?u7, N ?u8, N ?u9, N ?u10, N ?u11, N ?u12, N ?u13, N ?u14, N ?u15, N ?u16, N ?u17, N ?u18, ⟨?u20, ?u21, ?u22, ?u23⟩, M ?u19, L2.ClG.cl ?h0, M (L2.ClG.n ?h0), ?u24, ?u25, ?u26, ?u27, L2.ClG.cl ?h1, M (L2.ClG.n ?h1), ?u28, ?u29, ?u30, ?u31, ?u32, ⟨?u34, ?u35, ?u36, ?u37⟩, M ?u33, L2.ClG.cl ?h2, M (L2.ClG.n ?h2), ?u38, ?u39, ?u40, ?u41, L2.ClG.cl ?h3, M (L2.ClG.n ?h3), ?u42, ?u43, ?u44, ?u45, ?u46, ⟨_, M (by k_is), ⟨_, rfl⟩⟩, ⟨_, M (by k_is), ⟨_, rfl⟩⟩, ⟨_, M (by k_is), ⟨_, rfl⟩⟩, ⟨_, M (by k_is), ⟨_, rfl⟩⟩, ⟨_, M (by k_is), ⟨_, rfl⟩⟩, ⟨_, M (by k_is), ⟨_, rfl⟩⟩, ⟨_, M (by k_is), ⟨_, rfl⟩⟩, ⟨_, M (by k_is), ⟨_, rfl⟩⟩, ⟨_, M (by k_is), ⟨_, rfl⟩⟩, ⟨_, M (by k_is), rfl⟩, fun _ => .inr ⟨⟨.type "tuple", _, .seq #[.int 4 _, .int 16 _, .int 16 _] _, _⟩, _, _, (by k_is), rfl, rfl, (by show 3 <= sizeLine; decide), (.cons ⟨_, rfl⟩ (.cons ⟨_, rfl⟩ (.cons ⟨_, rfl⟩ .nil)))⟩, ?u47, ?u48, ?u49, ?u50, ?u51, ?u52, ?u53, ?u54, ?u55, ?u56, ?u57, ?u58⟩ ?h0 ?h1 ?h2 ?h3 ?h4 ?h5 ?h6 ?h7 ?h8 ?h9 ?h10 ?h11 ?h12 ?h13 ?h14 ?h15 ?h16 ?h17 ?h18 ?h19 ?h20 ?h21 ?h22 ?h23 ?h24 ?h25 ?h26 ?h27 ?h28 ?h29 ?h30 ?h31 ?h32 ?h33 ?h34 ?h35 ?h36 ?h37 ?h38 ?h39 ?h40 ?h41 ?h42 ?h43 ?h44 ?h45 ?h46 ?h47 ?h48 ?h49 ?h50 ?h51 ?h52 ?h53 ?h54 ?h55 ?h56 ?h57 ?h58 ?h59 ?h60 ?h61 ?h62 ?h63 ?h64 ?h65 ?h66 ?h67 ?h68 ?h69 ?h70 ?h71 ?h72 ?h73 ?h74 ?h75 ?h76 ?h77 ?h78 ?h79 ?h80 ?h81
    (case h0|h1|h2|h3 => (refine' ⟨?a, ?b, ?c, ?d, ?e, ?f, ?g⟩; (case a => k_is); (case b => k_is); (case c => k_is); (case d => k_is); (case e => k_is); (case f => k_is); (case g => k_is)))
    (case u0|u1|u2|u3|u4|u5|u6|u7|u8|u9|u10|u11|u12|u13|u14|u15|u16|u17|u18|u19|u20|u21|u22|u23|u33|u34|u35|u36|u37|u51|u52|u53|u54|u55|u56|u57|u58|h11|h12|h13|h14|h15|h16|h25|h26|h27|h28|h33|h34|h35|h36|h37|h38|h39|h40|h41|h42|h43|h44|h45|h46|h47|h48|h49|h50 => k_is)
    (case h4|h5|h6|h7|h8|h9|h10|h24|h29|h30|h31|h32|h53|h54|h61|h62|h63|h64|h65|h66|h67|h68|h69|h70|h71|h72|h73|h74|h75|h76|h77|h78 => (refine' L2.fng ?a (L2.fnat ?b ?c ?d); (case a => k_is); (case b => k_is); (case c => k_is); (case d => k_is)))
    (case h17|h18|h19|h20|h21|h22|h23|h51|h52|h55|h56|h57|h58|h59|h60 => (refine' L2.meg ?a ?i (L2.fnat ?b ?c ?d); (case a => k_is); (case i => k_is); (case b => k_is); (case c => k_is); (case d => k_is)))
    (case h79 => (show PySem.W.tabIn _ _ = some (105, 101); kernel_rfl))
    (case h81 => kernel_rfl)
    (case u47|u48|u49|u50 => kit_is)
    (case h80 => rfl)
    (case u24|u25|u26|u27|u28|u29|u30|u31|u32|u38|u39|u40|u41|u42|u43|u44|u45|u46 => show _ = _; k_is)
