import PyProof.Rows.All
import Wide.All
import OpenK.AllK
import Wide.FinOn
import Lean
import PyProof.EqAt
import PyProof.EqKinds
import PyProof.TupleCall
import OpenK.KRaise
import OpenK.KOwn
import KE.KTryMore
import KE.RegKTryMore
import PyProof.ExcArgsOwn
import KE.KIntText
import KE.KSortTup
import KE.KDictOf
import KE.KRevIter
import KE.KEqDict
import PyProof.Rows.SetFrom
import PyProof.TupleKey
import PyProof.Rows.SetObj
import PyProof.SetRoads
import PyProof.IsiH_list
import PyProof.ZipIter
import PyProof.Rows.TupIter
import PyProof.DictValues
import PyProof.DictWalks
import KE.KDictSum
import KE.KNest
import KE.KLam
import KE.KNestM
import KE.KDictList
import KE.KDictLaws
import PyProof.EnumMake
import PySem.Challenge.RW_wirefloor_k57_hills_of_all_parts
set_option Elab.async false
set_option linter.all false
set_option maxRecDepth 100000
set_option tactic.hygienic false
open PySem renaming wpAny_bind -> JD, wpAny_pure -> JE, wpAny_holding -> J_, wpAny_call_entry -> Ka, wpAny_field -> Ke, wpAny_mono -> Km, wpAny_dictEntries -> Kn, wpAny_attempt -> KA, wpAny_callSpecial?_slot -> KB, wpAny_seqItems -> KC, wpAny_newObj_type -> KL, wpAny_Call_Name_kw -> KQ
open PySem renaming wpAny_isInstance -> KW, wpAny_setField_rec -> KY, wpAny_dictEpoch -> K5, wpAny_truthy_bool -> K8, wpAny_letGo -> Lb, wpAny_rule -> Lp, wpAny_updateSeq -> Lq, wpAny_specialOf -> LB, wpAny_notOrdered_dict -> LI, wpAny_passesOwn -> LR, wpAny_typeOf -> LX, wpAny_pyIter_list -> L4
open PySem renaming wpAny_pyIter_slot -> L5, wpAny_setField -> L6, wpAny_typeNameOfWhole_keyiter -> MC, wpAny_typeNameOfWhole_valiter -> MD, wpAny_typeNameOfWhole_itemiter -> ME, wpAny_typeNameOf_itemiter -> MF
open List renaming length_map -> JF, mem_singleton -> JJ, mem_map -> JL, map_append -> JM, mem_cons -> JO, length_append -> JQ, getD_eq_getElem?_getD -> JS, getElem?_eq_getElem -> JU, getElem?_map -> JV, map_cons -> JW, getElem?_eq_some_iff -> JX, mem_of_getElem? -> JY
open List renaming mem_cons_self -> JZ, mem_cons_of_mem -> J0, mem_append -> J3, append_nil -> J6, size_toArray -> J8, length_cons -> J9, take_length -> Kb, map_map -> Ki, nodup_cons -> Kj, mem_range -> Kk, append_assoc -> Kl, lookup_cons -> Ks
open List renaming length_range -> Kz, not_mem_nil -> KD, mem_append_right -> KF, length_take -> KH, sum_cons -> KI, length_set -> KU, mem_filter -> KZ, getElem?_append_left -> K3, take_succ -> K6, lookup -> K9, map_congr_left -> La, nodup_append -> Lc
open List renaming filter_append -> Le, length_filter_le -> Lf, mem_filterMap -> Lg, filterMap_cons -> Lh, getElem?_append_right -> Ll, length_nil -> Ln, mem_map_of_mem -> Lu, getElem?_set_self -> Lx, length_dropLast -> LA, nodup_nil -> LC, all_eq_true -> LD, filter_cons_of_pos -> LG
open List renaming filter_cons_of_neg -> LH, getElem_mem -> LK, mem_append_left -> LP, getElem?_set_ne -> LQ, mem_erase_of_ne -> L8, range_succ -> L_, of_mem_zip -> Me, length_replicate -> Mf, replicate_succ -> Mg, forIn_cons -> Mh, ext_getElem? -> Mi, getElem?_eq_none -> Mj
open List renaming take_of_length_le -> Mn, eq_nil_of_length_eq_zero -> Mo, filter_nil -> Mr, reverse_cons -> Mw, flatten_cons -> Mx, length_singleton -> My, drop_eq_getElem_cons -> MA, length_erase_of_mem -> MG, length_pos_of_mem -> MH, dropLast_concat_getLast -> MI, filterMap_append -> MJ, filterMap_nil -> MK
open Nat renaming le_refl -> JG, ne_of_lt -> JP, le_trans -> J1, zero_le -> J4, lt_of_lt_of_le -> Kg, le_of_lt -> Kh, lt_irrefl -> Ku, ne_of_gt -> Kx, not_lt_zero -> KJ, lt_succ_of_lt -> K4, le_add_right -> Lr, lt_succ_self -> Lz
open Nat renaming succ_le_succ -> LL, lt_of_le_of_lt -> LV, le_of_ble_eq_true -> Ma, mul_le_mul -> Mb
open Ne renaming symm -> JH
open PySem.W renaming Frag -> JI, fnOf -> Kf, keepIn -> Ky, findIn -> KG, codeIn -> KR, emptyDict -> Lj, instObj -> Lw, isFn -> LS, KatTups -> LW, kla_obj -> LZ, mg_of -> L9, plainGet -> Mc
open PySem.W renaming Looks -> Md, tabIn -> Ml, codeHdIn -> Mm, hasDictIn -> Mt, callWith_K -> Mu
open PySem.Heap renaming get?_push_of_some -> JK, lt_size -> JN, get?_push_size -> JT, size_push -> Kq, get?_update_self -> Kr, get?_update_other -> KS, get?_none_of_le -> K2, ExtBut -> L7
open Bool renaming false_ne_true -> JR, and_eq_true -> Kd, eq_iff_iff -> Ly, false_eq_true -> LF, not_eq_true' -> L1
open Option renaming map_eq_some_iff -> Kc, map_some -> LO, isSome_iff_exists -> LU
open Array renaming length_toList -> Ko, getElem?_eq_getElem -> KM, mem_toList_iff -> Li, getD_eq_getD_getElem? -> Lo, getElem?_eq_none -> LY, forIn_toList -> Mz, getElem?_eq_some_iff -> MM
open Int renaming le_refl -> Kt, toNat_natCast -> Kv, emod_nonneg -> Ld, emod_lt_of_pos -> Ls, add_comm -> LM, zero_add -> LN, mul_ediv_add_emod -> Mp, eq_ofNat_of_zero_le -> Mq, emod_eq_of_lt -> Ms
open PySem.F renaming plainAttrs_list -> Kw, slot_list_append -> KN, type_list_append -> KP, plainAttrs_dict -> K7, slot_dict_get -> K_, type_dict_get -> Lv, slot_dict_setdefault -> ML, plain_extend_loop -> MN
noncomputable section
open PySem renaming Value -> N7, Addr -> N8, sizeLine -> N9, Shared -> N_, wpAny -> Na, Paired -> Nb, Builtin -> Nc, model -> Nd, starEach -> Nf, Heap -> Ng, Str -> Nh, Program -> Ni, mainGlobals -> Nj, compareOp -> Nk
open PySem renaming PyData -> Nl, tupleKind -> Nm, Stmt -> Nn, NameKind -> No, tupleKeyHash -> Np, SetTable -> Nq, World -> Nr, codeAny_builtin -> Nt, Around -> Nu, Obj -> Nv, Expr -> Nw, plainId_quiet -> Ny, wpAny_loadPart' -> Nz, tupleKind_room_in1 -> NA
open PySem renaming bootBuiltins -> NB, builtinLookup_eq_fast -> NC, DictEntry -> ND, cLine -> NE, backTo -> NF, pyNext -> NG, IsPair -> NH, rawInt -> NI, foldedSetIterable -> NJ, codeAny -> NK, typeLookup_type -> NL, FuncData -> NM, PassesOwn -> NN, sizeLine_eq -> NO
open PySem renaming richCompare -> NP, sysModules -> NQ, codeAny_mono -> NR, Scope -> NS, GenState -> NT, attributeBase -> NU, intKind -> NV, typeLookup -> NW, IsItemIter -> NX, assignEach -> NY, sliceBounds -> NZ, Env -> O0, Pos -> O1
open PySem.W renaming kas_asc -> O2, KasT -> O4
open PyProof.Rows renaming KeyOrd -> O5, IntsAre -> O6, seqObj -> O7
theorem N0{c:Prop}{h:Decidable c}(x:¬c){α:Sort u}{t e:α}:ite c t e=e:=if_neg x
theorem N1{c:Prop}{h:Decidable c}(x:c){α:Sort u}{t e:α}:ite c t e=t:=if_pos x
theorem N3{p:Prop}[d:Decidable p](h:p):decide p=true:=decide_eq_true h
theorem N4{p:Prop}[d:Decidable p](h:decide p=true):p:=of_decide_eq_true h
theorem N5{p:Prop}[d:Decidable p](h:¬p):decide p=false:=decide_eq_false h
theorem N6{p:Prop}[d:Decidable p](h:decide p=false):¬p:=of_decide_eq_false h
theorem Z{α:Sort u}{a:α}:a=a:=rfl
section
set_option hygiene false
local macro_rules|`(tactic|let $d:letDecl)=>`(tactic|have $d:letDecl)
open Lean in
def Oh:Nat->Syntax->Syntax
 |n+1,s=>mkNode `Lean.Parser.Tactic.rcasesPatLo #[mkNode `Lean.Parser.Tactic.rcasesPatMed #[mkNullNode #[if s.isIdent then mkNode `Lean.Parser.Tactic.rcasesPat.one #[s] else if s.getKind==`Lean.Parser.Term.anonymousCtor then mkNode `Lean.Parser.Tactic.rcasesPat.tuple #[mkAtom "⟨",mkNullNode (mkSepArray (s[1].getSepArgs.map (Oh n)) (mkAtom ",")),mkAtom "⟩"] else mkNode `Lean.Parser.Tactic.rcasesPat.ignore #[mkAtom "_"]]],mkNullNode]
 |_,s=>s
open Lean in
local macro_rules|`(tactic|let ⟨$p,*⟩:=$e)=>do
 let q:TSyntax `Lean.Parser.Tactic.rcasesPatMed:=⟨(Oh 9 (<-`(⟨$p,*⟩)))[0]⟩
 `(tactic|obtain $q:rcasesPatMed:=$e)
local macro_rules|`(tactic|show $e)=>`(tactic|refine $e)
local macro_rules|`($a<|$b)=>`((by rw[$a:term];exact $b))
local macro_rules|`($a>$b)=>`($a=some $b)
local macro_rules|`(-$x:ident)=>`(List $x)|`(-($x))=>`(List ($x))
local macro_rules|`(~~~$x)=>`(($x).heap.objs.size)
local macro_rules|`(())=>`((by lia))|`(∅)=>`((ae rfl))
local macro_rules|`(↑$x)=>`(($x).length)
namespace L2
open PySem PySem.Spec PyProof.Rows
abbrev cP:=Sum Int Nh
noncomputable def oH:cP->N7->Bool
 | .inl k,v=>N7.isInt k v
 | .inr x,v=>N7.isStrOf x v
noncomputable def mO (w:Nr):cP->Int
 | .inl k=>hashInt k
 | .inr x=>hashStr w x
theorem cQ:∀{k:cP} {v:N7},oH k v=true->(∃i t,k=Sum.inl i/\v=N7.int i t)\/(∃x t,k=Sum.inr x/\v=N7.str x t)
 | .inl i,v,h=>by
  let⟨t,e⟩:=N7.isInt_shape (k:=i) (v:=v) h
  show .inl ⟨i,t,Z,e⟩
 | .inr x,v,h=>by
  let⟨t,e⟩:=N7.isStrOf_shape (x:=x) (v:=v) h
  show .inr ⟨x,t,Z,e⟩
theorem wV (i:Int)(t:Tok):oH (.inl i) (.int i t)=true:=by simp[oH,N7.isInt]
theorem wH (x:Nh)(t:Tok):oH (.inr x) (.str x t)=true:=by simp[oH,N7.isStrOf]
theorem EL (a b:Int):decide ((Sum.inl a:cP)=Sum.inl b)=(a==b):=by
 by_cases e:a=b
 ·subst e;simp
 ·let h:¬(Sum.inl a:cP)=Sum.inl b:=λq=>e (Sum.inl.inj q)
  rw[N5 h]
  show(beq_eq_false_iff_ne.mpr e).symm
theorem F_ (a b:Nh):decide ((Sum.inr a:cP)=Sum.inr b)=decide (a=b):=by
 by_cases e:a=b
 ·subst e;simp
 ·let h:¬(Sum.inr a:cP)=Sum.inr b:=λq=>e (Sum.inr.inj q)
  rw[N5 h,N5 e]
theorem FM (a:Int)(b:Nh):decide ((Sum.inl a:cP)=Sum.inr b)=false:=N5 (λq=>by cases q)
theorem Fq (a:Nh)(b:Int):decide ((Sum.inr a:cP)=Sum.inl b)=false:=N5 (λq=>by cases q)
noncomputable def aX (prog:Ni) (w:Nr):PySem.KeyKind prog w cP where
 is:=oH
 hash:=mO w
 inj:=λv a b ha hb=>by
  rcases cQ ha with ⟨i,t,rfl,rfl⟩|⟨x,t,rfl,rfl⟩
  ·rcases cQ hb with ⟨j,u,rfl,e⟩|⟨y,u,rfl,e⟩
   ·injection e with e1 _;rw[e1]
   ·show nomatch e
  ·rcases cQ hb with ⟨j,u,rfl,e⟩|⟨y,u,rfl,e⟩
   ·show nomatch e
   ·injection e with e1 _;rw[e1]
 byValue:=λk v h=>by
  rcases cQ h with ⟨i,t,rfl,rfl⟩|⟨x,t,rfl,rfl⟩<;>rfl
 pyHash:=λc h=>by
  rcases cQ c with ⟨i,t,rfl,rfl⟩|⟨x,t,rfl,rfl⟩
  ·show wpAny_pyHash_int h
  ·show wpAny_pyHash_str h
 eqBool:=λd c h=>by
  rcases cQ d with ⟨i,t,rfl,rfl⟩|⟨x,t,rfl,rfl⟩
  ·rcases cQ c with ⟨j,u,rfl,rfl⟩|⟨y,u,rfl,rfl⟩
   ·rw[EL] at h;show wpAny_eqBool_int h
   ·rw[FM] at h;show SeqAt.EqAt.int_str i t y u _ _ _ _ h
  ·rcases cQ c with ⟨j,u,rfl,rfl⟩|⟨y,u,rfl,rfl⟩
   ·rw[Fq] at h;show SeqAt.EqAt.str_int x t j u _ _ _ _ h
   ·rw[F_] at h;show wpAny_eqBool_str h
 «strs»:=λk x t v h=>by
  rcases cQ h with ⟨i,u,rfl,e⟩|⟨y,u,rfl,e⟩
  ·show nomatch e
  ·injection e with e1 _
   subst e1
   cases v<;>rfl
theorem rH (prog:Ni)(w:Nr)(i:Int)(t:Tok):(aX prog w).is (.inl i) (.int i t)=true:=wV i t
theorem qM (prog:Ni)(w:Nr)(x:Nh)(t:Tok):(aX prog w).is (.inr x) (.str x t)=true:=wH x t
inductive V where
 |non|bl (b:Bool)|int (i:Int)|str (x:Nh)|byt (b:Array UInt8)|flt (b:UInt64)|ref (a:N8)|ty (n:String)
 deriving DecidableEq
noncomputable def a8:V->N7->Prop
 | .non,u=>u=N7.none
 | .bl b,u=>u=N7.bool b
 | .int i,u=>∃t,u=N7.int i t
 | .str x,u=>∃t,u=N7.str x t
 | .byt b,u=>∃t,u=N7.bytes b t
 | .flt b,u=>∃t,u=N7.float b t
 | .ref a,u=>u=N7.ref a
 | .ty n,u=>u=N7.type n
abbrev aZ:-V->-N7->Prop:=Nb a8
theorem aZ.length(r:aZ xs us):↑xs=↑us:=Nb.length r
theorem uH {c d:Type}{R:c->d->Prop}{as:-c}{bs:-d}(h:Nb R as bs):∀{i:Nat} {a:c},as[i]?>a->∃b,bs[i]?>b/\R a b:=by
 induction h with
 |nil=>intro i a e;simp at e
 |cons r t ih=>
  intro i a e
  cases i with
  |zero=>simp at e;subst e;show⟨_,Z,r⟩
  |succ i=>
   let⟨u,h1,h2⟩:=ih (i:=i) (a:=a) (by simpa using e)
   show⟨u,by simpa using h1,h2⟩
theorem aZ.get {xs:-V}{us:-N7}{i:Nat}{x:V}(h:aZ xs us)(e:xs[i]?>x):∃u,us[i]?>u/\a8 x u:=uH h e
theorem aZ.set {x:V}{u:N7}(r:a8 x u){xs:-V}{us:-N7}(i:Nat)(h:aZ xs us):aZ (xs.set i x) (us.set i u):=by
 induction h generalizing i with
 |nil=>show .nil
 |cons q t ih=>
  cases i with
  |zero=>show .cons r t
  |succ i=>show .cons q (ih i)
theorem e_ {b d:Type}{F:b->d->Prop}{as bs:-b}{c a:-d}(h:Nb F as c)(t:Nb F bs a):Nb F (as++bs) (c++a):=by
 induction h with
 |nil=>show t
 |cons h s ih=>show .cons h ih
theorem aZ.append(h:aZ xs us)(t:aZ ys ws):aZ (xs++ys) (us++ws):=e_ h t
theorem qw {a b:Type}{R:a->b->Prop}(k:Nat){as:-a}{bs:-b}(h:Nb R as bs):Nb R (as.take k) (bs.take k):=by
 induction h generalizing k with
 |nil=>rw[List.take_nil,List.take_nil];show .nil
 |cons r t ih=>
  cases k with
  |zero=>show .nil
  |succ k=>show .cons r (ih k)
theorem aZ.take {xs:-V}{us:-N7}(n:Nat)(h:aZ xs us):aZ (xs.take n) (us.take n):=qw n h
theorem rn {a b:Type}{R:a->b->Prop}(k:Nat){as:-a}{bs:-b}(h:Nb R as bs):Nb R (as.drop k) (bs.drop k):=by
 induction h generalizing k with
 |nil=>rw[List.drop_nil,List.drop_nil];show .nil
 |cons r t ih=>
  cases k with
  |zero=>show .cons r t
  |succ k=>show ih k
theorem aZ.drop {xs:-V}{us:-N7}(n:Nat)(h:aZ xs us):aZ (xs.drop n) (us.drop n):=rn n h
noncomputable def iE:Option V->Option N7->Prop
 |some v,some u=>a8 v u
 |none,none=>True
 |_,_=>False
def kV:cP->V
 | .inl i=> .int i
 | .inr x=> .str x
inductive HO where
 |lst (xs:-V)
 |tup (xs:-V)
 |dT (kvs:-(-cP×V))
 |ins (C dx:N8) (fs:-(Nh×V))
 |own (x:N8)
 |rng (lo hi:Int)
 |frz (o:Nv) (u:HO)
 |tbl (ps:Array N7)
 |ext (φ:Ng->Prop)
abbrev Hp:=N8->Option HO
noncomputable def Ob (H:Hp) (a:N8) (o:HO):Hp:=λb=>if b=a then some o else H b
theorem ag:Ob H a o a>o:=by unfold Ob;rw[N1 Z]
theorem aj(h:b≠a):Ob H a o b=H b:=by unfold Ob;rw[N0 h]
theorem u3:Ob (Ob H a o) a u=Ob H a u:=by
 funext b;unfold Ob;split<;>rfl
theorem bz {H:Hp}{a b:N8}{o u:HO}(h:H a>o)(h':H b>u)(d:o≠u):a≠b:=by
 intro e;subst e;rw[h] at h';show d (Option.some.inj h')
theorem ai {H:Hp}{a b:N8}{o:HO}(h:H a>o)(h':H b=none):a≠b:=by
 intro e;subst e;rw[h] at h';cases h'
section
variable (P:Ni) (w:Nr)
noncomputable def bM (H:Hp) (h:Ng) (a:N8):HO->Prop
 | .lst xs=>↑xs<=N9/\∃(b:-N7) (n:Nat),aZ xs b/\h.get? a=some {cls:=.type "list",data:=.seq b.toArray n}
 | .tup xs=>↑xs<=N9/\∃b:-N7,aZ xs b/\IsTup h a b.toArray
 | .dT kvs=>↑kvs<=N9/\(a==NQ)=false/\∃xs:-(-cP×N8×N7),
   Nb (λ(p:-cP×V) (q:-cP×N8×N7)=>p.1=q.1/\H q.2.1>.tup (p.1.map kV)/\a8 p.2 q.2.2) kvs xs/\
   ∃o es ep,h.get? a>o/\o.ExactDict/\o.data=.dict es ep/\es.toList=xs.map (entryOfKey (Nm (aX P w)))/\(xs.map (·.1)).Nodup
 | .ins C dx fs=>H dx>.own a/\↑fs<=1000/\dx≠a/\h.get? a>Lw C dx/\
   ∃mA,h.Ns1 dx mA/\(∀f,iE (fs.lookup f) (mA f))/\PySem.Within mA (fs.map (·.1))
 | .own _=>∃o,h.get? a>o
 | .rng lo hi=>∃t u v,h.get? a=some {cls:=.type "range",data:=.fields #[.int lo t,.int hi u,.int 1 v]}
 | .frz o u=>h.get? a>o/\bM H h a u
 | .tbl ps=>h.get? a=some {cls:=.none,data:=.fields ps}
 | .ext φ=>φ h/\(∃o,h.get? a>o)/\∀h1 h2:Ng,φ h1->(∀o,h1.get? a>o->h2.get? a>o)->φ h2
def gO (H:Hp) (h:Ng):Prop:=∀a o,H a>o->bM P w H h a o
end
section
variable {P:Ni} {w:Nr} {H H':Hp} {h h':Ng} {a:N8} {o:HO}
theorem bM.lt (x:bM P w H h a o):a<h.objs.size:=by
 cases o with
 |lst xs=>let⟨_,_,_,_,e⟩:=x;show JN e
 |tup xs=>let⟨_,_,_,p⟩:=x;show p.lt
 |dT kvs=>let⟨_,_,_,_,o,_,_,e,_⟩:=x;show JN e
 |ins C dx fs=>let⟨_,_,_,e,_⟩:=x;show JN e
 |own y=>let⟨_,e⟩:=x;show JN e
 |rng lo hi=>let⟨_,_,_,e⟩:=x;show JN e
 |frz ob u=>let⟨e,_⟩:=x;show JN e
 |tbl ps=>show JN (show h.get? a>_ from x)
 |ext φ=>let⟨_,⟨_,e⟩,_⟩:=x;show JN e
theorem Nb.mapP {c d:Type}{F G:c->d->Prop}{l₁:-c}{l₂:-d}(h:Nb F l₁ l₂)(f:∀a b,F a b->G a b):Nb G l₁ l₂:=by
 induction h with
 |nil=>show .nil
 |cons r t ih=>show .cons (f _ _ r) ih
theorem bM.stay (x:bM P w H h a o)(k:∀b u,(b=a\/H b>.own a)->h.get? b>u->h'.get? b>u)
  (i:∀b,H b>.own a->H' b>.own a) (ht:∀b xs,H b>.tup xs->H' b>.tup xs):bM P w H' h' a o:=by
 induction o with
 |lst xs=>let⟨z,f,n,r,e⟩:=x;show⟨z,f,n,r,k _ _ (.inl Z) e⟩
 |tup xs=>let⟨z,f,r,g,e,c⟩:=x;show⟨z,f,r,g,k _ _ (.inl Z) e,c⟩
 |dT kvs=>
  let⟨z,y,xs,r,g,es,ep,e,c⟩:=x
  show⟨z,y,xs,Nb.mapP r λp q z=>⟨z.1,ht _ _ z.2.1,z.2.2⟩,g,es,ep,k _ _ (.inl Z) e,c⟩
 |ins C dx fs=>
  let⟨d,z,m,e,mA,⟨l,es,ep,j,c⟩,r⟩:=x
  show⟨i _ d,z,m,k _ _ (.inl Z) e,mA,⟨l,es,ep,k _ _ (.inr d) j,c⟩,r⟩
 |own y=>let⟨g,e⟩:=x;show⟨g,k _ _ (.inl Z) e⟩
 |rng lo hi=>let⟨t,u,v,e⟩:=x;show⟨t,u,v,k _ _ (.inl Z) e⟩
 |frz g u ih=>let⟨e,q⟩:=x;show⟨k _ _ (.inl Z) e,ih q⟩
 |tbl ps=>
  let e:h.get? a=some {cls:=.none,data:=.fields ps}:=x
  show k a _ (.inl Z) e
 |ext φ=>let⟨p,⟨o,e⟩,st⟩:=x;show⟨st _ _ p λo q=>k _ _ (.inl Z) q,⟨o,k _ _ (.inl Z) e⟩,st⟩
theorem gO.lt (x:gO P w H h)(e:H a>o):a<h.objs.size:=(x a o e).lt
theorem gO.fresh (x:gO P w H h)(e:h.objs.size<=a):H a=none:=by
 cases q:H a with
 |none=>rfl
 |some u=>show absurd (Kg (x.lt q) e) (Ku _)
theorem gO.kept (x:gO P w H h)(k:∀b u,h.get? b>u->h'.get? b>u):gO P w H h':=λa o e=>
 (x a o e).stay (λb u _ q=>k b u q) (λ_ q=>q) λ_ _ q=>q
theorem gO.laid (x:gO P w H h)(k:∀b u,h.get? b>u->h'.get? b>u)(f:h.objs.size<=a)(new:bM P w (Ob H a o) h' a o):gO P w (Ob H a o) h':=λb u e=>by
 let d:=x.fresh f
 by_cases hb:b=a
 ·subst hb;rw[ag] at e;cases e;show new
 ·rw[aj hb] at e
  show(x b u e).stay (λc v _ q=>k c v q) (λc q=>by rw[aj (ai q d)];show q) λc xs q=>by rw[aj (ai q d)];show q
end
def Rd (H:Hp) (a:N8) (u:HO):Prop:=H a>u\/∃o,H a>.frz o u
theorem Rd.ok(r:Rd H a u)(x:gO P w H h):bM P w H h a u:=by
 rcases r with r|⟨o,r⟩
 ·show x a u r
 ·let⟨_,q⟩:=x a _ r
  show q
noncomputable def C4:Option HO->Prop
 |some (.lst _)=>True
 |some (.dT _)=>True
 |some (.ins _ _ _)=>True
 |some (.ext _)=>True
 |_=>False
section
variable {P:Ni} {w:Nr} {H:Hp} {h h':Ng} {x e:N8} {o':HO}
theorem gO.write (ok:gO P w H h)(f:C4 (H x))(j:e=x\/H e>.own x)(k:∀b u,b≠e->h.get? b>u->h'.get? b>u)(g:∃u,h'.get? e>u)
  (new:bM P w (Ob H x o') h' x o'):gO P w (Ob H x o') h':=λb u q=>by
 let a:∀c y,H c>.own y->c≠x:=λc y r z=>by subst z;rw[r] at f;show f
 let d:∀c xs,H c>.tup xs->c≠x:=λc xs r z=>by subst z;rw[r] at f;show f
 by_cases hb:b=x
 ·subst hb;rw[ag] at q;cases q;show new
 ·rw[aj hb] at q
  by_cases hbe:b=e
  ·let i:H b>.own x:=by
    rcases j with z|z
    ·show absurd (hbe.trans z) hb
    ·rw[hbe];show z
   rw[q] at i;cases i
   let⟨v,l⟩:=g
   show⟨v,hbe<|l⟩
  ·show(ok b u q).stay (λc v hc r=>k c v ?_ r) (λc r=>by rw[aj (a c b r)];show r) λc xs r=>by rw[aj (d c xs r)];show r
   rcases hc with rfl|hc
   ·show hbe
   ·rintro rfl
    rcases j with z|z
    ·show a c b hc z
    ·rw[hc] at z;cases z;show hb Z
end
structure Un (fs ex:-N8) (H H':Hp) (h h':Ng):Prop where
 keep:∀b o,h.get? b>o->H b=none->b∉fs->b∉ex->h'.get? b>o
 slot:∀b o,h.get? b>o->H b=none->b∈fs->b∉ex->∃sl,h'.get? b=some {o with slots:=sl}
 free:∀b o,h.get? b>o->H b=none->b∉ex->H' b=none
 there:∀b o,h.get? b>o->b∉ex->∃o',h'.get? b>o'
 tups:∀b xs,H b>.tup xs->H' b>.tup xs
 frzs:∀b o u,H b>.frz o u->H' b>.frz o u
 tbls:∀b ps,H b>.tbl ps->∃more,H' b>.tbl (ps++more)
section
variable {fs fs' ex ex':-N8} {H H1 H2:Hp} {h h1 h2 h':Ng} {a x e:N8} {o:HO}
theorem Un.any (u:Un fs ex H H1 h h1){b:N8}{ob:Nv}(q:h.get? b>ob)(n:H b=none)(hx:b∉ex):∃a,h1.get? b=some {ob with slots:=a}:=by
 by_cases hb:b∈fs
 ·show u.slot b ob q n hb hx
 ·show⟨ob.slots,u.keep b ob q n hb hx⟩
theorem Un.kept (k:∀b u,h.get? b>u->h'.get? b>u):Un fs ex H H h h':=
 ⟨λb a q _ _ _=>k b a q,λb a q _ _ _=>⟨a.slots,k b a q⟩,λ_ _ _ n _=>n,λb a q _=>⟨a,k b a q⟩,λ_ _ q=>q,λ_ _ _ q=>q,λ_ ps q=>⟨#[],by rw[q];simp⟩⟩
theorem Un.refl:Un fs ex H H h h:=Un.kept λ_ _ q=>q
theorem Un.laid (k:∀b u,h.get? b>u->h'.get? b>u)(d:h.objs.size<=a)(c:H a=none):Un fs ex H (Ob H a o) h h' where
 keep:=λb u q _ _ _=>k b u q
 slot:=λb u q _ _ _=>⟨u.slots,k b u q⟩
 free:=λb u q n _=>by rw[aj (JP (Kg (JN q) d))];show n
 there:=λb u q _=>⟨u,k b u q⟩
 tups:=λb xs q=>by rw[aj (ai q c)];show q
 frzs:=λb u xs q=>by rw[aj (ai q c)];show q
 tbls:=λb ps q=>⟨#[],by rw[aj (ai q c),q];simp⟩
theorem Un.write (a:C4 (H x))(f:e=x\/H e>.own x)(k:∀b u,b≠e->h.get? b>u->h'.get? b>u)(c:∃u,h'.get? e>u):Un fs ex H (Ob H x o) h h':=by
 let d:∀b,H b=none->b≠x:=λb n z=>by subst z;rw[n] at a;show a
 let hb:∀b,H b=none->b≠e:=λb n z=>by
  subst z
  rcases f with r|r
  ·show d b n r
  ·rw[n] at r;cases r
 let hm:∀b u,H b>u->¬C4 (some u)->b≠x:=λb u q nm z=>by subst z;rw[q] at a;show nm a
 show⟨λb u q n _ _=>k b u (hb b n) q,λb u q n _ _=>⟨u.slots,k b u (hb b n) q⟩,λb u q n _=>by rw[aj (d b n)];show n,λb u q _=>?_,
  λb xs q=>by rw[aj (hm b _ q λz=>z)];show q,λb u xs q=>by rw[aj (hm b _ q λz=>z)];show q,λb ps q=>⟨#[],by rw[aj (hm b _ q λz=>z),q];simp⟩⟩
 by_cases hbe:b=e
 ·subst hbe;show c
 ·show⟨u,k b u hbe q⟩
end
noncomputable def yf (h:Ng) (H:Hp):-N8:=(List.range h.objs.size).filter λa=>(H a).isSome
def mP (h:Ng) (H:Hp):Ng:=PySem.W.hideAll h (yf h H)
theorem xu (h:Ng)(H:Hp):(mP h H).objs.size=h.objs.size:=PySem.W.hideAll_size _ _
theorem Ax(e:h.get? b>o)(n:H b=none):(mP h H).get? b>o:=
 PySem.W.hideAll_get _ e λhm=>by
  let q:(H b).isSome=true:=(KZ.mp hm).2
  rw[n] at q;simp at q
theorem BC(e:(mP h H).get? b>o):h.get? b>o/\H b=none:=by
 let a:h.get? b>o:=PySem.W.of_hideAll (yf h H) e
 show⟨a,?_⟩
 cases q:H b with
 |none=>rfl
 |some x=>
  let hm:b∈yf h H:=KZ.mpr ⟨Kk.mpr (JN a),by simp[q]⟩
  let z:(mP h H).get? b=none:=PySem.W.hideAll_none (yf h H) hm
  rw[z] at e;cases e
noncomputable def iO (g h:Ng) (L:N8):-(N8×Nv):=(List.range h.objs.size).filterMap λa=>if a=L\/(g.get? a).isSome=true then none else (h.get? a).map λo=>(a,o)
theorem gQ(h1:a≠L)(c:g.get? a=none)(b:h.get? a>o):(a,o)∈iO g h L:=
 Lg.mpr ⟨a,Kk.mpr (JN b),by simp[h1,c,b]⟩
theorem mh{p:N8×Nv}(a:p∈iO g h L):p.1≠L/\g.get? p.1=none/\h.get? p.1>p.2:=by
 let⟨b,_,e⟩:=Lg.mp a
 split at e
 ·cases e
 ·rename_i hn
  cases q:h.get? b with
  |none=>rw[q] at e;simp at e
  |some u=>
   rw[q] at e
   simp only[LO,Option.some.injEq] at e
   subst e
   show⟨λz=>hn (.inl z),?_,q⟩
   cases r:g.get? b with
   |none=>rfl
   |some v=>show(hn (.inr (by simp[r]))).elim
noncomputable def rest (g h:Ng) (L d:N8):-(N8×Nv):=(iO g h L).filter λp=>decide (p.1≠d)
theorem A2:News g L h (iO g h L):=λp hp=>let ⟨a,b,c⟩:=mh hp;⟨c,a,b⟩
structure Mod (K:JI) (mg:Nh->Option N7) (O_:Ng):Prop where
 kin:K.In O_
 glob:O_.Ns Nj mg
 blt:∃mb,O_.Ns builtinsNs mb/\∀x:Nh,x≠ "__name__" ->mb x=NB x
 nolimit:O_.NoLimit
structure Cx where
 prog:Ni
 w:Nr
 K:JI
 mg:Nh->Option N7
 O_:Ng
 A:Nu
 N:-Nh
 s₀:N_
 H₀:Hp
 env:O0
 outer:-O0
 stack:-O0
 ex:-N8
 fn:Nh->Bool
 calm:Bool
 pn:-(N8×Nv)
 xe:N7->N_->Prop
def vK (l:-O0):-N8:=l.filterMap (·.frame)
abbrev Cx.fs (X:Cx):-N8:=vK X.outer
def Je (a:NS) (x:Nh):Prop:=a.names.lookup x>.local\/a.names.lookup x>.cell\/a.names.lookup x>.free
def Gm (a:NS) (x:Nh):Prop:=a.names.lookup x>.local\/a.names.lookup x>.cell
def IH (env:O0) (h:Ng) (m:Nh->Option N7) (x:Nh) (u:N7):Prop:=
 (env.kindOf x>.local/\m x>u)\/((env.kindOf x>.cell\/env.kindOf x>.free)/\∃c,env.cells.lookup x>c/\h.IsCell c (some u))
structure Cx.Ok (X:Cx):Prop where
 mod:Mod X.K X.mg X.O_
 kind:X.env.scope.kind=.function
 glob:X.env.globals=Nj
 blt:X.env.builtins=builtinsNs
 above: ~~~X.s₀<=X.env.locals
 inj:∀x y c,X.env.cells.lookup x>c->X.env.cells.lookup y>c->x=y
 has:∀x,(X.env.kindOf x>.cell\/X.env.kindOf x>.free)->∃c,X.env.cells.lookup x>c
 cab:∀x c,X.fn x=true->X.env.cells.lookup x>c->~~~X.s₀<=c
 hd:X.calm=true->X.A.handled=none
 frames:X.A.frames>X.stack
 stk:X.stack=X.outer\/(X.stack=X.env::X.outer/\X.env.frame>X.env.locals)
 exf:∀b∈X.ex,b≠X.env.locals/\∀x c,X.env.cells.lookup x>c->c≠b
 bs:∀b o,X.O_.get? b>o->X.s₀.heap.get? b>o/\X.H₀ b=none
 bsz:X.O_.objs.size<= ~~~X.s₀
 noex:∀b o,X.O_.get? b>o->b∉X.ex
 exfs:∀b∈X.ex,b∉X.fs
 funs:X.s₀.heap.FunFrames X.O_ X.outer
 frf:∀b∈X.fs,X.H₀ b=none
structure aH (X:Cx) (O8:-(N8×Nv)) (σ:-(Option V)) (H:Hp) (s:N_):Prop where
 ok:X.Ok
 os:s.os=X.s₀.os
 bare:AllBare s.gens
 O_:Un X.fs X.ex X.H₀ H X.s₀.heap s.heap
 loc:∃m,s.heap.Ns X.env.locals m/\∀(i:Nat) (x:Nh) (v:V),X.N[i]?>x->σ[i]?>some v->Je X.env.scope x->∃u,a8 v u/\IH X.env s.heap m x u
 cell:∀x c,X.env.cells.lookup x>c->∃v,s.heap.IsCell c v
 free:H X.env.locals=none
 freeC:∀x c,X.env.cells.lookup x>c->H c=none
 pin:∀p∈X.pn++O8,s.heap.get? p.1>p.2/\H p.1=none/\p.1≠X.env.locals/\p.1∉X.fs/\∀v,p.2.data≠.cell v
 hok:gO X.prog X.w H s.heap
 len:↑σ=↑X.N
section
variable {X:Cx} {O8:-(N8×Nv)} {σ:-(Option V)} {H H':Hp} {s:N_} {h':Ng}
theorem Cx.Ok.nofr (ok:X.Ok){b:N8}{o:Nv}(e:X.O_.get? b>o):b∉X.fs:=λhb=>by
 have:=(ok.funs.mem hb).1
 rw[e] at this;cases this
theorem aH.bs (I:aH X O8 σ H s):∀b o,X.O_.get? b>o->s.heap.get? b>o/\H b=none:=λb o e=>
 ⟨I.O_.keep b o (I.ok.bs b o e).1 (I.ok.bs b o e).2 (I.ok.nofr e) (I.ok.noex b o e),I.O_.free b o (I.ok.bs b o e).1 (I.ok.bs b o e).2 (I.ok.noex b o e)⟩
theorem aH.bk (I:aH X O8 σ H s):∀b o,X.O_.get? b>o->s.heap.get? b>o:=λb o e=>(I.bs b o e).1
theorem aH.mod (I:aH X O8 σ H s):Mod X.K X.mg X.O_:=I.ok.mod
theorem aH.kIn (I:aH X O8 σ H s):X.K.In s.heap:=I.ok.mod.kin.keeps I.bk
theorem aH.lt (I:aH X O8 σ H s):X.env.locals<~~~s:=let ⟨_,hn,_⟩:=I.loc;hn.lt
theorem aH.sz (I:aH X O8 σ H s): ~~~X.s₀<= ~~~s:=J1 I.ok.above (Kh I.lt)
theorem aH.nofs (I:aH X O8 σ H s){a:N8}(h: ~~~s<=a):a∉X.fs:=λhb=>by
 let⟨_,o,b,_⟩:=I.ok.funs.mem hb
 show absurd (Kg (JN b) (J1 I.sz h)) (Ku _)
theorem aH.cne (I:aH X O8 σ H s):∀x c,X.env.cells.lookup x>c->c≠X.env.locals:=λx c e z=>by
 let⟨v,o,d,hd⟩:=I.cell x c e
 let⟨m,⟨o',es,ep,b,a,_⟩,_⟩:=I.loc
 rw[z,b] at d;cases d;rw[a] at hd;cases hd
theorem aH.funs (I:aH X O8 σ H s):s.heap.FunFrames X.O_ X.outer:=by
 let all:∀(l:-O0),(∀b∈vK l,b∈X.fs)->X.s₀.heap.FunFrames X.O_ l->s.heap.FunFrames X.O_ l:=by
  intro l
  induction l with
  |nil=>intro _ _;trivial
  |cons env r ih=>
   intro c d
   let⟨g,⟨L,o,hf,h,f,hd⟩,hr⟩:=d
   let a:L∈X.fs:=c L (by unfold vK;rw[Lh,hf];show JZ)
   let⟨i,e⟩:=I.O_.slot L o f (I.ok.frf L a) a λz=>I.ok.exfs L z a
   show⟨g,⟨L,_,hf,h,e,hd⟩,ih (λb hb=>c b (by unfold vK;rw[Lh,hf];show J0 _ hb)) hr⟩
 show all X.outer (λ_ hb=>hb) I.ok.funs
theorem aH.stack (I:aH X O8 σ H s):s.heap.FunFrames X.O_ X.stack:=by
 rcases I.ok.stk with e|⟨e,hf⟩
 ·rw[e];show I.funs
 ·rw[e]
  let⟨m,a,_⟩:=I.loc
  show .cons (by rw[I.ok.kind];decide) hf a ?_ I.funs
  show K2 (J1 I.ok.bsz I.ok.above)
theorem aH.stkSub (I:aH X O8 σ H s):∀b∈vK X.stack,b∈X.env.locals::X.fs:=λb hb=>by
 rcases I.ok.stk with e|⟨e,hf⟩
 ·rw[e] at hb;show J0 _ hb
 ·rw[e] at hb
  unfold vK at hb
  rw[Lh,hf] at hb
  show hb
theorem aH.stkFree (I:aH X O8 σ H s):∀b∈vK X.stack,H b=none:=λb hb=>by
 rcases JO.mp (I.stkSub b hb) with e|hb
 ·rw[e];show I.free
 ·let⟨_,o,a,_⟩:=I.ok.funs.mem hb
  show I.O_.free b o a (I.ok.frf b hb) λz=>I.ok.exfs b z hb
theorem aH.step {g':Array NT}{t':Nat}{d':Drawn}{ch:-N8}(I:aH X O8 σ H s)
  (A:∀b∈ch,(b∈X.ex\/~~~X.s₀<=b)/\b≠X.env.locals/\(∀x c,X.env.cells.lookup x>c->c≠b)/\∀p∈X.pn++O8,p.1≠b)
  (keep:∀b o,b≠X.env.locals->b∉X.fs->b∉ch->s.heap.get? b>o->H b=none->h'.get? b>o)
  (C:∀b o,b≠X.env.locals->b∈X.fs->b∉ch->s.heap.get? b>o->H b=none->∃M,h'.get? b=some {o with slots:=M}) (free:∀b o,b∉ch->s.heap.get? b>o->H b=none->H' b=none)
  (there:∀b o,b∉ch->s.heap.get? b>o->∃o',h'.get? b>o')
  (tups:∀b xs,H b>.tup xs->H' b>.tup xs) (J:∀b o u,H b>.frz o u->H' b>.frz o u) (F:∀b ps,H b>.tbl ps->∃more,H' b>.tbl (ps++more))
  (ns:∀m,s.heap.Ns X.env.locals m->h'.Ns X.env.locals m) (K:gO X.prog X.w H' h') (T:AllBare g'):
  aH X O8 σ H' {s with heap:=h',gens:=g',drawn:=d',toks:=t'}:=by
 let h:∀b o,X.s₀.heap.get? b>o->b≠X.env.locals:=λb o e=>JP (Kg (JN e) I.ok.above)
 let g:∀b o,X.s₀.heap.get? b>o->b∉X.ex->b∉ch:=λb o e y hb=>by
  rcases(A b hb).1 with z|z
  ·show y z
  ·show absurd (Kg (JN e) z) (Ku _)
 let f:∀x c,X.env.cells.lookup x>c->∀v,s.heap.IsCell c v->h'.IsCell c v:=λx c e v L=>by
  let⟨o,D,hd⟩:=L
  let a:c∉ch:=λz=>(A c z).2.2.1 x c e Z
  by_cases hc:c∈X.fs
  ·let⟨M,q⟩:=C c o (I.cne x c e) hc a D (I.freeC x c e)
   show⟨_,q,hd⟩
  ·show⟨o,keep c o (I.cne x c e) hc a D (I.freeC x c e),hd⟩
 show⟨I.ok,I.os,T,⟨λb o e n hb y=>?_,λb o e n hb y=>?_,λb o e n y=>?_,λb o e y=>?_,λb xs e=>tups b xs (I.O_.tups b xs e),λb o xs e=>J b o xs (I.O_.frzs b o xs e),λb ps e=>?_⟩,?_,λx c e=>?_,?_,λx c e=>?_,λp hp=>?_,K,I.len⟩
 ·show keep b o (h b o e) hb (g b o e y) (I.O_.keep b o e n hb y) (I.O_.free b o e n y)
 ·let⟨M,B⟩:=I.O_.slot b o e n hb y
  let⟨j,E⟩:=C b _ (h b o e) hb (g b o e y) B (I.O_.free b o e n y)
  show⟨j,E⟩
 ·let⟨o',B⟩:=I.O_.there b o e y
  show free b o' (g b o e y) B (I.O_.free b o e n y)
 ·let⟨o',B⟩:=I.O_.there b o e y
  show there b o' (g b o e y) B
 ·let⟨Q,B⟩:=I.O_.tbls b ps e
  let⟨S,E⟩:=F b _ B
  show⟨Q++S,by rw[E,Array.append_assoc]⟩
 ·let⟨m,R,P⟩:=I.loc
  show⟨m,ns m R,λi x v B E U=>?_⟩
  let⟨u,r,l⟩:=P i x v B E U
  show⟨u,r,?_⟩
  rcases l with l|⟨k,c,e,z⟩
  ·show .inl l
  ·show .inr ⟨k,c,e,f x c e _ z⟩
 ·let⟨v,z⟩:=I.cell x c e
  show⟨v,f x c e v z⟩
 ·let⟨m,⟨o,_,_,D,_⟩,_⟩:=I.loc
  show free _ o (λz=>(A _ z).2.1 Z) D I.free
 ·let⟨v,o,D,hd⟩:=I.cell x c e
  show free c o (λz=>(A c z).2.2.1 x c e Z) D (I.freeC x c e)
 ·let⟨e,n,O,N,d⟩:=I.pin p hp
  let a:p.1∉ch:=λz=>(A p.1 z).2.2.2 p hp Z
  show⟨keep p.1 p.2 O N a e n,free p.1 p.2 a e n,O,N,d⟩
theorem aH.un(I:aH X O8 σ H s)(u:Un X.fs [] H H' s.heap h')(f:gO X.prog X.w H' h'):aH X O8 σ H' {s with heap:=h',toks:=t'}:=by
 let⟨m,⟨o,es,ep,g,r⟩,_⟩:=id I.loc
 let⟨k,h⟩:=u.any g I.free (by simp)
 show I.step (g':=s.gens) (d':=s.drawn) (ch:=[]) (λ_ z=>by cases z) (λb o _ hb _ e n=>u.keep b o e n hb (by simp)) (λb o _ hb _ e n=>u.slot b o e n hb (by simp)) (λb o _ e n=>u.free b o e n (by simp)) (λb o _ e=>u.there b o e (by simp)) u.tups u.frzs u.tbls (λj hm=>by
  let⟨o',c,d,a,i⟩:=hm
  rw[g] at a;cases a
  show⟨_,c,d,h,i⟩) f I.bare
theorem aH.call {g':Array NT}{d':Drawn}(I:aH X O8 σ H s)(u:Un (vK X.stack) ch H H' s.heap h')(i:gO X.prog X.w H' h')(q:AllBare g')
  (h:∀b∈ch,(b∈X.ex\/~~~X.s₀<=b)/\b≠X.env.locals/\(∀x c,X.env.cells.lookup x>c->c≠b)/\∀p∈X.pn++O8,p.1≠b):
  aH X O8 σ H' {s with heap:=h',gens:=g',drawn:=d',toks:=t'}:=by
 let⟨m,⟨o,es,ep,k,r⟩,_⟩:=id I.loc
 let⟨y,j⟩:=u.any k I.free λz=>(h _ z).2.1 Z
 show I.step (ch:=ch) h (λb o j hb g e n=>u.keep b o e n (λz=>(JO.mp (I.stkSub b z)).elim j hb) g) (λb o _ _ g e n=>u.any e n g) (λb o g e n=>u.free b o e n g) (λb o g e=>u.there b o e g) u.tups u.frzs u.tbls (λv hm=>by
  let⟨o',d,f,a,l⟩:=hm
  rw[k] at a;cases a
  show⟨_,d,f,j,l⟩) i q
theorem aH.tok (I:aH X O8 σ H s)(t:Nat):aH X O8 σ H {s with toks:=t}:=I.un (h':=s.heap) (t':=t) Un.refl I.hok
theorem aH.kept(I:aH X O8 σ H s)(k:∀b u,s.heap.get? b>u->h'.get? b>u):aH X O8 σ H {s with heap:=h',toks:=t'}:=I.un (Un.kept k) (I.hok.kept k)
theorem aH.laid(I:aH X O8 σ H s)(k:∀b u,s.heap.get? b>u->h'.get? b>u)(c: ~~~s<=a)(new:bM X.prog X.w (Ob H a o) h' a o):
  aH X O8 σ (Ob H a o) {s with heap:=h',toks:=t'}:=I.un (Un.laid k c (I.hok.fresh c)) (I.hok.laid k c new)
theorem aH.write(I:aH X O8 σ H s)(c:C4 (H x))(d:e=x\/H e>.own x)(k:∀b u,b≠e->s.heap.get? b>u->h'.get? b>u)(a:∃u,h'.get? e>u)
  (new:bM X.prog X.w (Ob H x o) h' x o):aH X O8 σ (Ob H x o) {s with heap:=h',toks:=t'}:=I.un (Un.write c d k a) (I.hok.write c d k a new)
theorem aH.pins_of {a:-(N8×Nv)}(I:aH X O8 σ H s)(h:∀p∈a,s.heap.get? p.1>p.2/\H p.1=none/\p.1≠X.env.locals/\p.1∉X.fs/\∀v,p.2.data≠.cell v):aH X a σ H s:=
 ⟨I.ok,I.os,I.bare,I.O_,I.loc,I.cell,I.free,I.freeC,λp hp=>(J3.mp hp).elim (λz=>I.pin p (LP _ z)) (h p),I.hok,I.len⟩
theorem qX {N:-Nh}(d:N.Nodup){i j:Nat}{x:Nh}(a:N[i]?>x)(b:N[j]?>x):i=j:=by
 let⟨h1,c⟩:=JX.mp a
 let⟨h2,e⟩:=JX.mp b
 show(List.getElem_inj d).mp (c.trans e.symm)
theorem ow{Q:Unit->N_->Prop}(I:aH X O8 σ H s)(hN:X.N.Nodup)(P:X.N[i]?>x)(hx:Gm X.env.scope x)(r:a8 v u)
  (h:∀s',aH X O8 (σ.set i (some v)) H s'->(∃a,Ng.SameBut a s.heap s'.heap/\(a=X.env.locals\/X.env.cells.lookup x>a))->Q Unit.unit s') (hf:X.fn x=true\/X.env.scope.names.lookup x>.local):Na M A (storeName X.env x u) Q E s:=by
 let⟨m,hn,hl⟩:=id I.loc
 let C:(X.env.scope.kind==.class||(X.env.scope.kind==.module&&X.env.locals !=X.env.globals))=false:=by rw[I.ok.kind];rfl
 let B:i<↑σ:=I.len<|(JX.mp P).1
 let cne:=I.cne
 let f:∀{a:N8} {h':Ng},(∃o,s.heap.get? a>o/\H a=none)->Ng.SameBut a s.heap h'->gO X.prog X.w H h':=fun{a h'} ha J b ob e=>by
  let⟨_,_,g⟩:=ha
  show(I.hok b ob e).stay (λc S hc q=>(J.2 c ?_).trans q) (λ_ q=>q) λ_ _ q=>q
  rintro rfl
  rcases hc with rfl|hc
  ·rw[g] at e;cases e
  ·rw[g] at hc;cases hc
 rcases hx with hk|hk
 ·show wpAny_storeName_local hk hn (λh' U J=>?_) C
  let⟨oL,_,_,F,_⟩:=id hn
  show h _ ⟨I.ok,I.os,I.bare,⟨λb o e n hb hx=>?_,λb o e n hb hx=>?_,I.O_.free,λb o e hx=>?_,I.O_.tups,I.O_.frzs,I.O_.tbls⟩,⟨_,U,λj y v' K L e3=>?_⟩,λy c e=>?_,I.free,I.freeC,λp hp=>?_,f ⟨oL,F,I.free⟩ J,by simpa using I.len⟩ ⟨_,J,.inl Z⟩
  ·show(J.2 b (JP (Kg (JN e) I.ok.above))).trans (I.O_.keep b o e n hb hx)
  ·let⟨sl,K⟩:=I.O_.slot b o e n hb hx
   show⟨sl,(J.2 b (JP (Kg (JN e) I.ok.above))).trans K⟩
  ·let⟨o',K⟩:=I.O_.there b o e hx
   show⟨o',(J.2 b (JP (Kg (JN e) I.ok.above))).trans K⟩
  ·by_cases hj:j=i
   ·subst hj
    rw[P] at K;cases K
    rw[Lx B] at L
    cases L
    show⟨u,r,.inl ⟨hk,by simp⟩⟩
   ·rw[LQ (JH hj)] at L
    let⟨Y,Z0,q⟩:=hl j y v' K L e3
    show⟨Y,Z0,?_⟩
    rcases q with ⟨k,e⟩|⟨k,c,e,z⟩
    ·show .inl ⟨k,?_⟩
     have:y≠x:=λe=>hj (qX hN K (e▸P))
     simp[this,e]
    ·show .inr ⟨k,c,e,z.sameBut J (cne y c e)⟩
  ·let⟨S,z⟩:=I.cell y c e
   show⟨S,z.sameBut J (cne y c e)⟩
  ·let⟨e,n,T,W,d⟩:=I.pin p hp
   show⟨(J.2 p.1 T).trans e,n,T,W,d⟩
 ·let l:X.fn x=true:=by
   rcases hf with z|z
   ·show z
   ·rw[z] at hk;cases hk
  let⟨c,hc⟩:=I.ok.has x (.inl hk)
  let⟨S,z⟩:=I.cell x c hc
  show wpAny_storeName_cell I.ok.kind hk hc z (λh' O J=>?_)
  let⟨oc,w,D⟩:=id z
  show h {s with heap:=h'} ⟨I.ok,I.os,I.bare,⟨λb o e n hb hx=>?_,λb o e n hb hx=>?_,I.O_.free,λb o e hx=>?_,I.O_.tups,I.O_.frzs,I.O_.tbls⟩,⟨m,hn.sameBut J (JH (cne x c hc)),λj y v' K L e3=>?_⟩,λy R e=>?_,I.free,I.freeC,λp hp=>?_,f ⟨oc,w,I.freeC x c hc⟩ J,by simpa using I.len⟩ ⟨c,J,.inr hc⟩
  ·show(J.2 b (JP (Kg (JN e) (I.ok.cab x c l hc)))).trans (I.O_.keep b o e n hb hx)
  ·let⟨sl,K⟩:=I.O_.slot b o e n hb hx
   show⟨sl,(J.2 b (JP (Kg (JN e) (I.ok.cab x c l hc)))).trans K⟩
  ·let⟨o',K⟩:=I.O_.there b o e hx
   show⟨o',(J.2 b (JP (Kg (JN e) (I.ok.cab x c l hc)))).trans K⟩
  ·by_cases hj:j=i
   ·subst hj
    rw[P] at K;cases K
    rw[Lx B] at L
    cases L
    show⟨u,r,.inr ⟨.inl hk,c,hc,O⟩⟩
   ·rw[LQ (JH hj)] at L
    let⟨Y,Z0,q⟩:=hl j y v' K L e3
    show⟨Y,Z0,?_⟩
    rcases q with q|⟨k,R,e,z'⟩
    ·show .inl q
    ·show .inr ⟨k,R,e,z'.sameBut J ?_⟩
     rintro rfl
     show hj (qX hN K (I.ok.inj _ _ _ e hc▸P))
  ·by_cases hcc:R=c
   ·subst hcc;show⟨_,O⟩
   ·let⟨w2,z2⟩:=I.cell y R e
    show⟨w2,z2.sameBut J hcc⟩
  ·let⟨e,n,T,W,d⟩:=I.pin p hp
   show⟨(J.2 p.1 ?_).trans e,n,T,W,d⟩
   intro q
   rw[q,w] at e
   let q':oc=p.2:=Option.some.inj e
   show d S (by rw[<-q'];show D)
theorem qz{Q:Unit->N_->Prop}(I:aH X O8 σ H s)(a:X.N.Nodup)(b:X.N[i]?>x)(hx:Gm X.env.scope x)(r:a8 v u)
  (h:∀s',aH X O8 (σ.set i (some v)) H s'->Q Unit.unit s') (hf:X.fn x=true\/X.env.scope.names.lookup x>.local):Na M A (storeName X.env x u) Q E s:=
 ow I a b hx r (λs' I' _=>h s' I') hf
theorem aH.call'(I:aH X O8 σ H s)(i:s'.os=s.os)(u:Un (vK X.stack) ch H H' s.heap s'.heap)(d:gO X.prog X.w H' s'.heap)(j:AllBare s'.gens)
  (a:∀b∈ch,(b∈X.ex\/~~~X.s₀<=b)/\b≠X.env.locals/\(∀x c,X.env.cells.lookup x>c->c≠b)/\∀p∈X.pn++O8,p.1≠b):aH X O8 σ H' s':=by
 let⟨h',f,h,g,o'⟩:=s'
 let e:o'=s.os:=i
 subst e
 show I.call (g':=f) (t':=g) (d':=h) u d j a
end
abbrev XK:=N7->Option N8->Hp->Prop
abbrev St:=-(Option V)
variable {X:Cx} {O8:-(N8×Nv)} {σ:St} {H:Hp} {s:N_} {prog:Ni} {w:Nr} {A:Nu} {E:N7->N_->Prop} {K:JI} {mg:Nh->Option N7} {O_:Ng}
abbrev VK:=V->Hp->Prop
abbrev TE:=St->Hp->VK->Prop
abbrev TT:=St->Hp->(Bool->Hp->Prop)->Prop
abbrev TA:=St->Hp->(-V->Hp->Prop)->Prop
structure gV where
 nx:St->Hp->Prop
 rt:VK
 bk:St->Hp->Prop:=λ_ _=>False
 ct:St->Hp->Prop:=λ_ _=>False
abbrev TS:=gV->St->Hp->Prop
def EP (X:Cx) (O8:-(N8×Nv)) (σ:St) (Q:VK) (u:N7) (a:N_):Prop:=∃v H',aH X O8 σ H' a/\a8 v u/\Q v H'
def TP (X:Cx) (O8:-(N8×Nv)) (σ:St) (Q:Bool->Hp->Prop) (b:Bool) (a:N_):Prop:=∃H',aH X O8 σ H' a/\Q b H'
def AP (X:Cx) (O8:-(N8×Nv)) (σ:St) (Q:-V->Hp->Prop) (us:-N7) (a:N_):Prop:=∃vs H',aH X O8 σ H' a/\aZ vs us/\Q vs H'
def SP (X:Cx) (O8:-(N8×Nv)) (D:gV) (f:Flow) (b:N_):Prop:=
 match f with
 | .next=>∃a H',aH X O8 a H' b/\D.nx a H'
 | .brk=>∃a H',aH X O8 a H' b/\D.bk a H'
 | .cont=>∃a H',aH X O8 a H' b/\D.ct a H'
 | .ret u=>∃v a H',aH X O8 a H' b/\a8 v u/\D.rt v H'
def PE (X:Cx) (e:Nw) (t:TE):Prop:=
 ∀(O8:-(N8×Nv)) (s:N_) (σ:St) (H:Hp) (Q:VK),aH X O8 σ H s->t σ H Q->Na (Nd X.prog X.w) X.A (eval e X.env) (EP X O8 σ Q) X.xe s
def PT (X:Cx) (e:Nw) (t:TT):Prop:=
 ∀(O8:-(N8×Nv)) (s:N_) (σ:St) (H:Hp) (Q:Bool->Hp->Prop),aH X O8 σ H s->t σ H Q->Na (Nd X.prog X.w) X.A (isTrue e X.env (eval e X.env)) (TP X O8 σ Q) X.xe s
def PW (X:Cx) (e:Nw) (t:TT):Prop:=
 ∀(eX:Sem N7) (O8:-(N8×Nv)) (s:N_) (σ:St) (H:Hp) (Q:Bool->Hp->Prop),aH X O8 σ H s->t σ H Q->Na (Nd X.prog X.w) X.A (isTrue e X.env eX) (TP X O8 σ Q) X.xe s
theorem PW.pt(h:PW X e t):PT X e t:=h _
def PA (X:Cx) (a:-Nw) (t:TA):Prop:=
 ∀(pos:O1) (O8:-(N8×Nv)) (s:N_) (σ:St) (H:Hp) (Q:-V->Hp->Prop),aH X O8 σ H s->t σ H Q->Na (Nd X.prog X.w) X.A (spliced (NF pos (Nf a X.env))) (AP X O8 σ Q) X.xe s
def PS (X:Cx) (st:Nn) (t:TS):Prop:=
 ∀(O8:-(N8×Nv)) (s:N_) (σ:St) (H:Hp) (D:gV),aH X O8 σ H s->t D σ H->Na (Nd X.prog X.w) X.A (exec st X.env) (SP X O8 D) X.xe s
def qN (X:Cx) (st:-Nn) (t:TS):Prop:=
 ∀(O8:-(N8×Nv)) (s:N_) (σ:St) (H:Hp) (D:gV),aH X O8 σ H s->t D σ H->Na (Nd X.prog X.w) X.A (execs st X.env) (SP X O8 D) X.xe s
theorem bS {b:Type}{t:Sem b}{Q c:b->N_->Prop}(h:Na M A t Q E s)(d:∀a s,Q a s->c a s):Na M A t c E s:=Km h d λ_ _ x=>x
section
def bI (i:Nat):TE:=λσ H Q=>∃v,σ[i]?>some v/\Q v H
def tC (v:V):TE:=λ_ H Q=>Q v H
theorem Fl(j:X.N[i]?>x)(k:Je X.env.scope x)(hd:(x==("__debug__" :Nh))=false:=by decide)(d:(x==("__classdict__" :Nh))=false:=by decide):PE X (.Name x pos) (bI i):=by
 intro O8 s σ H Q I h
 let⟨v,e,h⟩:=h
 let⟨m,n,g⟩:=I.loc
 let⟨u,r,l⟩:=g i x v j e k
 let a:EP X O8 σ Q u s:=⟨v,H,I,r,h⟩
 rcases l with ⟨hk,hm⟩|⟨hk,c,f,b⟩
 ·show wpAny_Name (wpAny_loadName_local I.ok.kind hk n hm a) hd
 ·rcases hk with hk|hk
  ·show wpAny_Name (wpAny_loadName_cell I.ok.kind hk f b a) hd
  ·show wpAny_Name (wpAny_loadName_free I.ok.kind hk f b a d) hd
theorem ao {i j pos}:PE X (.Constant (.int i) j pos) (tC (.int i)):=λ_ _ _ H _ I h=>wpAny_Constant_int ⟨.int i,H,I.tok _,⟨_,Z⟩,h⟩
theorem gJ {b j pos}:PE X (.Constant (.bool b) j pos) (tC (.bl b)):=λ_ _ _ H _ I h=>Constant_bool ⟨.bl b,H,I,Z,h⟩
theorem iM {j pos}:PE X (.Constant .none j pos) (tC .non):=λ_ _ _ H _ I h=>Constant_none ⟨.non,H,I,Z,h⟩
theorem EG {x j pos}:PE X (.Constant (.str x) j pos) (tC (.str x)):=λ_ _ _ H _ I h=>Calls.Constant_str ⟨.str x,H,I.tok _,⟨_,Z⟩,h⟩
def Gl (X:Cx) (x:Nh):Prop:=X.env.kindOf x>.globalImplicit
theorem kQ(I:aH X O8 σ H s)(a:Gl X x)(b:X.mg x>u)(h:Q u s)
  (hd:(x==("__debug__" :Nh))=false:=by decide):Na (Nd X.prog X.w) X.A (eval (.Name x pos) X.env) Q E s:=
 Calls.Name_function_global I.ok.kind a (Calls.loadGlobal_global (I.ok.glob<|I.mod.glob.keeps I.bk) b h) hd
theorem fW(I:aH X O8 σ H s)(c:Gl X x)(b:X.mg x=none)(a:NB x>u)(h:Q u s)
  (d:x≠ "__name__" :=by decide) (hd:(x==("__debug__" :Nh))=false:=by decide):Na (Nd X.prog X.w) X.A (eval (.Name x pos) X.env) Q E s:=by
 let⟨e,h1,h2⟩:=I.mod.blt
 show Calls.Name_function_global I.ok.kind c (Calls.loadGlobal_builtin (I.ok.glob<|I.mod.glob.keeps I.bk) b (I.ok.blt<|h1.keeps I.bk) ((h2 x d).trans a) h) hd
theorem uO(b:Gl X x)(a:X.mg x>u)(r:a8 v u)(hd:(x==("__debug__" :Nh))=false:=by decide):PE X (.Name x pos) (tC v):=
 λ_ _ _ H _ I h=>kQ I b a ⟨v,H,I,r,h⟩ hd
variable {a b:Nw} {ta tb:TE} {pos:O1}
def PC (X:Cx) (op:CmpOp) (a b:Nw) (t:TE):Prop:=
 ∀(O8:-(N8×Nv)) (s:N_) (σ:St) (H:Hp) (Q:VK),aH X O8 σ H s->t σ H Q->
  Na (Nd X.prog X.w) X.A (eval a X.env) (λv c=>Na (Nd X.prog X.w) X.A (eval b X.env) (λu d=>Na (Nd X.prog X.w) X.A (Nk op v u) (EP X O8 σ Q) X.xe d) X.xe c) X.xe s
def tB (t:TE):TT:=λσ H Q=>t σ H λx H1=>∃c,x=.bl c/\Q c H1
theorem zp(h:PC X op a b t)(h1:behindInMarks op b=false:=by rfl):PE X (.Compare a [op] [b] pos) t:=λO8 s σ H Q I c=>wpAny_Compare1 (h O8 s σ H Q I c) h1
theorem fU(h:PC X op a b t)(h1:behindInMarks op b=false:=by rfl):PT X (.Compare a [op] [b] pos) (tB t):=by
 intro O8 s σ H Q I i
 show wpAny_isTrue_Compare1 (bS (h O8 s σ H _ I i) λv s1 h1=>bS h1 λu k h2=>bS h2 λc j e=>?_) h1
 let⟨x,H1,I1,f,g⟩:=e
 let⟨d,rfl,q⟩:=g
 cases f
 show K8 ⟨H1,I1,q⟩
theorem gu(h:PE X e t)(g:∀eX,isTrue e X.env eX=(do let v<-eX;standAt e.pos;holding [v] (truthy v)):=by intro _;rfl):PT X e (tB t):=by
 intro O8 s σ H Q I f
 show isTrue_plain (bS (h O8 s σ H _ I f) λv s1 a=>?_) (g _)
 let⟨x,H1,I1,b,c⟩:=a
 let⟨d,rfl,q⟩:=c
 cases b
 show K8 ⟨H1,I1,q⟩
variable {tA tB':TT} {rest:-Nw}
def G_ (t u:TT):TT:=λσ H Q=>t σ H λc H1=>if c=true then u σ H1 Q else Q false H1
def Gi (t u:TT):TT:=λσ H Q=>t σ H λc H1=>if c=true then Q true H1 else u σ H1 Q
def BR (t:TT):TT:=λσ H Q=>t σ H λc H1=>Q (!c) H1
theorem il (b:PT X a tA):PW X (.BoolOp .And [a] pos) tA:=by
 intro d O8 s σ H Q I h
 show isTrue_and (bS (b O8 s σ H Q I h) λc s1 e=>?_)
 cases c with
 |true=>show isTrue_and_nil e
 |false=>show e
theorem gB (b:PT X a tA):PW X (.BoolOp .Or [a] pos) tA:=by
 intro d O8 s σ H Q I h
 show isTrue_or (bS (b O8 s σ H Q I h) λc s1 e=>?_)
 cases c with
 |false=>show isTrue_or_nil e
 |true=>show e
theorem jJ (i:PT X a tA)(f:PW X (.BoolOp .And (b::rest) pos) tB'):PW X (.BoolOp .And (a::b::rest) pos) (G_ tA tB'):=by
 intro g O8 s σ H Q I h
 show isTrue_and (bS (i O8 s σ H _ I h) λc s1 d=>?_)
 let⟨H1,I1,e⟩:=d
 cases c with
 |true=>show f g O8 s1 σ H1 Q I1 e
 |false=>show⟨H1,I1,e⟩
theorem iz (i:PT X a tA)(f:PW X (.BoolOp .Or (b::rest) pos) tB'):PW X (.BoolOp .Or (a::b::rest) pos) (Gi tA tB'):=by
 intro g O8 s σ H Q I h
 show isTrue_or (bS (i O8 s σ H _ I h) λc s1 d=>?_)
 let⟨H1,I1,e⟩:=d
 cases c with
 |true=>show⟨H1,I1,e⟩
 |false=>show f g O8 s1 σ H1 Q I1 e
theorem fV (b:PT X a tA):PT X (.UnaryOp .Not a pos) (BR tA):=by
 intro O8 s σ H Q I h
 show isTrue_not (b O8 s σ H (λc H1=>Q (!c) H1) I h)
def Ej (a b:TE):TE:=λσ H Q=>a σ H λx H1=>∃c,x=.bl c/\if c=true then b σ H1 Q else Q (.bl false) H1
def G2 (a b:TE):TE:=λσ H Q=>a σ H λx H1=>∃c,x=.bl c/\if c=true then Q (.bl true) H1 else b σ H1 Q
theorem o9 {op}{t:TE}(h:PE X a t):PE X (.BoolOp op [a] pos) t:=λO8 s σ H Q I b=>BoolOp_one (h O8 s σ H Q I b)
theorem lF (i:PE X a ta)(g:PE X (.BoolOp .And (b::rest) pos) tb):PE X (.BoolOp .And (a::b::rest) pos) (Ej ta tb):=by
 intro O8 s σ H Q I h
 show BoolOp_and (bS (i O8 s σ H _ I h) λv s1 e=>?_)
 let⟨x,H1,I1,f,d⟩:=e
 let⟨c,rfl,d⟩:=d
 cases f
 show K8 ?_
 cases c with
 |true=>show g O8 s1 σ H1 Q I1 d
 |false=>show⟨.bl false,H1,I1,Z,d⟩
theorem Gr (i:PE X a ta)(g:PE X (.BoolOp .Or (b::rest) pos) tb):PE X (.BoolOp .Or (a::b::rest) pos) (G2 ta tb):=by
 intro O8 s σ H Q I h
 show BoolOp_or (bS (i O8 s σ H _ I h) λv s1 e=>?_)
 let⟨x,H1,I1,f,d⟩:=e
 let⟨c,rfl,d⟩:=d
 cases f
 show K8 ?_
 cases c with
 |false=>show g O8 s1 σ H1 Q I1 d
 |true=>show⟨.bl true,H1,I1,Z,d⟩
def Ht (t:TT) (a b:TE):TE:=λσ H Q=>t σ H λc H1=>if c=true then a σ H1 Q else b σ H1 Q
theorem jt(i:PT X c tA)(j:PE X a ta)(g:PE X b tb):PE X (.IfExp c a b pos) (Ht tA ta tb):=by
 intro O8 s σ H Q I h
 show wpAny_IfExp (bS (i O8 s σ H _ I h) λd s1 e=>?_)
 let⟨H1,I1,f⟩:=e
 cases d with
 |true=>show j O8 s1 σ H1 Q I1 f
 |false=>show g O8 s1 σ H1 Q I1 f
end
def aN (K:JI) (H:Hp) (a:N8) (xs:-V):Prop:=
 Rd H a (.lst xs)\/
  ∃(o:Nv) (b:Array N7) (n:Nat),K.lookup a>o/\o.cls=.type "list" /\o.dict=none/\o.data=.seq b n/\b.size<=N9/\aZ xs b.toList
def a_ (K:JI) (H:Hp) (a:N8) (xs:-V):Prop:=
 Rd H a (.tup xs)\/
  ∃(o:Nv) (b:Array N7) (n:Nat),K.lookup a>o/\o.cls=.type "tuple" /\o.data=.seq b n/\b.size<=N9/\aZ xs b.toList
noncomputable def Ip:N7->Option V
 | .none=>some .non
 | .bool b=>some (.bl b)
 | .int i _=>some (.int i)
 | .str x _=>some (.str x)
 | .bytes b _=>some (.byt b)
 | .float b _=>some (.flt b)
 | .ref a=>some (.ref a)
 | .type n=>some (.ty n)
 |_=>none
theorem a8.abs(r:a8 x u):Ip u>x:=by
 cases x with
 |non=>cases r;rfl
 |bl _=>cases r;rfl
 |int _=>let⟨t,rfl⟩:=r;rfl
 |str _=>let⟨t,rfl⟩:=r;rfl
 |byt _=>let⟨t,rfl⟩:=r;rfl
 |flt _=>let⟨t,rfl⟩:=r;rfl
 |ref _=>cases r;rfl
 |ty _=>cases r;rfl
theorem a8.inj(r:a8 x u)(q:a8 y u):x=y:=Option.some.inj (r.abs.symm.trans q.abs)
theorem aZ.inj(h:aZ xs us)(g:aZ ys us):xs=ys:=by
 induction h generalizing ys with
 |nil=>
  cases g
  rfl
 |cons r t ih=>
  cases g with
  |cons r' t'=>rw[r.inj r',ih t']
section
variable {a:N8} {xs ys:-V}
theorem aN.of (h:H a>.lst xs):aN K H a xs:=.inl (.inl h)
theorem a_.of (h:H a>.tup xs):a_ K H a xs:=.inl (.inl h)
theorem aH.list (I:aH X O8 σ H s)(h:aN X.K H a xs):∃b:-N7,aZ xs b/\PlainL s.heap a b.toArray/\↑xs<=N9:=by
 rcases h with h|⟨o,b,n,d,f,hd,c,g,r⟩
 ·let⟨z,b,n,r,e⟩:=h.ok I.hok
  show⟨b,r,⟨_,n,e,Z,Z,Z⟩,z⟩
 ·show⟨b.toList,r,⟨o,n,I.kIn a o d,f,hd,by simpa using c⟩,?_⟩
  let e:=↑r
  simp only[Ko] at e
  lia
theorem aH.tuple (I:aH X O8 σ H s)(h:a_ X.K H a xs):∃b:-N7,aZ xs b/\IsTup s.heap a b.toArray/\↑xs<=N9:=by
 rcases h with h|⟨o,b,n,d,f,c,g,r⟩
 ·let⟨z,b,r,p⟩:=h.ok I.hok
  show⟨b,r,p,z⟩
 ·show⟨b.toList,r,⟨o,I.kIn a o d,f,n,by simpa using c⟩,?_⟩
  let e:=↑r
  simp only[Ko] at e
  lia
theorem aH.list_inj (I:aH X O8 σ H s)(h:aN X.K H a xs)(h':aN X.K H a ys):xs=ys:=by
 let⟨b,r,⟨o,n,e,_,_,d⟩,_⟩:=I.list h
 let⟨its',g,⟨o',i,c,_,_,f⟩,_⟩:=I.list h'
 rw[e] at c;cases c
 rw[d] at f
 injection f with d1 _
 have:b=its':=by simpa using congrArg Array.toList d1
 subst this
 show r.inj g
theorem aH.tuple_inj (I:aH X O8 σ H s)(h:a_ X.K H a xs)(h':a_ X.K H a ys):xs=ys:=by
 let⟨b,r,⟨o,e,_,n,d⟩,_⟩:=I.tuple h
 let⟨its',g,⟨o',c,_,i,f⟩,_⟩:=I.tuple h'
 rw[e] at c;cases c
 rw[d] at f
 injection f with d1 _
 have:b=its':=by simpa using congrArg Array.toList d1
 subst this
 show r.inj g
end
abbrev Cx.wish (X:Cx) (E:N7->N_->Prop):Cx:={X with xe:=E}
abbrev Cx.nox (X:Cx):Cx:=X.wish λ_ _=>False
theorem Cx.Ok.wish (ok:X.Ok)(E:N7->N_->Prop):(X.wish E).Ok:=
 ⟨ok.mod,ok.kind,ok.glob,ok.blt,ok.above,ok.inj,ok.has,ok.cab,ok.hd,ok.frames,ok.stk,ok.exf,ok.bs,ok.bsz,ok.noex,ok.exfs,ok.funs,ok.frf⟩
theorem Cx.Ok.unwish (ok:(X.wish E).Ok):X.Ok:=
 ⟨ok.mod,ok.kind,ok.glob,ok.blt,ok.above,ok.inj,ok.has,ok.cab,ok.hd,ok.frames,ok.stk,ok.exf,ok.bs,ok.bsz,ok.noex,ok.exfs,ok.funs,ok.frf⟩
theorem aH.wish (I:aH X O8 σ H s)(E:N7->N_->Prop):aH (X.wish E) O8 σ H s:=⟨I.ok.wish E,I.os,I.bare,I.O_,I.loc,I.cell,I.free,I.freeC,I.pin,I.hok,I.len⟩
theorem aH.unwish (I:aH (X.wish E) O8 σ H s):aH X O8 σ H s:=⟨I.ok.unwish,I.os,I.bare,I.O_,I.loc,I.cell,I.free,I.freeC,I.pin,I.hok,I.len⟩
theorem SP.unwish{f:Flow}(h:SP (X.wish E) O8 D f s'):SP X O8 D f s':=by
 cases f with
 |next=>let⟨a,H',I,q⟩:=h;show⟨a,H',I.unwish,q⟩
 |brk=>let⟨a,H',I,q⟩:=h;show⟨a,H',I.unwish,q⟩
 |cont=>let⟨a,H',I,q⟩:=h;show⟨a,H',I.unwish,q⟩
 |ret u=>let⟨v,a,H',I,r,q⟩:=h;show⟨v,a,H',I.unwish,r,q⟩
theorem qN.nox{st:-Nn}(h:qN X.nox st t):qN X st t:=λO8 s σ H D I a=>
 Km (h O8 s σ H D (I.wish _) a) (λ_ _ q=>q.unwish) λ_ _ z=>False.elim z
section
variable {st:Nn} {rest:-Nn} {t u:TS} {e:Nw} {te:TE} {pos:O1}
def qU:TS:=λD σ H=>D.nx σ H
def eD (t u:TS):TS:=λD σ H=>t {D with nx:=u D} σ H
theorem h_:qN X [] qU:=λ_ _ σ H _ I h=>wpAny_execs_nil ⟨σ,H,I,h⟩
theorem au (h1:PS X st t)(b:qN X rest u):qN X (st::rest) (eD t u):=by
 intro O8 s σ H D I h
 show wpAny_execs_cons (bS (h1 O8 s σ H {D with nx:=u D} I h) λf s1 q=>?_)
 cases f with
 |next=>
  let⟨a,H',I',q⟩:=q
  show b O8 s1 a H' D I' q
 |ret v=>show q
 |brk=>show q
 |cont=>show q
theorem aW (h1:PS X st t):qN X [st] t:=by
 intro O8 s σ H D I h
 show wpAny_execs_cons (bS (h1 O8 s σ H D I h) λf s1 q=>?_)
 cases f with
 |next=>show wpAny_execs_nil q
 |ret v=>show q
 |brk=>show q
 |cont=>show q
def FL:TS:=λD σ H=>D.bk σ H
theorem ze:PS X (.Break pos) FL:=λ_ _ σ H _ I h=>wpAny_Break ⟨σ,H,I,h⟩
theorem aH.quiet (I:aH X O8 σ H s):interactive X.env=false:=by simp[interactive,I.ok.kind]
def zc (te:TE):TS:=λD σ H=>te σ H λ_ H1=>D.nx σ H1
theorem bj (c:PE X e te)(b:swapsWith e none pos.line X.env=pure false:=by rfl):PS X (.Expr e pos) (zc te):=by
 intro O8 s σ H D I h
 show wpAny_Expr_any (bS (c O8 s σ H _ I h) λv s1 a=>by let⟨x,H1,I1,f,d⟩:=a;show⟨σ,H1,I1,d⟩) I.quiet b
def z0 (te:TE):TS:=λD σ H=>te σ H D.rt
theorem aL (c:PE X e te):PS X (.Return (some e) pos) (z0 te):=by
 intro O8 s σ H D I h
 show wpAny_Return_some (bS (c O8 s σ H _ I h) λv s1 a=>by let⟨x,H1,I1,b,d⟩:=a;show⟨x,σ,H1,I1,b,d⟩)
def ly (c:TT) (t u:TS):TS:=λD σ H=>c σ H λb H1=>if b=true then t D σ H1 else u D σ H1
theorem m8(i:PT X c tc)(j:qN X a t)(g:qN X b u):PS X (.If c a b pos) (ly tc t u):=by
 intro O8 s σ H D I h
 show wpAny_If (bS (i O8 s σ H _ I h) λd s1 e=>?_)
 let⟨H1,I1,f⟩:=e
 cases d with
 |true=>show j O8 s1 σ H1 D I1 f
 |false=>show g O8 s1 σ H1 D I1 f
def Ff:TS:=λ_ _ _=>False
theorem cX:PS X st Ff:=λ_ _ _ _ _ _ h=>h.elim
end
abbrev TG:=V->St->Hp->(St->Hp->Prop)->Prop
abbrev Gg:=-V->St->Hp->(St->Hp->Prop)->Prop
def PG (X:Cx) (a:Nw) (t:TG):Prop:=
 ∀(O8:-(N8×Nv)) (s:N_) (σ:St) (H:Hp) (v:V) (u:N7) (Q:St->Hp->Prop),aH X O8 σ H s->a8 v u->t v σ H Q->
  Na (Nd X.prog X.w) X.A (assign a X.env u) (λ_ s'=>∃b H',aH X O8 b H' s'/\Q b H') X.xe s
def GE (X:Cx) (c:-Nw) (t:Gg):Prop:=
 ∀(O8:-(N8×Nv)) (s:N_) (σ:St) (H:Hp) (vs:-V) (b:-N7) (Q:St->Hp->Prop),aH X O8 σ H s->aZ vs b->t vs σ H Q->
  Na (Nd X.prog X.w) X.A (assignInOrder ((NY c X.env).map (·.2)) b) (λ_ s'=>∃a H',aH X O8 a H' s'/\Q a H') X.xe s
abbrev FK:=V->V->V->Hp->(Hp->Prop)->Prop
def G3 (X:Cx) (t:FK):Prop:=
 ∀(O8:-(N8×Nv)) (s:N_) (σ:St) (H:Hp) (o i v:V) (ov a u:N7) (Q:Hp->Prop),aH X O8 σ H s->a8 o ov->a8 i a->a8 v u->t o i v H Q->
  Na (Nd X.prog X.w) X.A (setItem ov a u) (λ_ s'=>∃H',aH X O8 σ H' s'/\Q H') X.xe s
section
variable {pos:O1}
def dH (i:Nat):TG:=λv σ H Q=>Q (σ.set i (some v)) H
theorem Dh(a:X.N.Nodup)(b:X.N[i]?>x)(hx:Gm X.env.scope x)(hf:X.fn x=true\/X.env.scope.names.lookup x>.local):PG X (.Name x pos) (dH i):=by
 intro O8 s σ H v u Q I r h
 show wpAny_assign_Name (qz I a b hx r (λs' I'=>⟨_,H,I',h⟩) hf)
def He:Gg:=λvs σ H Q=>vs=[]/\Q σ H
noncomputable def vm (t:TG) (u:Gg):Gg:=λvs σ H Q=>∃v r,vs=v::r/\t v σ H λa H'=>u r a H' Q
theorem bB:GE X [] He:=by
 intro O8 s σ H vs a Q I r h
 let⟨e,h⟩:=h
 subst e
 cases r
 show assignInOrder_nil ⟨σ,H,I,h⟩
theorem az(h1:PG X e t)(g:GE X es u)
  (c:(NY (e::es) X.env).map (·.2)=assign e X.env::(NY es X.env).map (·.2):=by rfl):GE X (e::es) (vm t u):=by
 intro O8 s σ H vs i Q I r h
 let⟨v,j,f,h⟩:=h
 subst f
 cases r with
 |cons r rr=>
  rw[c]
  show assignInOrder_cons (bS (h1 O8 s σ H _ _ _ I r h) λ_ s1 b=>?_)
  let⟨a,H1,I1,d⟩:=b
  show g O8 s1 a H1 _ _ Q I1 rr d
def Ga (K:JI) (n:Nat) (t:Gg):TG:=λv σ H Q=>∃a xs,v=.ref a/\a_ K H a xs/\↑xs=n/\t xs σ H Q
theorem cq(p:X.calm=true)(h:GE X es t)
  (q:↑(NY es X.env)=n:=by rfl) (d:(NY es X.env).findIdx? (·.1)=none:=by rfl):PG X (.Tuple es k pos) (Ga X.K n t):=by
 intro O8 s σ H v u Q I r f
 let⟨a,xs,m,hq,j,f⟩:=f
 subst m
 cases r
 let⟨c,g,ht,w⟩:=I.tuple hq
 show assign_Tuple_tuple (I.ok.hd p) ht (by simp[q,<-j,g.length]) d λh' i=>?_
 let l:aH X O8 σ H {s with heap:=h'}:=I.kept (t':=s.toks) λb o e=>i b o (JP (JN e)) e
 show h O8 _ σ H xs _ Q l (by simpa using g) f
def Ig (a b:TE) (t:FK):TG:=λv σ H Q=>a σ H λo H1=>b σ H1 λi H2=>t o i v H2 λH3=>Q σ H3
theorem g0{t:FK}(d:PE X o to)(j:PE X i ti)(e:G3 X t)
  (p:∀v,assign (.Subscript o i pos) X.env v=(do
   let ov<-holding [v] (eval o X.env)
   let b<-holding [v,ov] (eval i X.env)
   standAt pos
   holding [v,ov,b] (setItem ov b v)
   release [v,ov,b] []):=by intro _;rfl):PG X (.Subscript o i pos) (Ig to ti t):=by
 intro O8 s σ H v u Q I r h
 show JD (J_ (bS (d O8 s σ H _ I h) λov s1 a=>?_))
 let⟨x,H1,I1,c,g⟩:=a
 show JD (J_ (bS (j O8 s1 σ H1 _ I1 g) λb k a=>?_))
 let⟨y,H2,I2,l,f⟩:=a
 show JD (wpAny_standAt (JD (J_ (bS (e O8 k σ H2 x y v ov b u _ I2 c l r f) λ_ n a=>?_))))
 let⟨H3,I3,m⟩:=a
 show wpAny_release ⟨σ,H3,I3,m⟩
def iC (te:TE) (g:TG):TS:=λD σ H=>te σ H λx H1=>g x σ H1 D.nx
theorem eK(i:PE X e te)(j:PG X tg g)(c:swapsWithSole [tg] e pos.line X.env=pure false:=by rfl)(f:swappedStores [tg] e X.env=pure none:=by rfl)
  (h1:(NY [tg] X.env).map (·.2)=[assign tg X.env]:=by rfl):PS X (.Assign [tg] e pos) (iC te g):=by
 intro O8 s σ H D I h
 show wpAny_Assign_stores (bS (i O8 s σ H _ I h) λv s1 a=>?_) c f
 let⟨x,H1,I1,b,d⟩:=a
 rw[h1]
 show bS (j O8 s1 σ H1 x v _ I1 b d) λ_ k q=>q
theorem FV(d:X.N.Nodup)(j:X.N[i]?>x)(hx:Gm X.env.scope x)(g:PE X e te)(c:swapsWith e (some (.Name x pos')) pos.line X.env=pure false:=by rfl)(hf:X.fn x=true\/X.env.scope.names.lookup x>.local):
  PS X (.Assign [.Name x pos'] e pos) (iC te (dH i)):=by
 intro O8 s σ H D I h
 show wpAny_Assign_Name (bS (g O8 s σ H _ I h) λv s1 a=>?_) c
 let⟨y,H1,I1,b,f⟩:=a
 show qz I1 d j hx b (λk I2=>⟨_,H1,I2,f⟩) hf
end
section
variable {pos:O1}
def sQ (c:TT) (e:TS):TS:=λD σ H=>∃W:Nat->St->Hp->Prop,(∃m,W m σ H)/\∀m σ H,W m σ H->
 c σ H λb H1=>if b=true then∃N:St->Hp->Prop,(∀a H',N a H'->∃d,d<m/\W d a H')/\e {D with nx:=N,ct:=N,bk:=D.nx} σ H1 else D.nx σ H1
theorem fH(o:NN (Nd X.prog X.w) X.A X.env X.xe)(y:PT X c tc)(u:qN X body tb):PS X (.While c body [] pos) (sQ tc tb):=by
 intro O8 s σ H D I h
 let⟨W,⟨r,q⟩,turn⟩:=h
 show wpAny_While (codeAny_whileLoop (λn s'=>∃e H',aH X O8 e H' s'/\W n e H') ?_ r ⟨σ,H,I,q⟩)
 rintro n s1 ⟨d,H1,I1,x⟩
 show LR o (bS (y O8 s1 d H1 _ I1 (turn n d H1 x)) λb z j=>?_)
 let⟨H2,I2,g⟩:=j
 cases b with
 |true=>
  let⟨N,p,g⟩:=g
  rw[N1 Z]
  show LR o (bS (u O8 z d H2 _ I2 g) λf B i=>?_)
  cases f with
  |next=>
   let⟨a,H3,I3,l⟩:=i
   let⟨k,hm,m⟩:=p a H3 l
   show⟨k,hm,a,H3,I3,m⟩
  |cont=>
   let⟨a,H3,I3,l⟩:=i
   let⟨k,hm,m⟩:=p a H3 l
   show⟨k,hm,a,H3,I3,m⟩
  |brk=>show i
  |ret v=>show i
 |false=>
  rw[N0 JR]
  show wpAny_execs_nil ⟨d,H2,I2,g⟩
end
structure It where
 go:Nat->Hp->Prop
 yld:Nat->Hp->V->Hp->Prop
 stop:Nat->Hp->Prop
def iu (X:Cx) (O8:-(N8×Nv)) (H:Hp) (b:N8):Prop:=
 H b=none/\b≠X.env.locals/\b∉X.fs/\(b∈X.ex\/~~~X.s₀<=b)/\(∀x c,X.env.cells.lookup x>c->c≠b)/\∀p∈X.pn++O8,p.1≠b
theorem aH.turnedFp {h':Ng}{t':Nat}{fp:-N8}(I:aH X O8 σ H s)(hf:∀b∈fp,iu X O8 H b)(k:∀b u,b∉fp->s.heap.get? b>u->h'.get? b>u):aH X O8 σ H {s with heap:=h',toks:=t'}:=by
 show I.step (g':=s.gens) (d':=s.drawn) (t':=t') (h':=h') (ch:=fp) (λb hb=>⟨(hf b hb).2.2.2.1,(hf b hb).2.1,(hf b hb).2.2.2.2.1,(hf b hb).2.2.2.2.2⟩) (λb u _ _ hc' q _=>k b u hc' q) (λb u _ _ hc' q _=>⟨u.slots,k b u hc' q⟩) (λb u _ _ n=>n) (λb u hc' q=>⟨u,k b u hc' q⟩) (λb xs q=>q) (λb u xs q=>q) (λb ps q=>⟨#[],by rw[q];simp⟩) (λm hm=>?_) (λb u q=>?_) I.bare
 ·let⟨o',es,ep,f,r⟩:=hm
  show⟨o',es,ep,k _ o' (λz=>(hf _ z).2.1 Z) f,r⟩
 ·let yf:∀c u,H c>u->c∉fp:=λc u e z=>by rw[(hf c z).1] at e;cases e
  show(I.hok b u q).stay (λc v hc' e=>?_) (λ_ e=>e) λ_ _ e=>e
  let d:∃u',H c>u':=by
   rcases hc' with rfl|hc'
   ·show⟨_,q⟩
   ·show⟨_,hc'⟩
  let⟨u',a⟩:=d
  show k c v (yf c u' a) e
theorem aH.turned{it:N8}(I:aH X O8 σ H s)(hf:∀b∈[it],iu X O8 H b)(k:∀b u,b≠it->s.heap.get? b>u->h'.get? b>u):aH X O8 σ H {s with heap:=h',toks:=t'}:=I.turnedFp hf λb u hb=>k b u λz=>hb (by simp[z])
theorem aH.fpOk(I:aH X O8 σ H s)(a: ~~~s<=b)(d:H' b=none):iu X O8 H' b:=by
 show⟨d,Kx (Kg I.lt a),I.nofs a,.inr (J1 I.sz a),λx c e z=>?_,λp hp z=>?_⟩
 ·let⟨v,q⟩:=I.cell x c e
  show absurd (Kg q.lt (z<|a)) (Ku _)
 ·show absurd (Kg (JN (I.pin p hp).1) (z<|a)) (Ku _)
structure md (P:Ni) (w:Nr) (K:JI) (tg:Nw) (J:It) (fp:-N8) (it:N8) (tn:Nat->Ng->Prop):Prop where
 mem:it∈fp
 obj:∀i h,tn i h->∀b∈fp,∃o,h.get? b>o/\∀v,o.data≠.cell v
 keep:∀i h h',tn i h->(∀b∈fp,∀o,h.get? b>o->h'.get? b>o)->tn i h'
 item:∀(X:Cx),X.prog=P->X.w=w->X.K=K->X.calm=true->∀(i:Nat) (O8:-(N8×Nv)) (s:N_) (σ:St) (H:Hp) (E:N7->N_->Prop),aH X O8 σ H s->(∀b∈fp,iu X O8 H b)->tn i s.heap->J.go i H->
  Na (Nd P w) X.A (NG (.ref it)) (λr s1=>∃u,r>u/\
   Na (Nd P w) X.A (letOwnedTupleGo tg (.ref it) u) (λ_ s2=>∃x H',aH X O8 σ H' s2/\a8 x u/\J.yld i H x H'/\tn (i+1) s2.heap/\∀b∈fp,H' b=none) E s1) E s
 done:∀(X:Cx),X.prog=P->X.w=w->X.K=K->X.calm=true->∀(i:Nat) (O8:-(N8×Nv)) (s:N_) (σ:St) (H:Hp) (E:N7->N_->Prop),aH X O8 σ H s->(∀b∈fp,iu X O8 H b)->tn i s.heap->J.stop i H->
  Na (Nd P w) X.A (NG (.ref it)) (λr s1=>r=none/\aH X O8 σ H s1) E s
 self:∀(A:Nu) (i:Nat) (s:N_) (Q:N7->N_->Prop) (E:N7->N_->Prop),tn i s.heap->Q (.ref it) s->Na (Nd P w) A (pyIter (.ref it)) Q E s
abbrev TI:=St->Hp->(It->Hp->Prop)->Prop
def Jn (X:Cx) (O8:-(N8×Nv)) (σ:St) (e:Nw) (R:It->Hp->Prop) (a:N7) (d:N_):Prop:=
 ∃(it:N8) (fp:-N8) (c:Nat->Ng->Prop) (J:It) (H':Hp),a=.ref it/\aH X O8 σ H' d/\md X.prog X.w X.K e J fp it c/\c 0 d.heap/\(∀b∈fp,iu X O8 H' b)/\R J H'
def PI (X:Cx) (c a:Nw) (b:TI):Prop:=
 ∀(O8:-(N8×Nv)) (s:N_) (σ:St) (H:Hp) (R:It->Hp->Prop),aH X O8 σ H s->b σ H R->
  Na (Nd X.prog X.w) X.A (eval a X.env) (λv s1=>Na (Nd X.prog X.w) X.A (pyIter v) (Jn X O8 σ c R) X.xe s1) X.xe s
theorem rG{it:N8}{Q:Unit->N_->Prop}(b:s.heap.get? it>o)(c:o.cls=.type n)(hd:o.data=.fields vs)
  (d:["enumerate", "zip", "dict_itemiterator", "dict_reverseitemiterator", "odict_iterator", "itertools.zip_longest", "itertools.pairwise"].contains n=false) (a:Q Unit.unit s):Na M A (letOwnedTupleGo tg (.ref it) u) Q E s:=by
 cases tg<;>first
  |show JE a
  |(cases u<;>first
    |show JE a
    |(show JD (wpAny_load b ?_)
      rw[c,hd]
      change Na M A (if (["enumerate", "zip", "dict_itemiterator", "dict_reverseitemiterator", "odict_iterator", "itertools.zip_longest", "itertools.pairwise"].contains n&&vs[0]?==some (NI _))=true then _ else _) Q E s
      rw[N0 (by intro h;rw[d,Bool.false_and] at h;cases h)]
      show JE a))
noncomputable def Gj (K:JI) (a:N8):It:=
 ⟨λi H=>∃xs x,aN K H a xs/\xs[i]?>x,λi H x H'=>H'=H/\∀xs,aN K H a xs->xs[i]?>x,λi H=>∃xs,aN K H a xs/\↑xs<=i⟩
noncomputable def HG (K:JI) (a:N8):It:=
 ⟨λi H=>∃xs x,a_ K H a xs/\xs[i]?>x,λi H x H'=>H'=H/\∀xs,a_ K H a xs->xs[i]?>x,λi H=>∃xs,a_ K H a xs/\↑xs<=i⟩
noncomputable def Dq (lo:Int) (n:Nat):It:=⟨λi _=>i<n,λi H x H'=>H'=H/\x=.int (lo+i),λi _=>n<=i⟩
theorem wY {P:Ni}{J:Nw}(a it:N8):md P w K J (Gj K a) [it] it (λi h=>h.IsListIter it a i) where
 mem:=by simp
 obj:=λi h st b hb=>by
  let e:b=it:=by simpa using hb
  subst e
  let⟨o,e,c,d⟩:=st
  show⟨o,e,λv z=>by rw[d] at z;cases z⟩
 keep:=λi h h' st k=>st.at λo e=>k it (by simp) o e
 item:=by
  intro X n m l r i O8 s σ H E I hf st hg
  subst n m l
  let⟨xs,x,hq,j⟩:=hg
  let⟨f,q,p,D⟩:=I.list hq
  let⟨u,A,F⟩:=q.get j
  show wpAny_pyNext_list_item st p.isList (x:=u) (by simpa using A) λh' g sb=>?_
  let C:aH X O8 σ H {s with heap:=h'}:=I.turned (t':=s.toks) hf (λb o hb e=>(sb.2 b hb).trans e)
  let⟨o,e,c,d⟩:=id g
  show⟨u,Z,rG (s:={s with heap:=h'}) e c d (by decide) ⟨x,H,C,F,⟨Z,λys y=>by rw[I.list_inj y hq];show j⟩,g,λb hb=>(hf b hb).1⟩⟩
 done:=by
  intro X n m l r i O8 s σ H E I hf st hg
  subst n m l
  let⟨xs,hq,j⟩:=hg
  let⟨f,q,p,D⟩:=I.list hq
  let L:=↑q
  show wpAny_pyNext_list_end (I.ok.hd r) st p.isList (by simp;lia) λh' B=>⟨Z,I.turned (t':=s.toks) hf (λb o hb e=>B b o hb e)⟩
 self:=λ_ _ _ _ _ st h=>wpAny_pyIter_listiter st h
theorem ua {P:Ni}{J:Nw}(a it:N8):md P w K J (HG K a) [it] it (λi h=>h.IsTupleIter it a i) where
 mem:=by simp
 obj:=λi h st b hb=>by
  let e:b=it:=by simpa using hb
  subst e
  let⟨o,e,c,d⟩:=st
  show⟨o,e,λv z=>by rw[d] at z;cases z⟩
 keep:=λi h h' st k=>st.at λo e=>k it (by simp) o e
 item:=by
  intro X n m l r i O8 s σ H E I hf st hg
  subst n m l
  let⟨xs,x,hq,j⟩:=hg
  let⟨f,q,p,D⟩:=I.tuple hq
  let⟨u,A,F⟩:=q.get j
  show wpAny_pyNext_tuple_item st (show s.heap.IsTuple a f.toArray from p) (x:=u) (by simpa using A) λh' g sb=>?_
  let C:aH X O8 σ H {s with heap:=h'}:=I.turned (t':=s.toks) hf (λb o hb e=>(sb.2 b hb).trans e)
  let⟨o,e,c,d⟩:=id g
  show⟨u,Z,rG (s:={s with heap:=h'}) e c d (by decide) ⟨x,H,C,F,⟨Z,λys y=>by rw[I.tuple_inj y hq];show j⟩,g,λb hb=>(hf b hb).1⟩⟩
 done:=by
  intro X n m l r i O8 s σ H E I hf st hg
  subst n m l
  let⟨xs,hq,j⟩:=hg
  let⟨f,q,p,D⟩:=I.tuple hq
  let L:=↑q
  show wpAny_pyNext_tuple_end (I.ok.hd r) st (show s.heap.IsTuple a f.toArray from p) (by simp;lia) λh' B=>⟨Z,I.turned (t':=s.toks) hf (λb o hb e=>B b o hb e)⟩
 self:=λ_ _ _ _ _ st h=>wpAny_pyIter_tupleiter st h
theorem sx {P:Ni}{r:Nw}(it:N8)(lo:Int)(n:Nat):md P w K r (Dq lo n) [it] it (λi h=>IsRangeIter h it (lo+(i:Nat)*1) ((n:Int) - (i:Nat)) 1) where
 mem:=by simp
 obj:=λi h st b hb=>by
  let e:b=it:=by simpa using hb
  subst e
  show⟨_,st,λv z=>by
   let l:Data.fields _=Data.cell v:=z
   cases l⟩
 keep:=λi h h' st k=>k it (by simp) _ st
 item:=by
  intro X g f d c i O8 s σ H E I hf st hg
  subst g f d
  let W:=Walks.range (prog:=X.prog) (w:=X.w) (I.ok.hd c) it lo 1 n
  show W.item i s _ _ hg st λv h' tk q a m=>?_
  let⟨t,rfl⟩:=q
  let p:aH X O8 σ H {s with heap:=h',toks:=tk}:=I.turned hf (λb o hb e=>m b o (by simpa using hb) e)
  show⟨_,Z,rG (s:={s with heap:=h',toks:=tk}) (n:= "range_iterator") a Z Z (by decide) ⟨.int (lo+i),H,p,⟨t,?_⟩,⟨Z,Z⟩,a,λb hb=>(hf b hb).1⟩⟩
  rw[Int.mul_one]
 done:=by
  intro X g f d c i O8 s σ H E I hf st hg
  show wpAny_pyNext_range_end (I.ok.hd c) st (by have:n<=i:=hg;lia) λh' j=>⟨Z,I.turned (t':=s.toks) hf (λb o hb e=>j b o hb e)⟩
 self:=λ_ _ _ _ _ st h=>wpAny_pyIter_rangeiter st h
section
variable {tg:Nw}
def qY (K:JI) (b:TE):TI:=λσ H R=>b σ H λx H1=>∃a,x=.ref a/\(∃xs,aN K H1 a xs)/\R (Gj K a) H1
def IS (K:JI) (b:TE):TI:=λσ H R=>b σ H λx H1=>∃a,x=.ref a/\(∃xs,a_ K H1 a xs)/\R (HG K a) H1
theorem aY(g:PE X l tl):PI X tg l (qY X.K tl):=by
 intro O8 s σ H R I h
 show bS (g O8 s σ H _ I h) λv s1 d=>?_
 let⟨x,H1,I1,f,i⟩:=d
 let⟨a,e,⟨xs,hq⟩,q⟩:=i
 subst e
 cases f
 let⟨c,k,p,j⟩:=I1.list hq
 show L4 p.isList ?_
 show⟨~~~s1,[~~~s1],_,_,H1,Z,I1.kept (t':=s1.toks) λb o e=>JK _ e,wY a _,⟨_,JT _ Z,Z,Z⟩,λb hb=>?_,q⟩
 let e:b= ~~~s1:=by simpa using hb
 subst e
 show I1.fpOk (JG _) (I1.hok.fresh (JG _))
theorem Eu(g:PE X l tl):PI X tg l (IS X.K tl):=by
 intro O8 s σ H R I h
 show bS (g O8 s σ H _ I h) λv s1 d=>?_
 let⟨x,H1,I1,f,i⟩:=d
 let⟨a,e,⟨xs,hq⟩,q⟩:=i
 subst e
 cases f
 let⟨c,k,p,j⟩:=I1.tuple hq
 show wpAny_pyIter_tuple (show s1.heap.IsTuple a c.toArray from p) ?_
 show⟨~~~s1,[~~~s1],_,_,H1,Z,I1.kept (t':=s1.toks) λb o e=>JK _ e,ua a _,⟨_,JT _ Z,Z,Z⟩,λb hb=>?_,q⟩
 let e:b= ~~~s1:=by simpa using hb
 subst e
 show I1.fpOk (JG _) (I1.hok.fresh (JG _))
theorem qB {R:It->Hp->Prop}{lo a:Int}{t u v:Tok}{tk:Nat}(I:aH X O8 σ H s)(h1: -2^62<=lo)(i:lo<2^62)(h: -2^62<=a)(d:a<2^62)
  (q:R (Dq lo (a - lo).toNat) H):Na (Nd X.prog X.w) X.A (pyIter (.ref (~~~s))) (Jn X O8 σ tg R) E {s with heap:=s.heap.push {cls:=.type "range",data:=.fields #[.int lo t,.int a u,.int 1 v]},toks:=tk}:=by
 show wpAny_pyIter_range (IsRange.new ..) (small_one h1 i h d) ?_
 let c:aH X O8 σ H {s with heap:=s.heap.push {cls:=.type "range",data:=.fields #[.int lo t,.int a u,.int 1 v]},toks:=tk}:=I.kept λb o e=>JK _ e
 show⟨(s.heap.push {cls:=.type "range",data:=.fields #[.int lo t,.int a u,.int 1 v]}).objs.size,[(s.heap.push {cls:=.type "range",data:=.fields #[.int lo t,.int a u,.int 1 v]}).objs.size],_,_,H,Z,
  c.kept (t':=tk) λb o e=>JK _ e,sx _ lo (a - lo).toNat,?_,λb hb=>?_,q⟩
 ·let g:lo+((0:Nat):Int)*1=lo:=by simp
  let f:(((a - lo).toNat:Nat):Int) - ((0:Nat):Int)=Nc.Range.rangeSize lo a 1:=by rw[rangeSize_one];split<;>lia
  rw[g,f]
  show JT _ Z
 ·let e:b=(s.heap.push {cls:=.type "range",data:=.fields #[.int lo t,.int a u,.int 1 v]}).objs.size:=by simpa using hb
  subst e
  show c.fpOk (JG _) (c.hok.fresh (JG _))
def qo (a:TA):TI:=λσ H R=>a σ H λvs H1=>∃j:Int,vs=[.int j]/\ -2^62<=j/\j<2^62/\R (Dq 0 j.toNat) H1
def DE (a:TA):TI:=λσ H R=>a σ H λvs H1=>∃i j:Int,vs=[.int i,.int j]/\(-2^62<=i/\i<2^62/\ -2^62<=j/\j<2^62)/\R (Dq i (j - i).toNat) H1
theorem wX(l:Gl X "range")(i:X.mg "range" =none)(k:PA X [a] ta)(f:Nf [a] X.env=[(false,eval a X.env)]:=by rfl):PI X tg (.Call (.Name "range" p) [a] [] pos) (qo ta):=by
 intro O8 s σ H R I h
 show Call_ (fW I l i boot_range (PyProof.Rows.callWith_type1 (bS (k pos O8 s σ H _ I h) λm s1 b=>?_) f Z))
 let⟨vs,H1,I1,d,c⟩:=b
 let⟨j,e,c,g,q⟩:=c
 subst e
 cases d with
 |cons r rr=>
  cases rr
  let⟨t,rfl⟩:=r
  show call_range_1 (qB I1 () () c g (by simpa using q))
theorem nQ(v:Gl X "range")(n:X.mg "range" =none)(o:PA X [a,b] ta)(k:Nf [a,b] X.env=[(false,eval a X.env),(false,eval b X.env)]:=by rfl)(c:Nf [b] X.env=[(false,eval b X.env)]:=by rfl):
  PI X tg (.Call (.Name "range" p) [a,b] [] pos) (DE ta):=by
 intro O8 s σ H R I h
 show Call_ (fW I v n boot_range (PyProof.Rows.callWith_type1 (bS (o pos O8 s σ H _ I h) λx s1 d=>?_) (by rw[k,c]) (by rw[c];rfl)))
 let⟨vs,H1,I1,g,f⟩:=d
 let⟨i,j,e,⟨f,l,u,m⟩,q⟩:=f
 subst e
 cases g with
 |cons r rr=>
  cases rr with
  |cons r' rr=>
   cases rr
   let⟨t,rfl⟩:=r
   let⟨w,rfl⟩:=r'
   show call_range_2 (qB I1 f l u m q)
abbrev SV:=(St->Hp->Prop)->V->St->Hp->Prop
def xZ (J:It) (σ:St) (H:Hp) (S:SV) (F:St->Hp->Prop):Prop:=∃W:Nat->Nat->St->Hp->Prop,(∃m,W 0 m σ H)/\∀i m σ H,W i m σ H->(J.stop i H/\F σ H)\/(J.go i H/\∃N:St->Hp->Prop,(∀a H',N a H'->∃b,b<m/\W (i+1) b a H')/\∀x H',J.yld i H x H'->S N x σ H')
abbrev sF (g:TG) (tb:TS) (D:gV):SV:=λN x σ H=>g x σ H λσ2 H2=>tb {D with nx:=N,ct:=N,bk:=D.nx} σ2 H2
def iR (b:TI) (g:TG) (a:TS):TS:=λD σ H=>b σ H λJ H1=>xZ J σ H1 (sF g a D) D.nx
noncomputable def lM (fp:-N8) (h:Ng):-(N8×Nv):=fp.filterMap λb=>(h.get? b).map λo=>(b,o)
theorem gw(a:b∈fp)(e:h.get? b>o):(b,o)∈lM fp h:=Lg.mpr ⟨b,a,by rw[e];rfl⟩
theorem xj{p:N8×Nv}(a:p∈lM fp h):p.1∈fp/\h.get? p.1>p.2:=by
 let⟨b,hb,e⟩:=Lg.mp a
 cases q:h.get? b with
 |none=>rw[q] at e;cases e
 |some o=>
  rw[q] at e
  let c:(b,o)=p:=Option.some.inj e
  subst c
  show⟨hb,q⟩
theorem aH.pinned(I:aH X O8 σ H s)(hf:∀b∈fp,iu X O8 H b)(c:∀b∈fp,∃o,s.heap.get? b>o/\∀v,o.data≠.cell v):aH X (O8++lM fp s.heap) σ H s:=
 I.pins_of λp hp=>(J3.mp hp).elim (λz=>I.pin p (KF _ z)) λz=>by
  let⟨hb,e⟩:=xj z
  let⟨g,h,f,_⟩:=hf p.1 hb
  let⟨o,a,d⟩:=c p.1 hb
  rw[e] at a;cases a
  show⟨e,g,h,f,d⟩
theorem aH.unpinned {pl:-(N8×Nv)}(I:aH X (O8++pl) σ H s):aH X O8 σ H s:=I.pins_of λp hp=>I.pin p (KF _ (LP _ hp))
theorem EF(L:NN (Nd X.prog X.w) X.A X.env X.xe)(U:X.calm=true)(hi:PI X tg iter wi)(hg:PG X tg g)(B:qN X body tb)
  (hs:∀x,NJ iter X.env x=pure x:=by intro _;rfl):PS X (.For tg iter body [] pos) (iR wi g tb):=by
 intro O8 s σ H D I h
 show wpAny_For (bS (hi O8 s σ H _ I h) λv s1 h1=>bS h1 λam s2 h2=>?_) hs
 let⟨it,fp,R,J,H2,e,I2,T,q,Y,W,⟨m0,w0⟩,turn⟩:=h2
 subst e
 let a:∀{H':Hp},(∀b∈fp,H' b=none)->∀b∈fp,iu X O8 H' b:=λhn b B=>⟨hn b B,(Y b B).2⟩
 show codeAny_forLoop_any (λn s'=>∃i C H',aH X O8 C H' s'/\R i s'.heap/\(∀b∈fp,H' b=none)/\W i n C H') ?_ m0 ⟨0,σ,H2,I2,q,λb B=>(Y b B).1,w0⟩
 rintro n S ⟨i,E,H3,I3,l,k,w3⟩
 rcases turn i n E H3 w3 with ⟨K,qn⟩|⟨go,N,hN,step⟩
 ·show LR L (bS (T.done X Z Z Z U i O8 S E H3 X.xe I3 (a k) l K) λr s4 z=>?_)
  let⟨hr,I4⟩:=z
  subst hr
  show wpAny_execs_nil ⟨E,H3,I4,qn⟩
 ·show LR L (bS (T.item X Z Z Z U i O8 S E H3 X.xe I3 (a k) l go) λr s4 z=>?_)
  let⟨u,hr,h4⟩:=z
  subst hr
  show LR L (bS h4 λ_ Z0 z=>?_)
  let⟨x,H5,I5,r5,y5,j,p⟩:=z
  let Q:=I5.pinned (a p) (T.obj _ _ j)
  show LR L (bS (hg _ Z0 E H5 x u _ Q r5 (step x H5 y5)) λ_ s6 z=>?_)
  let⟨P,H6,I6,q6⟩:=z
  show LR L (bS (B _ s6 P H6 _ I6 q6) λf O F=>?_)
  let c:∀{y:St} {H7:Hp},aH X (O8++lM fp Z0.heap) y H7 O->N y H7->∃m,m<n/\∃i C H',aH X O8 C H' O/\R i O.heap/\(∀b∈fp,H' b=none)/\W i m C H':=fun{y H7} I7 M=>by
   let⟨m',hm,w7⟩:=hN y H7 M
   show⟨m',hm,i+1,y,H7,I7.unpinned,T.keep _ _ _ j λb B o e=>(I7.pin (b,o) (KF _ (KF _ (gw B e)))).1,λb B=>?_,w7⟩
   let⟨o,e,d⟩:=T.obj _ _ j b B
   show(I7.pin (b,o) (KF _ (KF _ (gw B e)))).2.1
  cases f with
  |next=>let⟨y,H7,I7,M⟩:=F;show c I7 M
  |cont=>let⟨y,H7,I7,M⟩:=F;show c I7 M
  |brk=>let⟨y,H7,I7,F⟩:=F;show⟨y,H7,I7.unpinned,F⟩
  |ret v=>let⟨x7,y,H7,I7,r7,F⟩:=F;show⟨x7,y,H7,I7.unpinned,r7,F⟩
end
theorem gp{S:SV}(n:Nat)(a:Nat->St->Hp->Prop)(h0:a 0 σ H)(b:∀i σ H,i<n->a i σ H->J.go i H/\∀x H',J.yld i H x H'->S (a (i+1)) x σ H')(hd:∀σ H,a n σ H->J.stop n H/\F σ H):xZ J σ H S F:=by
 show⟨λi m σ H=>m=n - i/\i<=n/\a i σ H,⟨n,by simp,J4 _,h0⟩,?_⟩
 rintro i m σ H ⟨rfl,hi,p⟩
 by_cases hlt:i<n
 ·let⟨h1,h2⟩:=b i σ H hlt p
  show .inr ⟨h1,a (i+1),λd H' c=>⟨n - (i+1),(),Z,hlt,c⟩,h2⟩
 ·obtain rfl:i=n:=by lia
  show .inl (hd σ H p)
theorem aK {a:N8}{xs:-V}{S:SV}{F:St->Hp->Prop}(b:Nat->St->Hp->Prop)(h0:b 0 σ H)(c:∀i σ H,i<=↑xs->b i σ H->aN K H a xs)(d:∀i x σ H,xs[i]?>x->b i σ H->S (b (i+1)) x σ H)(hd:∀σ H,b ↑xs σ H->F σ H):xZ (Gj K a) σ H S F:=by
 show gp ↑xs b h0 (λi σ H hi p=>⟨⟨xs,xs[i],c i σ H (Kh hi) p,by simp[hi]⟩,?_⟩) λσ H p=>⟨⟨xs,c _ σ H (JG _) p,JG _⟩,hd σ H p⟩
 rintro x _ ⟨rfl,y⟩
 show d i x σ _ (y xs (c i σ _ (Kh hi) p)) p
theorem cO {lo:Int}{n:Nat}{S:SV}{F:St->Hp->Prop}(a:Nat->St->Hp->Prop)(h0:a 0 σ H)(b:∀i σ H,i<n->a i σ H->S (a (i+1)) (.int (lo+i)) σ H)(hd:∀σ H,a n σ H->F σ H):xZ (Dq lo n) σ H S F:=by
 show gp n a h0 (λi σ H hi p=>⟨hi,?_⟩) λσ H p=>⟨JG _,hd σ H p⟩
 rintro x _ ⟨rfl,rfl⟩
 show b i σ _ hi p
abbrev R2:=V->V->Hp->VK->Prop
def gj (X:Cx) (f:N7->N7->Sem N7) (r:R2):Prop:=
 ∀(O8:-(N8×Nv)) (s:N_) (σ:St) (H:Hp) (x y:V) (v u:N7) (Q:VK),aH X O8 σ H s->a8 x v->a8 y u->r x y H Q->
  Na (Nd X.prog X.w) X.A (f v u) (EP X O8 σ Q) X.xe s
def Ir (X:Cx) (f:N7->Sem N7) (r:V->Hp->VK->Prop):Prop:=
 ∀(O8:-(N8×Nv)) (s:N_) (σ:St) (H:Hp) (x:V) (v:N7) (Q:VK),aH X O8 σ H s->a8 x v->r x H Q->
  Na (Nd X.prog X.w) X.A (f v) (EP X O8 σ Q) X.xe s
def cy (X:Cx) (f:N7) (r:-V->Hp->VK->Prop):Prop:=
 ∀(O8:-(N8×Nv)) (s:N_) (σ:St) (H:Hp) (xs:-V) (a:-N7) (Q:VK),aH X O8 σ H s->aZ xs a->r xs H Q->
  Na (Nd X.prog X.w) X.A (call f a) (EP X O8 σ Q) X.xe s
def e9 (r:R2) (a b:TE):TE:=λσ H Q=>a σ H λx H1=>b σ H1 λy H2=>r x y H2 Q
def IC (r:V->Hp->VK->Prop) (a:TE):TE:=λσ H Q=>a σ H λx H1=>r x H1 Q
def rI (C:Int->Int->Prop) (g:Int->Int->V):R2:=λx y H Q=>∃i j,x=.int i/\y=.int j/\C i j/\Q (g i j) H
def sI (g:Int->Int->V):R2:=λx y H Q=>∃i j,x=.int i/\y=.int j/\Q (g i j) H
def rU (g:Int->V):V->Hp->VK->Prop:=λx H Q=>∃i,x=.int i/\Q (g i) H
section
variable {a b c:Nw} {ta tb tc:TE} {pos:O1}
theorem FJ (j:PE X a ta)(m:PE X b tb){R:V->V->Hp->Prop}(I:aH X O8 σ H s)
  (h:ta σ H λx H1=>tb σ H1 λy H2=>R x y H2) {Q:N7->N_->Prop} {f:N7->N7->Sem N7}
  (hf:∀v u g x y H2,aH X O8 σ H2 g->a8 x v->a8 y u->R x y H2->Na (Nd X.prog X.w) X.A (f v u) Q X.xe g):
  Na (Nd X.prog X.w) X.A (eval a X.env) (λv d=>Na (Nd X.prog X.w) X.A (eval b X.env) (λu e=>Na (Nd X.prog X.w) X.A (f v u) Q X.xe e) X.xe d) X.xe s:=by
 show bS (j O8 s σ H _ I h) λv s1 c=>?_
 let⟨x,H1,I1,i,l⟩:=c
 show bS (m O8 s1 σ H1 _ I1 l) λu g c=>?_
 let⟨y,H2,I2,n,k⟩:=c
 show hf v u g x y H2 I2 i n k
theorem aA(d:gj X (binaryOp op) r)(c:PE X a ta)(e:PE X b tb):PE X (.BinOp a op b pos) (e9 r ta tb):=by
 intro O8 s σ H Q I h
 show wpAny_BinOp (FJ c e I h λv u i x y H2 I2 f g q=>d O8 i σ H2 x y v u Q I2 f g q)
theorem yI {op:UnaryOp}{r:V->Hp->VK->Prop}(d:Ir X (unaryOp op) r)(e:PE X a ta):PE X (.UnaryOp op a pos) (IC r ta):=by
 intro O8 s σ H Q I h
 show UnaryOp_ (bS (e O8 s σ H _ I h) λv s1 b=>by let⟨x,H1,I1,c,f⟩:=b;show d O8 s1 σ H1 x v Q I1 c f)
theorem Ho {f:N7->N7->Sem N7}{C:Int->Int->Prop}{g:Int->Int->Int}
  (a:∀(i j:Int) (t u:Tok) (s:N_) (Q:N7->N_->Prop) (E:N7->N_->Prop),C i j->Q (.int (g i j) s.toks) {s with toks:=s.toks+1}->Na (Nd X.prog X.w) X.A (f (.int i t) (.int j u)) Q E s):
  gj X f (rI C λi j=> .int (g i j)):=by
 intro O8 s σ H x y v u Q I c d h
 let⟨i,j,rfl,rfl,e,q⟩:=h
 let⟨t,rfl⟩:=c
 let⟨b,rfl⟩:=d
 show a i j t b s _ _ e ⟨.int (g i j),H,I.tok _,⟨_,Z⟩,q⟩
theorem Hi {f:N7->N7->Sem N7}{g:Int->Int->Int}
  (a:∀(i j:Int) (t u:Tok) (s:N_) (Q:N7->N_->Prop) (E:N7->N_->Prop),Q (.int (g i j) s.toks) {s with toks:=s.toks+1}->Na (Nd X.prog X.w) X.A (f (.int i t) (.int j u)) Q E s):
  gj X f (sI λi j=> .int (g i j)):=by
 intro O8 s σ H x y v u Q I c d h
 let⟨i,j,rfl,rfl,q⟩:=h
 let⟨t,rfl⟩:=c
 let⟨b,rfl⟩:=d
 show a i j t b s _ _ ⟨.int (g i j),H,I.tok _,⟨_,Z⟩,q⟩
theorem Di {f:N7->N7->Sem N7}{g:Int->Int->Bool}
  (a:∀(i j:Int) (t u:Tok) (s:N_) (Q:N7->N_->Prop) (E:N7->N_->Prop),Q (.bool (g i j)) s->Na (Nd X.prog X.w) X.A (f (.int i t) (.int j u)) Q E s):
  gj X f (sI λi j=> .bl (g i j)):=by
 intro O8 s σ H x y v u Q I c d h
 let⟨i,j,rfl,rfl,q⟩:=h
 let⟨t,rfl⟩:=c
 let⟨b,rfl⟩:=d
 show a i j t b s _ _ ⟨.bl (g i j),H,I,Z,q⟩
def GX (i j:Int):Prop:=0<=j/\j<=1000000/\i.natAbs<2^64
def qy (i j:Int):Prop:=(-2^64<i/\i<2^64)\/(-2^64<j/\j<2^64)
theorem qy.ok(h:qy i j):IntMulOk i j:=by
 rcases h with ⟨h1,h2⟩|⟨h1,h2⟩
 ·show .of_left (intBits_le_64 h1 h2)
 ·show .of_right (intBits_le_64 h1 h2)
theorem bh:gj X (binaryOp .Add) (sI λi j=> .int (i+j)):=Hi λ_ _ _ _ _ _ _ q=>add_int q
theorem cL:gj X (binaryOp .Sub) (sI λi j=> .int (i - j)):=Hi λ_ _ _ _ _ _ _ q=>sub_int q
theorem cJ:gj X (binaryOp .Mult) (rI qy λi j=> .int (i*j)):=Ho λ_ _ _ _ _ _ _ a q=>mul_int q a.ok
theorem cU:gj X (binaryOp .Mod) (rI (λ_ j=>0<j) λi j=> .int (i%j)):=Ho λi j _ _ _ _ _ a q=>by
 show mod_int' () (Int.fmod_eq_emod_of_nonneg i ()<|q)
theorem z9:gj X (binaryOp .Pow) (rI GX λi j=> .int (i^j.toNat)):=Ho λ_ _ _ _ _ _ _ a q=>pow_int_small a.1 a.2.1 a.2.2 q
theorem Jt {f:N7->Sem N7}{g:Int->Int}
  (a:∀(i:Int) (t:Tok) (s:N_) (Q:N7->N_->Prop) (E:N7->N_->Prop),Q (.int (g i) s.toks) {s with toks:=s.toks+1}->Na (Nd X.prog X.w) X.A (f (.int i t)) Q E s):
  Ir X f (rU λi=> .int (g i)):=by
 intro O8 s σ H x v Q I b h
 let⟨i,rfl,q⟩:=h
 let⟨t,rfl⟩:=b
 show a i t s _ _ ⟨.int (g i),H,I.tok _,⟨_,Z⟩,q⟩
theorem s_:Ir X (unaryOp .USub) (rU λi=> .int (-(i:_))):=Jt λ_ _ _ _ _ q=>neg_int q
end
def GB:V->V->Bool
 | .int _,.int _=>true
 |_,_=>false
def IE:R2:=λx y H Q=>GB x y=true/\Q (.bl (decide (x=y))) H
def Jm:R2:=λx y H Q=>GB x y=true/\Q (.bl (!decide (x=y))) H
theorem iQ:decide (V.int i=V.int j)=(i==j):=by
 rw[Ly]
 simp
section
variable {a b c:Nw} {ta tb tc:TE} {pos:O1}
theorem jE(I:aH X O8 σ H s)(q:Q (.bl k) H)(e:k=k'):EP X O8 σ Q (.bool k') s:=by
 subst e
 show⟨.bl k,H,I,Z,q⟩
theorem eZ:gj X (Nk .Eq) IE:=by
 intro O8 s σ H x y v u Q I b c h
 let⟨a,q⟩:=h
 cases x<;>cases y<;>first|show absurd (show false=true from a) JR|skip
 let⟨t,rfl⟩:=b
 let⟨d,rfl⟩:=c
 show eq_int (jE I q iQ)
theorem iw:gj X (Nk .NotEq) Jm:=by
 intro O8 s σ H x y v u Q I b c h
 let⟨a,q⟩:=h
 cases x<;>cases y<;>first|show absurd (show false=true from a) JR|skip
 let⟨t,rfl⟩:=b
 let⟨d,rfl⟩:=c
 show ne_int (jE I q (congrArg not iQ))
theorem eO:gj X (Nk .Lt) (sI λi j=> .bl (decide (i<j))):=Di λ_ _ _ _ _ _ _ q=>lt_int q
theorem fc:gj X (Nk .LtE) (sI λi j=> .bl (decide (i<=j))):=Di λ_ _ _ _ _ _ _ q=>le_int q
theorem uB:gj X (Nk .Gt) (sI λi j=> .bl (decide (j<i))):=Di λ_ _ _ _ _ _ _ q=>gt_int q
theorem GL:gj X (Nk .GtE) (sI λi j=> .bl (decide (j<=i))):=Di λ_ _ _ _ _ _ _ q=>ge_int q
theorem oz:gj X (Nk .In) (λx y H Q=>∃i j,x=.str i/\y=.str j/\Q (.bl (!(Nc.Str.occurrences j i 0 ↑j 1).isEmpty)) H):=by
 intro O8 s σ H x y v u Q I a b h
 let⟨i,j,rfl,rfl,q⟩:=h
 let⟨t,rfl⟩:=a
 let⟨c,rfl⟩:=b
 show in_str (jE I q Z)
theorem yl:gj X (Nk .Is) (λx y H Q=>y=.non/\Q (.bl (decide (x=.non))) H):=by
 intro O8 s σ H x y v u Q I a b h
 let⟨rfl,q⟩:=h
 cases b
 show is_none_gen (jE I q ?_)
 cases x<;>first
  |(cases a;rfl)
  |(let⟨t,rfl⟩:=a;rfl)
theorem u5:gj X (Nk .IsNot) (λx y H Q=>y=.non/\Q (.bl (!decide (x=.non))) H):=by
 intro O8 s σ H x y v u Q I a b h
 let⟨rfl,q⟩:=h
 cases b
 show isnot_none_gen (jE I q ?_)
 cases x<;>first
  |(cases a;rfl)
  |(let⟨t,rfl⟩:=a;rfl)
theorem pY:gj X (Nk .NotIn) (λx y H Q=>∃i j,x=.str i/\y=.str j/\Q (.bl (!(!(Nc.Str.occurrences j i 0 ↑j 1).isEmpty))) H):=by
 intro O8 s σ H x y v u Q I a b h
 let⟨i,j,rfl,rfl,q⟩:=h
 let⟨t,rfl⟩:=a
 let⟨c,rfl⟩:=b
 show notIn_str (jE I q Z)
theorem AN (b:Nw){op:CmpOp}(h:op≠.In:=by decide)(d:op≠.NotIn:=by decide):behindInMarks op b=false:=by
 let a:(op==CmpOp.In)=false:=by cases op<;>first|rfl|show absurd Z h
 let c:(op==CmpOp.NotIn)=false:=by cases op<;>first|rfl|show absurd Z d
 cases b<;>simp[behindInMarks,a,c]
theorem pU(d:gj X (Nk op) r)(c:PE X a ta)(e:PE X b tb)(i:behindInMarks op b=false):PE X (.Compare a [op] [b] pos) (e9 r ta tb):=by
 intro O8 s σ H Q I h
 show wpAny_Compare1 (FJ c e I h λv u j x y H2 I2 f g q=>d O8 j σ H2 x y v u Q I2 f g q) i
def oA (t:TE):TT:=λσ H Q=>t σ H λx H'=>∃k,x=.bl k/\Q k H'
theorem eT(g:gj X (Nk op) r)(q:PE X a ta)(m:PE X b tb)(n:behindInMarks op b=false):PT X (.Compare a [op] [b] pos) (oA (e9 r ta tb)):=by
 intro O8 s σ H Q I h
 show wpAny_isTrue_Compare1 (bS (q O8 s σ H _ I h) λv s1 c=>?_) n
 let⟨x,H1,I1,f,l⟩:=c
 show bS (m O8 s1 σ H1 _ I1 l) λu p c=>?_
 let⟨y,H2,I2,w,i⟩:=c
 show bS (g O8 p σ H2 x y v u _ I2 f w i) λd A c=>?_
 let⟨z,H3,I3,j,k,e,o⟩:=c
 subst e
 cases j
 show K8 ⟨H3,I3,o⟩
def sA (r e:R2) (a b c:TE):TE:=λσ H Q=>a σ H λx H1=>b σ H1 λy H2=>r x y H2 λz H3=>∃k,z=.bl k/\
 (if k=true then c σ H3 λd H4=>e y d H4 Q else Q (.bl false) H3)
theorem kT(m:gj X (Nk op) r)(g:gj X (Nk op') r')(L:PE X a ta)(D:PE X b tb)(J:PE X c tc)
  (F:lastMarks [op,op'] [b,c]=false:=by with_unfolding_all rfl):PE X (.Compare a [op,op'] [b,c] pos) (sA r r' ta tb tc):=by
 intro O8 s σ H Q I h
 show Compare_chain (bS (L O8 s σ H _ I h) λv s1 f=>?_) F
 let⟨x,H1,I1,l,A⟩:=f
 show chain_link (bS (D O8 s1 σ H1 _ I1 A) λu K f=>?_)
 let⟨y,H2,I2,j,n⟩:=f
 show bS (m O8 K σ H2 x y v u _ I2 l j n) λd C f=>?_
 let⟨z,H3,I3,o,k,e,i⟩:=f
 subst e
 cases o
 show K8 ?_
 cases k with
 |false=>show ite_ff ⟨.bl false,H3,I3,Z,i⟩
 |true=>show ite_tt (chain_last (bS (J O8 C σ H3 _ I3 i) λp B f=>by let⟨E,H4,I4,w,q⟩:=f;show g O8 B σ H4 y E u p Q I4 j w q))
theorem fJ(F:gj X (Nk op) r)(g:gj X (Nk op') r')(E:PE X a ta)(q:PE X b tb)(D:PE X c tc)
  (B:lastMarks [op,op'] [b,c]=false:=by with_unfolding_all rfl):PT X (.Compare a [op,op'] [b,c] pos) (oA (sA r r' ta tb tc)):=by
 intro O8 s σ H Q I h
 show isTrue_chain (bS (E O8 s σ H _ I h) λv s1 f=>?_) B
 let⟨x,H1,I1,l,M⟩:=f
 show test_link (bS (q O8 s1 σ H1 _ I1 M) λu P f=>?_)
 let⟨y,H2,I2,j,J⟩:=f
 show bS (F O8 P σ H2 x y v u _ I2 l j J) λd p f=>?_
 let⟨z,H3,I3,K,k,e,i⟩:=f
 subst e
 cases K
 show K8 ?_
 cases k with
 |false=>
  let⟨U,w,O⟩:=i
  cases w
  show ite_ff ⟨H3,I3,O⟩
 |true=>
  show ite_tt (test_last (bS (D O8 p σ H3 _ I3 i) λm N f=>?_))
  let⟨A,H4,I4,n,L⟩:=f
  show bS (g O8 N σ H4 y A u m _ I4 j n L) λY S f=>?_
  let⟨T,H5,I5,R,W,o,C⟩:=f
  subst o
  cases R
  show K8 ⟨H5,I5,C⟩
theorem oO:(N9:Nat)<2^63:=by rw[NO];decide
theorem dO(r:aZ [x] us):∃u,us=[u]/\a8 x u:=by
 cases r with
 |cons r1 r2=>cases r2;show⟨_,Z,r1⟩
theorem fe(r:aZ [x,y] us):∃u w',us=[u,w']/\a8 x u/\a8 y w':=by
 cases r with
 |cons r1 r2=>
  cases r2 with
  |cons r3 r4=>cases r4;show⟨_,_,Z,r1,r3⟩
theorem iV:cy X (.builtin "abs") (λxs H Q=>∃i,xs=[.int i]/\Q (.int (if i<0 then -(i:_) else i)) H):=by
 intro O8 s σ H xs a Q I r h
 let⟨i,rfl,q⟩:=h
 let⟨u,rfl,t,rfl⟩:=dO r
 show call_abs_int λu tk=>⟨.int (if i<0 then -(i:_) else i),H,I.tok _,⟨_,Z⟩,q⟩
theorem wQ (a:X.calm=true):cy X (.builtin "max") (λxs H Q=>∃i j,xs=[.int i,.int j]/\Q (.int (if i<j then j else i)) H):=by
 intro O8 s σ H xs c Q I r h
 let⟨i,j,rfl,q⟩:=h
 let⟨u,d,rfl,⟨t,rfl⟩,⟨b,rfl⟩⟩:=fe r
 show max_two_ints (I.ok.hd a) λh' tk k=>⟨_,H,I.kept k,?_,q⟩
 by_cases hj:i<j
 ·rw[N1 hj,N1 hj];show⟨_,Z⟩
 ·rw[N0 hj,N0 hj];show⟨_,Z⟩
theorem gb (a:X.calm=true):cy X (.builtin "min") (λxs H Q=>∃i j,xs=[.int i,.int j]/\Q (.int (if j<i then j else i)) H):=by
 intro O8 s σ H xs c Q I r h
 let⟨i,j,rfl,q⟩:=h
 let⟨u,d,rfl,⟨t,rfl⟩,⟨b,rfl⟩⟩:=fe r
 show min_two_ints (I.ok.hd a) λh' tk k=>⟨_,H,I.kept k,?_,q⟩
 by_cases hj:j<i
 ·rw[N1 hj,N1 hj];show⟨_,Z⟩
 ·rw[N0 hj,N0 hj];show⟨_,Z⟩
theorem jK:cy X (.type "int") (λxs H Q=>(∃i,xs=[.int i]/\Q (.int i) H)\/∃k,xs=[.bl k]/\Q (.int (if k then 1 else 0)) H):=by
 intro O8 s σ H xs b Q I r h
 rcases h with ⟨i,rfl,q⟩|⟨k,rfl,q⟩
 ·let⟨u,rfl,t,rfl⟩:=dO r
  show call_int_int ⟨.int i,H,I,⟨_,Z⟩,q⟩
 ·let⟨u,rfl,a⟩:=dO r
  cases a
  show call_int_bool ⟨.int (if k then 1 else 0),H,I.tok _,⟨_,Z⟩,q⟩
def CI (K:JI) (x:V) (H:Hp) (n:Nat):Prop:=
 match x with
 | .str y=>↑y<=N9/\n=↑y
 | .byt y=>y.size<=N9/\n=y.size
 | .ref p=>(∃xs,aN K H p xs/\n=↑xs)\/∃xs,a_ K H p xs/\n=↑xs
 |_=>False
theorem bc:cy X (.builtin "len") (λxs H Q=>∃x n,xs=[x]/\CI X.K x H n/\Q (.int n) H):=by
 intro O8 s σ H xs m Q I r h
 let⟨x,n,rfl,e,q⟩:=h
 let⟨u,rfl,f⟩:=dO r
 let l:N9=16777216:=NO
 cases x with
 |str y=>
  let⟨t,rfl⟩:=f
  obtain⟨j,c⟩:↑y<=N9/\n=↑y:=e
  subst c
  show len_str () ⟨.int _,H,I.tok _,⟨_,Z⟩,q⟩
 |byt y=>
  let⟨t,rfl⟩:=f
  obtain⟨j,c⟩:y.size<=N9/\n=y.size:=e
  subst c
  show PySem.W.len_bytes () ⟨.int _,H,I.tok _,⟨_,Z⟩,q⟩
 |ref p=>
  cases f
  let c:(∃xs,aN X.K H p xs/\n=↑xs)\/∃xs,a_ X.K H p xs/\n=↑xs:=e
  rcases c with ⟨xs,d,c⟩|⟨xs,d,c⟩
  ·subst c
   let⟨b,i,g,k⟩:=I.list d
   let a:=↑i
   show Calls.call_len_list g.isList (by simp only[J8];lia) ⟨.int ↑xs,H,I.tok _,⟨_,by simp only[J8];rw[a]⟩,q⟩
  ·subst c
   let⟨b,i,g,k⟩:=I.tuple d
   let a:=↑i
   show len_tuple g (by simp only[J8];lia) ⟨.int ↑xs,H,I.tok _,⟨_,by simp only[J8];rw[a]⟩,q⟩
 |_=>show(show False from e).elim
end
structure sO (h:Ng) (x dx C:N8) (mA:Nh->Option N7):Prop where
 obj:h.get? x>Lw C dx
 ns:h.Ns1 dx mA
 ne:dx≠x
set_option tactic.hygienic true in
theorem xh {h:Ng}{c:N8}{d:Nh->Option N7}(n:h.Ns1 c d):∃f,h.get? c>f/\∀name,PySem.W.lookIn name f>d name:=by
 let⟨o,es,ep,i,hd,j,_,hm⟩:=n
 show⟨o,i,λname=>?_⟩
 let e:=hm name
 unfold nsFind findBy at e
 rw[<-Array.find?_toList] at e
 unfold PySem.W.lookIn
 rw[hd]
 dsimp only
 split
 ·rename_i y q
  rw[q] at e
  show congrArg some e
 ·rename_i q
  rw[q] at e
  let a:es.toList.any (·.refKey)=false:=by
   rw[List.any_eq_false]
   intro y g
   let⟨z,t,b⟩:=j y (Li.mp g)
   simp[ND.refKey,b]
  let k:¬es.toList.any (·.refKey)=true:=a<|JR
  rw[N0 k]
  show congrArg some e
theorem sO.look(I:sO h x dx C mA):∃a,PySem.W.InstAt h x (Lw C dx) C (some a)/\∀name,PySem.W.lookIn name a>mA name:=
 let ⟨a,ho,hl⟩:=xh I.ns
 ⟨a,⟨I.obj,Z,Z,ho⟩,hl⟩
section
variable {x dx C f:N8} {mA:Nh->Option N7} {name:Nh} {v:N7}
theorem Dt(X:K.In s.heap)(I:sO s.heap x dx C mA)(f:Mc K C name=true)(d:Mt K C=true)
  (e:KG K (.ref C) name>none) (b:mA name>v) (a:PySem.W.handedIn v=true) (h:Q v {s with toks:=s.toks+1}):
  Na (Nd prog w) A (getAttr (.ref x) name expr) Q E s:=by
 let⟨g,J,c⟩:=I.look
 show PySem.W.get_value X J (PySem.W.plainGet_of f).1 (PySem.W.findObj_own d e Z (by rw[c,b])) a h
theorem An {pl:Sem Bool}{Q:N7×-N7->N_->Prop}(X:K.In s.heap)(I:sO s.heap x dx C mA)(a:Mc K C name=true)
  (hf:KG K (.ref C) name>some (.ref f)) (ht:LS K (.ref f)=true) (c:mA name=none) (h:Q (.ref f,[.ref x]) s):
  Na (Nd prog w) A (getMethod (.ref x) name pl) Q E s:=by
 let⟨b,J,d⟩:=I.look
 show PySem.W.method_fn X J (PySem.W.plainGet_of a).1 (PySem.W.plainGet_of a).2 hf (beq_iff_eq.mp ht) (by change(PySem.W.lookIn name b).map (·.isSome)>false;rw[d,c];rfl) h
theorem CJ{ns:-Nh}{Q:Unit->N_->Prop}(X:K.In s.heap)(I:sO s.heap x dx C mA)
  (n:KG K (.ref C) "__setattr__" >some (.builtin "object.__setattr__")) (l:PySem.W.plainOver K C=true) (ht:PySem.W.takerIn K C name>none) (o:Mt K C=true)
  (p:PySem.Within mA ns) (hsz:ns.length<=N9)
  (h:∀h',sO h' x dx C (λy=>if y=name then some v else mA y)->Ng.SameBut dx s.heap h'->Q Unit.unit {s with heap:=h',toks:=s.toks+2}):
  Na (Nd prog w) A (setAttr (.ref x) name v) Q E s:=by
 let⟨D,J,z⟩:=I.look
 show PySem.W.set_plain X J n (PySem.W.osa_open (s:={s with toks:=s.toks+1}) (r:=none) X J l ht λb=>?_)
 let⟨u,q,d⟩:=PySem.W.any_some o
 let m:s.heap.get? x>⟨.ref C,some dx,.plain,#[]⟩:=I.obj
 show JD (JE (JD (JD (wpAny_loadPart m (JD (Md.here (s:={s with toks:=s.toks+1}) (PySem.W.looks_clsIn X q) ?_))))))
 rw[d]
 show JE (a:=some dx) (JD (JE (JD ?_)))
 show wpAny_nsSet1 (s:={s with toks:=s.toks+1}) I.ns λh' j k=>?_
 let⟨B,g,i,f,c,e⟩:=j.count (PySem.Within.cons name v p)
 show JD (wpAny_lookBehind f (c<|pastItsLine_dict (J1 e (by rw[J9];lia))) ?_)
 show JE (h _ ⟨(k.2 _ (JH I.ne)).trans I.obj,j,I.ne⟩ k)
theorem yD{b:-(Nh×N7)}(X:K.In s.heap)(d:PySem.W.makesIn K C=true)
  (c:KG K (.ref C) "__init__" >some (.ref f)) (hf:PySem.W.typeIn K (.ref f)>.type "function")
  (h:NK (Nd prog w) (A.under (.builtin "type.__call__" ⟨.ref C::vs,b⟩)) (.call (.ref f) ⟨.ref (~~~s+1)::vs,b⟩) (PySem.W.InitBack (~~~s+1) R)
   {s with heap:=(s.heap.push Lj).push (Lw C (~~~s))}):
  NK (Nd prog w) A (.call (.ref C) ⟨vs,b⟩) R s:=by
 show PySem.W.make_core (PySem.W.makes_of X d) (PySem.W.looks_findIn X c) (λa=>PySem.W.bind_fn X a hf) (.inl Z) h
end
noncomputable def dA (f:Nh) (v:V):-(Nh×V)->-(Nh×V)
 |[]=>[(f,v)]
 |(g,x)::r=>if g=f then (g,v)::r else (g,x)::dA f v r
theorem dW (f g:Nh)(v:V):∀fs:-(Nh×V),(dA f v fs).lookup g=if g=f then some v else fs.lookup g
 |[]=>by
  change K9 g [(f,v)]=_
  by_cases h:g=f
  ·let hb:(g==f)=true:=beq_iff_eq.mpr h
   simp only[K9,hb,N1 h]
  ·let hb:(g==f)=false:=beq_eq_false_iff_ne.mpr h
   simp only[K9,hb,N0 h]
 |(k,x)::r=>by
  let a:=dW f g v r
  rw[show dA f v ((k,x)::r)=(if k=f then (k,v)::r else (k,x)::dA f v r) from Z]
  by_cases hk:k=f
  ·rw[N1 hk]
   by_cases h:g=k
   ·let hb:(g==k)=true:=beq_iff_eq.mpr h
    simp only[K9,hb,N1 (h.trans hk)]
   ·let hb:(g==k)=false:=beq_eq_false_iff_ne.mpr h
    simp only[K9,hb,N0 (λe:g=f=>h (e.trans hk.symm))]
  ·rw[N0 hk]
   by_cases h:g=k
   ·let hb:(g==k)=true:=beq_iff_eq.mpr h
    simp only[K9,hb,N0 (λe:g=f=>hk (h.symm.trans e))]
   ·let hb:(g==k)=false:=beq_eq_false_iff_ne.mpr h
    simp only[K9,hb]
    show a
theorem jR (f:Nh)(v:V):∀fs:-(Nh×V),f∈(dA f v fs).map (·.1)/\∀g,g∈fs.map (·.1)->g∈(dA f v fs).map (·.1)
 |[]=>⟨by simp[dA],λg h=>by simp at h⟩
 |(k,x)::r=>by
  let⟨i1,i2⟩:=jR f v r
  rw[show dA f v ((k,x)::r)=(if k=f then (k,v)::r else (k,x)::dA f v r) from Z]
  by_cases hk:k=f
  ·rw[N1 hk]
   subst hk
   show⟨by simp,λg h=>by simpa using h⟩
  ·rw[N0 hk]
   show⟨?_,λg h=>?_⟩
   ·rw[JW]
    show J0 _ i1
   ·rw[JW] at h|-
    rcases JO.mp h with e|e
    ·show JO.mpr (.inl e)
    ·show J0 _ (i2 g e)
theorem bV (f:Nh)(v:V):∀fs:-(Nh×V),↑(dA f v fs)<=↑fs+1
 |[]=>by simp[dA]
 |(k,x)::r=>by
  let a:=bV f v r
  rw[show dA f v ((k,x)::r)=(if k=f then (k,v)::r else (k,x)::dA f v r) from Z]
  by_cases hk:k=f
  ·rw[N1 hk,J9,J9];lia
  ·rw[N0 hk,J9,J9];lia
theorem iE.some_of{o:Option N7}(r:iE (some v) o):∃u,o>u/\a8 v u:=by
 cases o with
 |none=>show(show False from r).elim
 |some u=>show⟨u,Z,r⟩
theorem iE.none_of {o:Option N7}(r:iE none o):o=none:=by
 cases o with
 |none=>rfl
 |some u=>show(show False from r).elim
theorem xi(r:a8 v u):PySem.W.handedIn u=true:=by
 cases v with
 |non=>cases(show u=N7.none from r);rfl
 |bl b=>cases(show u=N7.bool b from r);rfl
 |int i=>let⟨t,e⟩:=(show∃t,u=N7.int i t from r);cases e;rfl
 |str x=>let⟨t,e⟩:=(show∃t,u=N7.str x t from r);cases e;rfl
 |byt b=>let⟨t,e⟩:=(show∃t,u=N7.bytes b t from r);cases e;rfl
 |flt b=>let⟨t,e⟩:=(show∃t,u=N7.float b t from r);cases e;rfl
 |ref a=>cases(show u=N7.ref a from r);rfl
 |ty n=>cases(show u=N7.type n from r);rfl
section
variable {P:Ni} {H':Hp} {h h':Ng} {a C dx:N8} {fs fs':-(Nh×V)}
theorem pL (b:gO P w H h)(e:H a>.ins C dx fs):∃mA,sO h a dx C mA/\(∀f,iE (fs.lookup f) (mA f))/\PySem.Within mA (fs.map (·.1))/\↑fs<=1000/\H dx>.own a:=by
 let⟨d,z,g,c,mA,n,r,q⟩:=(show bM P w H h a (.ins C dx fs) from b a _ e)
 show⟨mA,⟨c,n,g⟩,r,q,z,d⟩
end
structure pJ (K:JI) (C:N8):Prop where
 pg:Mc K C Nh.empty=true
 hd:Mt K C=true
 po:PySem.W.plainOver K C=true
 sa:KG K (.ref C) "__setattr__" >some (.builtin "object.__setattr__")
theorem pJ.get {C:N8}(c:pJ K C)(f:Nh):Mc K C f=true:=c.pg
def cB (K:JI) (C:N8) (f:Nh):Prop:=KG K (.ref C) f>none
theorem cB.taker {C:N8}{f:Nh}(n:cB K C f):PySem.W.takerIn K C f>none:=by
 unfold PySem.W.takerIn
 rw[show KG K (.ref C) f>none from n]
 rfl
structure BO (K:JI) (C:N8) (m:Nh) (f:N8):Prop where
 at_:KG K (.ref C) m>some (.ref f)
 fn:LS K (.ref f)=true
 kp:Ky K (.ref f)=true
section
variable {a C dx:N8} {fs:-(Nh×V)} {f:Nh} {v:V}
theorem uf(I:aH X O8 σ H s)(e:H a>.ins C dx fs)(c:pJ X.K C)(n:cB X.K C f)(l:fs.lookup f>v)
  (h:∀u s',aH X O8 σ H s'->a8 v u->Q u s'):Na (Nd X.prog X.w) A (getAttr (.ref a) f b) Q E s:=by
 let⟨mA,O,r,_,_,_⟩:=pL I.hok e
 let⟨u,g,d⟩:=iE.some_of (v:=v) (o:=mA f) (by rw[<-l];show r f)
 show Dt I.kIn O (c.get f) c.hd n g (xi d) (h u _ (I.tok _) d)
theorem lW{pl:Sem Bool}{Q:N7×-N7->N_->Prop}(I:aH X O8 σ H s)(e:H a>.ins C dx fs)(c:pJ X.K C)(k:BO X.K C m g)(l:fs.lookup m=none)
  (h:Q (.ref g,[.ref a]) s):Na (Nd X.prog X.w) A (getMethod (.ref a) m pl) Q E s:=by
 let⟨mA,O,r,_,_,_⟩:=pL I.hok e
 let b:mA m=none:=iE.none_of (by rw[<-l];show r m)
 show An I.kIn O (c.get m) k.at_ k.fn b h
theorem ud{Q:Unit->N_->Prop}(I:aH X O8 σ H s)(e:H a>.ins C dx fs)(c:pJ X.K C)(n:cB X.K C f)(k:↑fs<1000)(j:a8 y u)
  (h:∀s',aH X O8 σ (Ob H a (.ins C dx (dA f y fs))) s'->Q Unit.unit s'):Na (Nd X.prog X.w) A (setAttr (.ref a) f u) Q E s:=by
 let⟨mA,O,r,wi,_,d⟩:=pL I.hok e
 let i:↑(fs.map (·.1))<=N9:=by rw[JF,NO];lia
 show CJ I.kIn O c.sa c.po n.taker c.hd wi i λh' O' sb=>h _ ?_
 let hd:∃o,h'.get? dx>o:=let ⟨o,_,_,e',_⟩:=O'.ns;⟨o,e'⟩
 show I.write (x:=a) (e:=dx) (e<|True.intro) (.inr d) (λb q hb z=>(sb.2 b hb).trans z) hd ?_
 show⟨aj O.ne<|d,?_,O.ne,O'.obj,_,O'.ns,λg=>?_,λg hg=>?_⟩
 ·have:=bV f y fs;lia
 ·change iE ((dA f y fs).lookup g) (if g=f then some u else mA g)
  rw[dW]
  by_cases q:g=f
  ·rw[N1 q,N1 q];show j
  ·rw[N0 q,N0 q];show r g
 ·by_cases q:g=f
  ·rw[q];show(jR f y fs).1
  ·show(jR f y fs).2 g (wi g λz=>hg ?_)
   change(if g=f then some u else mA g)=none
   rw[N0 q];show z
theorem aH.made (I:aH X O8 σ H s):aH X O8 σ (Ob (Ob H (~~~s) (.own (~~~s+1))) (~~~s+1) (.ins C (~~~s) []))
  {s with heap:=(s.heap.push Lj).push (Lw C (~~~s))}:=by
 let c:(s.heap.push Lj).get? (~~~s)>Lj:=JT s.heap Z
 let h:((s.heap.push Lj).push (Lw C (~~~s))).get? (~~~s+1)>Lw C (~~~s):=by
  have:=JT (s.heap.push Lj) (o:=Lw C (~~~s)) Z
  rwa [Kq] at this
 let j:(s.heap.push Lj).Ns (~~~s) (λ_=>none):=⟨Lj,#[],_,c,Z,(λe i=>absurd i (by simp)),λ_=>rfl⟩
 let g:=I.laid (a:= ~~~s) (o:=.own (~~~s+1)) (h':=s.heap.push Lj) (t':=s.toks) (λb u q=>JK _ q) (JG _) ⟨_,c⟩
 show g.laid (a:= ~~~s+1) (o:=.ins C (~~~s) []) (t':=s.toks) (λb u q=>JK _ q) (Nat.le_of_eq (Kq _ _)) ?_
 let d: ~~~s≠~~~s+1:=JP (Lz _)
 show⟨by rw[aj d,ag],J4 _,d,h,λ_=>none,(Ng.Ns1.of_empty j).at λo q=>JK _ q,λ_=>True.intro,λy f=>absurd Z f⟩
theorem B1(b:NU e f env (eval e env)=eval e env)
  (h:Na (Nd prog w) A (eval e env) (λo a=>Na (Nd prog w) A (getAttr o f true) Q E a) E s):Na (Nd prog w) A (eval (.Attribute e f pos) env) Q E s:=
 Attribute_any_ h (by rw[arm_eval_Attribute,b])
end
def rP (K:JI) (b:TE) (f:Nh):TE:=λσ H Q=>b σ H λx H1=>∃a C dx fs v,x=.ref a/\H1 a>.ins C dx fs/\pJ K C/\cB K C f/\fs.lookup f>v/\Q v H1
def IP (K:JI) (b c:TE) (f:Nh):TS:=λD σ H=>c σ H λy H1=>b σ H1 λx H2=>∃a C dx fs,x=.ref a/\H2 a>.ins C dx fs/\pJ K C/\cB K C f/\↑fs<1000/\
 D.nx σ (Ob H2 a (.ins C dx (dA f y fs)))
section
variable {o e value:Nw} {f:Nh} {pos pos' tpos:O1} {ta tv:TE}
theorem bq (k:PE X e ta)(g:NU e f X.env (eval e X.env)=eval e X.env):PE X (.Attribute e f pos) (rP X.K ta f):=by
 intro O8 s σ H Q I h
 show B1 g (bS (k O8 s σ H _ I h) λu s1 b=>?_)
 let⟨x,H1,I1,j,a,C,dx,fs,v,ex,d,c,n,l,q⟩:=b
 subst ex
 obtain rfl:u=N7.ref a:=j
 show uf I1 d c n l λm o I2 i=>⟨v,H1,I2,i,q⟩
theorem dJ (m:PE X o ta)(i:PE X value tv)(e:swapsWith value (some (.Attribute o f pos')) pos.line X.env=pure false):PS X (.Assign [.Attribute o f pos'] value pos) (IP X.K ta tv f):=by
 intro O8 s σ H D I h
 show plainObj_wpAny_Assign_Attribute (bS (i O8 s σ H _ I h) λu s1 b=>?_) e
 let⟨y,H1,I1,k,q⟩:=b
 show bS (m O8 s1 σ H1 _ I1 q) λov r b=>?_
 let⟨x,H2,I2,j,a,C,dx,fs,ex,d,c,n,l,g⟩:=b
 subst ex
 obtain rfl:ov=N7.ref a:=j
 show ud I2 d c n l k λp I3=>⟨σ,_,I3,g⟩
end
structure aT (k:Nat) (A:Nu):Prop where
 hd:A.handled=none
 dp:A.depth+3*k+5<recursionLimit
 un:A.units+16*k+200<NE
 gd:A.guards>[]
theorem aT.mono(r:aT k A)(h:j<=k):aT j A:=⟨r.hd,by have:=r.dp;lia,by have:=r.un;lia,r.gd⟩
theorem aT.deeper(r:aT (k+1) A)(env:O0):aT k (A.deeper env):=
 ⟨r.hd,by have:=r.dp;change A.depth+1+3*k+5<_;lia,by have:=r.un;change A.units+3+16*k+200<_;lia,r.gd⟩
theorem sG {C:N8}{us:-N7}{a:-(Nh×N7)}:(A.under (.builtin "type.__call__" ⟨.ref C::us,a⟩)).depth=A.depth+1:=by
 first|rfl|simp[Nu.under,Code.weight,Code.isCreation,Code.isGuard,Code.isCaller,Code.frames,Code.isFrame,guardIds]
theorem sY {C:N8}{us:-N7}{a:-(Nh×N7)}:(A.under (.builtin "type.__call__" ⟨.ref C::us,a⟩)).units=A.units+1:=by
 first|rfl|simp[Nu.under,Code.cUnits,Code.frames,Code.isFrame]
theorem qm {C:N8}{us:-N7}{a:-(Nh×N7)}:(A.under (.builtin "type.__call__" ⟨.ref C::us,a⟩)).guards=A.guards:=by
 first|rfl|simp[Nu.under,Code.isGuard,Code.guards,guardIds]
theorem aT.make(r:aT (k+1) A)(C:N8)(us:-N7)(a:-(Nh×N7)):aT k (A.under (.builtin "type.__call__" ⟨.ref C::us,a⟩)):=
 ⟨r.hd,by have:=r.dp;rw[sG];lia,by have:=r.un;rw[sY];lia,qm<|r.gd⟩
theorem aT.depth(r:aT k A):A.depth<recursionLimit:=by have:=r.dp;lia
theorem aT.units(r:aT k A):A.units+64<NE:=by have:=r.un;lia
def e8:TA:=λ_ H Q=>Q [] H
def cz (a:TE) (tr:TA):TA:=λσ H Q=>a σ H λx H1=>tr σ H1 λxs H2=>Q (x::xs) H2
section
variable {e:Nw} {es:-Nw} {te:TE} {t:TA} {pos:O1}
theorem cW:PA X [] e8:=λ_ _ _ _ H Q I h=>Calls.spliced_nil ⟨[],H,I,.nil,h⟩
theorem aO (i:PE X e te)(g:PA X es t)(c:Nf (e::es) X.env=(false,eval e X.env)::Nf es X.env:=by rfl):PA X (e::es) (cz te t):=by
 intro pos O8 s σ H Q I h
 rw[c]
 show Calls.spliced_cons (bS (i O8 s σ H _ I h) λu s1 a=>?_)
 let⟨x,H1,I1,b,f⟩:=a
 show bS (g pos O8 s1 σ H1 _ I1 f) λk l a=>by let⟨xs,H2,I2,j,d⟩:=a;show⟨x::xs,H2,I2,.cons b j,d⟩
def sR (t:TA):TE:=λσ H Q=>t σ H λxs H1=>↑xs<=N9/\∀p,H1 p=none->Q (.ref p) (Ob H1 p (.tup xs))
def pO (t:TA):TE:=λσ H Q=>t σ H λxs H1=>↑xs<=N9/\∀p,H1 p=none->Q (.ref p) (Ob H1 p (.lst xs))
theorem bG {x1}(h:PA X es t):PE X (.Tuple es x1 pos) (sR t):=by
 intro O8 s σ H Q I hq
 show wpAny_Tuple_spliced (bS (h pos O8 s σ H _ I hq) λc s1 a=>?_)
 let⟨xs,H1,I1,r,z,q⟩:=a
 show⟨by rw[<-↑r];show z,?_⟩
 let hf:H1 (~~~s1)=none:=I1.hok.fresh (JG _)
 show⟨.ref (~~~s1),Ob H1 (~~~s1) (.tup xs),I1.laid (t':=s1.toks) (λb u e=>JK _ e) (JG _) ?_,Z,q _ hf⟩
 show⟨z,c,r,⟨_,JT _ Z,Z,_,Z⟩⟩
theorem bL (h:PA X es t):PE X (.List es pos) (pO t):=by
 intro O8 s σ H Q I hq
 show wpAny_List_spliced (bS (h pos O8 s σ H _ I hq) λc s1 a=>?_)
 let⟨xs,H1,I1,r,z,q⟩:=a
 show⟨by rw[<-↑r];show z,?_⟩
 let hf:H1 (~~~s1)=none:=I1.hok.fresh (JG _)
 show⟨.ref (~~~s1),Ob H1 (~~~s1) (.lst xs),I1.laid (t':=s1.toks) (λb u e=>JK _ e) (JG _) ?_,Z,q _ hf⟩
 show⟨z,c,0,r,JT _ Z⟩
end
abbrev Sp:=-V->Hp->VK->XK->Prop
abbrev Bi:=-O0->Hp->N_->XK->N7->N_->Prop
structure kD (P:Ni) (w:Nr) (K:JI) (mg:Nh->Option N7) (O_:Ng) (A:Nu) (outer:-O0) (s:N_) (H:Hp):Prop where
 frames:A.frames>outer
 mod:Mod K mg O_
 bs:∀b o,O_.get? b>o->s.heap.get? b>o/\H b=none
 bsz:O_.objs.size<= ~~~s
 funs:s.heap.FunFrames O_ outer
 frf:∀b∈vK outer,H b=none
 hok:gO P w H s.heap
 bare:AllBare s.gens
def CE (a:-O0) (P:Ni) (w:Nr) (H:Hp) (s:N_) (Q:VK) (u:N7) (b:N_):Prop:=
 ∃v H',b.os=s.os/\AllBare b.gens/\Un (vK a) [] H H' s.heap b.heap/\gO P w H' b.heap/\a8 v u/\Q v H'
def CR (CX:Bi) (a:-O0) (P:Ni) (w:Nr) (H:Hp) (s:N_) (Q:VK) (E:XK) (r:Result) (b:N_):Prop:=
 match r with
 | .ok (.ret u)=>CE a P w H s Q u b
 | .ok _=>False
 | .error e=>CX a H s E e b
structure eL (P:Ni) (w:Nr) (K:JI) (mg:Nh->Option N7) (O_:Ng) (CX:Bi) (k:Nat) (f:N8) (fd:NM) (ps:-Nh) (sp:Sp):Prop where
 len:∀vs H Q E,sp vs H Q E->↑vs=↑ps
 run:∀(A:Nu) (outer:-O0) (s:N_) (H:Hp) (args:Args) (us:-N7) (vs:-V) (Q:VK) (E:XK),aT k A->kD P w K mg O_ A outer s H->BindsTo s fd args (ps.zip us)->aZ vs us->sp vs H Q E->
  NK (Nd P w) A (.call (.ref f) args) (CR CX outer P w H s Q E) s
theorem kD.make {P:Ni}{a:-O0}(e:kD P w K mg O_ A a s H)(C:N8)(us:-N7)(b:-(Nh×N7)):
  kD P w K mg O_ (A.under (.builtin "type.__call__" ⟨.ref C::us,b⟩)) a s H:=⟨by first|show e.frames|(simpa[Nu.under,Code.envs,Code.isFrame,pushEnvs] using e.frames),e.mod,e.bs,e.bsz,e.funs,e.frf,e.hok,e.bare⟩
section
variable {s':N_}
theorem aH.env0 (I:aH X O8 σ H s):kD X.prog X.w X.K X.mg X.O_ X.A X.stack s H:=
 ⟨I.ok.frames,I.ok.mod,I.bs,J1 I.ok.bsz I.sz,I.stack,I.stkFree,I.hok,I.bare⟩
theorem aH.after(I:aH X O8 σ H s)(h:CE X.stack X.prog X.w H s Q u s'):EP X O8 σ Q u s':=by
 let⟨v,H',os,bare,un,a,r,q⟩:=h
 let⟨e,g,d,t,c⟩:=s'
 obtain rfl:c=s.os:=os
 show⟨v,H',I.call (h':=e) (g':=g) (d':=d) (t':=t) (ch:=[]) un a bare (λb z=>absurd z (by simp)),r,q⟩
end
def fS (sp:Sp) (a:-V) (E:XK) (t:TA):TE:=λσ H Q=>t σ H λvs H1=>sp (vs++a) H1 Q E
def k9 (C:N8) (m:Nh) (sp:Sp) (b:-V) (E:XK) (c:TE) (t:TA):TE:=λσ H Q=>c σ H λx H1=>∃a dx fs,x=.ref a/\H1 a>.ins C dx fs/\fs.lookup m=none/\
 t σ H1 λvs H2=>sp (x::(vs++b)) H2 Q E
def oq (C:N8) (sp:Sp) (a:-V) (E:XK) (t:TA):TE:=λσ H Q=>t σ H λvs H1=>∀x dx,H1 x=none->H1 dx=none->dx≠x->
 sp (.ref x::(vs++a)) (Ob (Ob H1 dx (.own x)) x (.ins C dx [])) (λv H2=>v=.non/\Q (.ref x) H2) E
def cA (K:JI) (c:NM) (ps:-Nh) (b:-N7):Prop:=
 ∀(s:N_) (a:-N7),K.In s.heap->↑(a++b)=↑ps->BindsTo s c ⟨a,[]⟩ (ps.zip (a++b))
theorem cA.all {c:NM}{ps:-Nh}(h:∀a:-N7,↑a=↑ps->bindArgs c ⟨a,[]⟩=pure (ps.zip a)):cA K c ps []:=λs a _ b=>by
 rw[J6] at b|-
 show .of_eq (h a b)
def gU (CX:Bi) (X:Cx) (E:XK):Prop:=∀(O8:-(N8×Nv)) (σ:St) (H:Hp) (s:N_) (e:N7) (s':N_),aH X O8 σ H s->CX X.stack H s E e s'->X.xe e s'
section
variable {CX:Bi} {k:Nat} {f C:N8} {fd:NM} {ps:-Nh} {sp:Sp} {dvs:-V} {ds:-N7} {E:XK} {x m:Nh} {p pos apos:O1} {e o:Nw} {es:-Nw} {ta:TE} {t:TA}
theorem pW(F:eL X.prog X.w X.K X.mg X.O_ CX k f fd ps sp)(d:aT k X.A)(b:cA X.K fd ps ds)(hd:aZ dvs ds)(hx:gU CX X E)
  (I:aH X O8 σ H s) (r:aZ vs us) (h:sp (vs++dvs) H Q E):Na (Nd X.prog X.w) X.A (call (.ref f) us) (EP X O8 σ Q) X.xe s:=by
 let a:aZ (vs++dvs) (us++ds):=r.append hd
 let c:↑(us++ds)=↑ps:=by rw[<-↑a];show F.len _ _ _ _ h
 show wpAny_call (NR (F.run X.A X.stack s H ⟨us,[]⟩ (us++ds) (vs++dvs) Q E d I.env0 (b s us I.kIn c) a h) λr s' hq=>?_)
 cases r with
 |error e=>show hx O8 σ H s e s' I hq
 |ok fl=>
  cases fl with
  |ret u=>show I.after hq
  |next=>show False.elim hq
  |brk=>show False.elim hq
  |cont=>show False.elim hq
theorem BL (F:eL X.prog X.w X.K X.mg X.O_ CX k f fd ps sp)(l:aT k X.A)(n:Gl X x)(i:X.mg x>.ref f)(d:Ky X.K (.ref f)=true)(g:cA X.K fd ps ds)(hd:aZ dvs ds)(hx:gU CX X E)
  (m:PA X (e::es) t) (a:(x==("__debug__" :Nh))=false:=by decide) (j:Nf (e::es) X.env=(false,eval e X.env)::Nf es X.env:=by rfl) (b:(NF pos (Nf es X.env)).any (·.1)=false:=by rfl):
  PE X (.Call (.Name x p) (e::es) [] pos) (fS sp dvs E t):=by
 intro O8 s σ H Q I h
 show KQ (kQ I n i ?_ a)
 show Mu (h₀:=X.O_) I.ok.mod.kin d (bS (m pos O8 s σ H _ I h) λo s1 c=>?_) j b
 let⟨vs,H1,I1,r,q⟩:=c
 show⟨I1.kIn,?_⟩
 show pW F l g hd hx I1 r q
theorem CY {pl:Sem Bool}(D:PE X o ta)(c:pJ X.K C)(j:BO X.K C m f)(F:eL X.prog X.w X.K X.mg X.O_ CX k f fd ps sp)(v:aT k X.A)(n:cA X.K fd ps ds)(hd:aZ dvs ds)(hx:gU CX X E)(y:PA X (e::es) t)
  (d:Nf (e::es) X.env=(false,eval e X.env)::Nf es X.env:=by rfl) (g:(NF pos (Nf es X.env)).any (·.1)=false:=by rfl)
  (ht:eval (.Call (.Attribute o m apos) (e::es) [] pos) X.env=(do
   let ov<-eval o X.env
   standAt apos.atName
   let (f,first)<-holding [ov] (getMethod ov m pl)
   callWith pos f first (NF pos (Nf (e::es) X.env)) (backToKw pos (keywordEach [] X.env))):=by rfl):
  PE X (.Call (.Attribute o m apos) (e::es) [] pos) (k9 C m sp dvs E ta t):=by
 intro O8 s σ H Q I h
 show PySem.W.methodCall_KW (pl:=pl) (bS (D O8 s σ H _ I h) λu s1 b=>?_) ht
 let⟨x,H1,I1,B,a,dx,fs,ex,z,l,q⟩:=b
 subst ex
 obtain rfl:u=N7.ref a:=B
 show lW I1 z c j l ?_
 show Mu (first:=[.ref a]) (h₀:=X.O_) I.ok.mod.kin j.kp (bS (y pos O8 s1 σ H1 _ I1 q) λi J b=>?_) d g
 let⟨vs,H2,I2,r,p⟩:=b
 show⟨I2.kIn,?_⟩
 show pW (us:=.ref a::i) (vs:=.ref a::vs) F v n hd hx I2 (.cons Z r) p
theorem A3 {pl:Sem Bool}(j:PE X o ta)(c:pJ X.K C)(d:BO X.K C m f)(F:eL X.prog X.w X.K X.mg X.O_ CX k f fd ps sp)(n:aT k X.A)(g:cA X.K fd ps ds)(hd:aZ dvs ds)(hx:gU CX X E)
  (ht:eval (.Call (.Attribute o m apos) [] [] pos) X.env=(do
   let ov<-eval o X.env
   standAt apos.atName
   let (f,first)<-holding [ov] (getMethod ov m pl)
   callWith pos f first (NF pos (Nf [] X.env)) (backToKw pos (keywordEach [] X.env))):=by rfl):
  PE X (.Call (.Attribute o m apos) [] [] pos) (k9 C m sp dvs E ta e8):=by
 intro O8 s σ H Q I h
 show PySem.W.methodCall_KW (pl:=pl) (bS (j O8 s σ H _ I h) λu s1 b=>?_) ht
 let⟨x,H1,I1,i,a,dx,fs,ex,e,l,q⟩:=b
 subst ex
 obtain rfl:u=N7.ref a:=i
 show lW I1 e c d l ?_
 show PySem.W.callWith_K0 (first:=[.ref a]) I1.kIn d.kp (pW (us:=[.ref a]) (vs:=[.ref a]) F n g hd hx I1 (.cons Z .nil) q)
structure Mk (K:JI) (C f:N8):Prop where
 makes:PySem.W.makesIn K C=true
 init:KG K (.ref C) "__init__" >some (.ref f)
 fn:LS K (.ref f)=true
 kp:Ky K (.ref C)=true
theorem qQ(M:Mk X.K C f)(F:eL X.prog X.w X.K X.mg X.O_ CX k f fd ps sp)(l:aT (k+1) X.A)(i:cA X.K fd ps ds)(hd:aZ dvs ds)
  (hx:gU CX X E) (I:aH X O8 σ H s) (r:aZ vs us)
  (h:∀x dx,H x=none->H dx=none->dx≠x->sp (.ref x::(vs++dvs)) (Ob (Ob H dx (.own x)) x (.ins C dx [])) (λv H2=>v=.non/\Q (.ref x) H2) E):
  Na (Nd X.prog X.w) X.A (call (.ref C) us) (EP X O8 σ Q) X.xe s:=by
 let hq:=h (~~~s+1) (~~~s) (I.hok.fresh (Nat.le_succ _)) (I.hok.fresh (JG _)) (JP (Lz _))
 let b:=aH.made (C:=C) I
 let c:aZ (V.ref (~~~s+1)::(vs++dvs)) (N7.ref (~~~s+1)::(us++ds)):=.cons Z (r.append hd)
 let d:↑(N7.ref (~~~s+1)::us++ds)=↑ps:=by
  let e:=↑c
  rw[F.len _ _ _ _ hq] at e
  show e.symm
 show wpAny_call (yD (f:=f) I.kIn M.makes M.init (beq_iff_eq.mp M.fn) (NR (F.run _ X.stack _ _ ⟨N7.ref (~~~s+1)::us,[]⟩ (N7.ref (~~~s+1)::(us++ds)) _ _ E (l.make C us [])
  (b.env0.make C us []) (i _ (N7.ref (~~~s+1)::us) b.kIn d) c hq) λr s' a=>?_))
 cases r with
 |error e=>show hx O8 σ _ _ e s' b a
 |ok fl=>
  cases fl with
  |ret u=>
   let⟨v,H',I3,m,g,j⟩:=b.after a
   subst g
   show⟨m,⟨V.ref (~~~s+1),H',I3,Z,j⟩⟩
  |next=>show False.elim a
  |brk=>show False.elim a
  |cont=>show False.elim a
theorem vN (M:Mk X.K C f)(F:eL X.prog X.w X.K X.mg X.O_ CX k f fd ps sp)(j:aT (k+1) X.A)(m:Gl X x)(g:X.mg x>.ref C)(d:cA X.K fd ps ds)(hd:aZ dvs ds)(hx:gU CX X E)
  (l:PA X (e::es) t) (a:(x==("__debug__" :Nh))=false:=by decide) (i:Nf (e::es) X.env=(false,eval e X.env)::Nf es X.env:=by rfl) (b:(NF pos (Nf es X.env)).any (·.1)=false:=by rfl):
  PE X (.Call (.Name x p) (e::es) [] pos) (oq C sp dvs E t):=by
 intro O8 s σ H Q I h
 show KQ (kQ I m g ?_ a)
 show Mu (h₀:=X.O_) I.ok.mod.kin M.kp (bS (l pos O8 s σ H _ I h) λn s1 c=>?_) i b
 let⟨vs,H1,I1,r,q⟩:=c
 show⟨I1.kIn,?_⟩
 show qQ M F j d hd hx I1 r q
theorem yv (M:Mk X.K C f)(F:eL X.prog X.w X.K X.mg X.O_ CX k f fd ps sp)(d:aT (k+1) X.A)(e:Gl X x)(c:X.mg x>.ref C)(b:cA X.K fd ps ds)(hd:aZ dvs ds)(hx:gU CX X E)
  (a:(x==("__debug__" :Nh))=false:=by decide):PE X (.Call (.Name x p) [] [] pos) (oq C sp dvs E e8):=by
 intro O8 s σ H Q I h
 show KQ (kQ I e c ?_ a)
 show PySem.W.callWith_K0 I.kIn M.kp (qQ (us:=[]) M F d b hd hx I .nil h)
end
structure eF (N P:-Nh) (sc:NS):Prop where
 kind:sc.kind=.function
 co:sc.isCoroutine=false
 gen:sc.isGenerator=false
 nd:N.Nodup
 pre:N.take ↑P=P
 par:∀x∈P,sc.names.lookup x>.local\/sc.names.lookup x>.cell
 nofree:∀y∈sc.names,y.2≠.free
theorem oB {a:Nh->Option No}:∀{binds:-(Nh×N7)} {m:Nh->Option N7},(∀v,(x,v)∉binds)->bindL a binds m x=m x
 |[],_,_=>rfl
 |(n,v)::r,m,h=>by
  unfold bindL
  rw[oB λw b=>h w (J0 _ b)]
  split
  ·have:x≠n:=by rintro rfl;show h v JZ
   simp[this]
  ·rfl
theorem m_ {a:Nh->Option No}:∀{binds:-(Nh×N7)} {m:Nh->Option N7},(∀v,(x,v)∉binds)->bindC a binds m x=m x
 |[],_,_=>rfl
 |(n,v)::r,m,h=>by
  unfold bindC
  rw[m_ λw b=>h w (J0 _ b)]
  split
  ·rfl
  ·have:x≠n:=by rintro rfl;show h v JZ
   simp[this]
theorem mV {a:Nh->Option No}:∀{P:-Nh} {vs:-N7} {i:Nat} {m:Nh->Option N7},P.Nodup->P[i]?>x->vs[i]?>v->a x>.local->
  bindL a (P.zip vs) m x>v
 |[],_,_,_,_,h,_,_=>by simp at h
 |_::_,[],_,_,_,_,h,_=>by simp at h
 |p::P,w::vs,0,m,nd,h1,h2,hk=>by
  simp at h1 h2;subst h1;subst h2
  change bindL a ((p,w)::P.zip vs) m p=_
  unfold bindL
  rw[oB λv b=>(Kj.mp nd).1 (Me b).1,N1 hk]
  simp
 |p::P,w::vs,i+1,m,nd,h1,h2,hk=>by
  change bindL a ((p,w)::P.zip vs) m x=_
  unfold bindL
  show mV (i:=i) (Kj.mp nd).2 (by simpa using h1) (by simpa using h2) hk
theorem oC {a:Nh->Option No}:∀{P:-Nh} {vs:-N7} {i:Nat} {m:Nh->Option N7},P.Nodup->P[i]?>x->vs[i]?>v->a x≠some .local->
  bindC a (P.zip vs) m x>v
 |[],_,_,_,_,h,_,_=>by simp at h
 |_::_,[],_,_,_,_,h,_=>by simp at h
 |p::P,w::vs,0,m,nd,h1,h2,hk=>by
  simp at h1 h2;subst h1;subst h2
  change bindC a ((p,w)::P.zip vs) m p=_
  unfold bindC
  rw[m_ λv b=>(Kj.mp nd).1 (Me b).1,N0 hk]
  simp
 |p::P,w::vs,i+1,m,nd,h1,h2,hk=>by
  change bindC a ((p,w)::P.zip vs) m x=_
  unfold bindC
  show oC (i:=i) (Kj.mp nd).2 (by simpa using h1) (by simpa using h2) hk
noncomputable def start (N:-Nh) (vs:-V):St:=vs.map some++List.replicate (↑N - ↑vs) none
noncomputable def mq (CX:Bi) (P:Ni) (w:Nr) (K:JI) (mg:Nh->Option N7) (O_:Ng) (N:-Nh) (qual:Nh) (scope:NS) (f:N8) (cd:N7) (A:Nu) (outer:-O0) (s:N_) (H:Hp) (E:XK):Cx where
 prog:=P
 w:=w
 K:=K
 mg:=mg
 O_:=O_
 A:=A.deeper (envOfC qual scope (~~~s) f cd)
 N:=N
 s₀:=s
 H₀:=H
 env:=envOfC qual scope (~~~s) f cd
 outer:=outer
 stack:=envOfC qual scope (~~~s) f cd::outer
 ex:=[]
 calm:=true
 fn:=λ_=>true
 pn:=[]
 xe:=λe s'=>Na (Nd P w) (A.deeper (envOfC qual scope (~~~s) f cd)) (leaving (envOfC qual scope (~~~s) f cd) e) (λ_ a=>CX outer H s E e a) (λb a=>CX outer H s E b a) s'
theorem rX {a:NS}{n:Nat}{x:Nh}(h:a.names.lookup x>.cell):∃c,(cellsFrom n a.names []).lookup x>c:=by
 let q:=PySem.W.cellsFrom_some a.names n [] (.inl h)
 show LU.mp q
theorem nY {CX:Bi}{P:Ni}{N ps:-Nh}{qual:Nh}{scope:NS}{f:N8}{cd:N7}{l:-O0}{s1:N_}{E:XK}{us:-N7}{vs:-V}
  (S:eF N ps scope) (hd:A.handled=none) (m:kD P w K mg O_ A l s H) (D:↑vs=↑ps) (r:aZ vs us)
  (x:InCallC s (~~~s) (bindL (envOfC qual scope (~~~s) f cd).kindOf (ps.zip us) λ_=>none) (cellsFrom (~~~s+1) scope.names []) (bindC (envOfC qual scope (~~~s) f cd).kindOf (ps.zip us) λ_=>none) s1):
  aH (mq CX P w K mg O_ N qual scope f cd A l s H E) [] (start N vs) H s1:=by
 let j:↑ps<=↑N:=by have:=congrArg List.length S.pre;rw[KH] at this;lia
 let⟨h1,tk,rfl,B⟩:=x.done
 let d:∀b:N8,b∉(mq CX P w K mg O_ N qual scope f cd A l s H E).ex:=λb z=>absurd (show b∈([]:-N8) from z) (by simp)
 show⟨⟨m.mod,S.kind,Z,Z,JG _,λy z c h1 h2=>?_,λy hy=>?_,λy c _ h=>?_,λ_=>hd,Nu.frames_deeper m.frames,.inr ⟨Z,Z⟩,λb z=>absurd z (d b),m.bs,m.bsz,λb _ _=>d b,λb z=>absurd z (d b),m.funs,m.frf⟩,
  rfl,m.bare,Un.kept B,⟨_,x.toInCall.ns,λi y v h1 h2 F=>?_⟩,λy c h=>⟨_,x.cell y c h⟩,m.hok.fresh (JG _),λy c h=>?_,λp hp=>absurd (show p∈([]:-(N8×Nv)) from hp) (by simp),m.hok.kept B,?_⟩
 ·show name_of_addr x.apart (PySem.mem_of_lookup h1) (PySem.mem_of_lookup h2)
 ·let hy:scope.names.lookup y>.cell\/scope.names.lookup y>.free:=hy
  rcases hy with hy|hy
  ·show rX hy
  ·show absurd Z (S.nofree _ (PySem.mem_of_lookup hy))
 ·show Kh (x.above y c (PySem.mem_of_lookup h))
 ·let hi:i<↑vs:=by
   unfold start at h2
   by_cases hi:i<↑vs
   ·show hi
   ·rw[Ll (by simpa using hi)] at h2
    rw[List.getElem?_replicate] at h2
    split at h2<;>cases h2
  let ha:vs[i]?>v:=by
   unfold start at h2
   rw[K3 (by simpa using hi),JV] at h2
   cases e:vs[i]? with
   |none=>rw[e] at h2;cases h2
   |some a=>rw[e] at h2;cases h2;rfl
  let⟨u,o,C⟩:=r.get ha
  let hp:ps[i]?>y:=by
   rw[<-S.pre,List.getElem?_take_of_lt ()];show h1
  let g:ps.Nodup:=by rw[<-S.pre];show S.nd.sublist (List.take_sublist _ _)
  show⟨u,C,?_⟩
  rcases S.par y (JY hp) with k|k
  ·show .inl ⟨k,mV g hp o k⟩
  ·let⟨c,e⟩:=rX (n:= ~~~s+1) k
   show .inr ⟨.inl k,c,e,?_⟩
   let q:=x.cell y c e
   rw[oC g hp o (by change scope.names.lookup y≠_;rw[k];decide)] at q
   show q
 ·show m.hok.fresh (Kh (x.above y c (PySem.mem_of_lookup h)))
 ·unfold start
  change _=↑N
  rw[JQ,JF,Mf]
  lia
theorem DH {CX:Bi}{P:Ni}{k:Nat}{f:N8}{name qual:Nh}{params:Arguments}{body:-Nn}{scope:NS}{L kV m pm h O oc:N7}{F Z0:Option N8}
  {B:Array (Option N7)} {N ps:-Nh} {sp:Sp} (lk:K.lookup f>⟨oc,Z0,.func (Kf name qual params body scope L kV m pm F h O),B⟩) (C:KR K h qual=true) (S:eF N ps scope)
  (len:∀vs H Q E,sp vs H Q E->↑vs=↑ps)
  (j:∀(A:Nu) (g:-O0) (s:N_) (H:Hp) (vs:-V) (Q:VK) (E:XK),aT k (A.deeper (envOfC qual scope (~~~s) f h))->sp vs H Q E->
   ∃t,qN (mq CX P w K mg O_ N qual scope f h A g s H E) body t/\t {nx:=λ_ H'=>Q .non H',rt:=Q} (start N vs) H):
  eL P w K mg O_ CX (k+1) f (Kf name qual params body scope L kV m pm F h O) ps sp:=by
 show⟨len,λA g s H R X vs Q E hr p hb r z=>?_⟩
 let U:=len _ _ _ _ z
 let M:K.In s.heap:=p.mod.kin.keeps λb o e=>(p.bs b o e).1
 let d:s.heap.NoLimit:=p.mod.nolimit.keeps λb o e=>(p.bs b o e).1
 let a:∀y∈ps.zip X,scope.names.lookup y.1>.local\/(scope.names.lookup y.1>.cell/\((cellsFrom (~~~s+1) scope.names []).lookup y.1).isSome=true):=λ⟨n,v⟩ T=>by
  rcases S.par n (Me T).1 with q|q
  ·show .inl q
  ·show .inr ⟨q,PySem.W.cellsFrom_some _ _ _ (.inl q)⟩
 show codeAny_call_function hr.depth (M _ _ lk) Z S.co S.gen Z (PySem.W.codeRec_of M C) (hb _ _ _ _ ?_)
 show wpAny_newFunctionEnv_cells S.kind a λenv he s1 x=>?_
 subst he
 show⟨d.keeps x.toInCall.keep,codeAny_func ?_⟩
 let⟨t,ht,hq⟩:=j A g s H vs Q E (hr.deeper _) z
 let I:aH (mq CX P w K mg O_ N qual scope f h A g s H E) [] (start N vs) H s1:=nY S hr.hd p U r x
 show Km (ht [] s1 (start N vs) H _ I hq) (λY s' l=>?_) λe s' l=>l
 let c:∀{i:St} {H':Hp} {v:V} {u:N7},aH (mq CX P w K mg O_ N qual scope f h A g s H E) [] i H' s'->a8 v u->Q v H'->CE g P w H s Q u s':=
  fun{i H' v u} J D q=>⟨v,H',J.os,J.bare,J.O_,J.hok,D,q⟩
 cases Y with
 |ret u=>
  let⟨v,i,H',J,D,q⟩:=l
  show c J D q
 |next=>
  let⟨i,H',J,q⟩:=l
  show c (v:=V.non) (u:=N7.none) J Z q
 |brk=>
  let⟨_,_,_,q⟩:=l
  show False.elim q
 |cont=>
  let⟨_,_,_,q⟩:=l
  show False.elim q
section
variable {x:Nh} {p pos:O1} {e:Nw} {es:-Nw} {t:TA} {id T:String} {r:-V->Hp->VK->Prop}
def zf (r:-V->Hp->VK->Prop) (t:TA):TE:=λσ H Q=>t σ H λvs H1=>r vs H1 Q
theorem Ad (l:cy X (.builtin id) r)(n:Gl X x)(j:X.mg x=none)(i:NB x>.builtin id)(m:PA X (e::es) t)(o:x≠ "__name__" :=by decide)(a:(x==("__debug__" :Nh))=false:=by decide)
  (k:Nf (e::es) X.env=(false,eval e X.env)::Nf es X.env:=by rfl) (b:(NF pos (Nf es X.env)).any (·.1)=false:=by rfl):PE X (.Call (.Name x p) (e::es) [] pos) (zf r t):=by
 intro O8 s σ H Q I h
 show KQ (fW I n j i ?_ o a)
 show PyProof.Rows.callWith_builtin1 (bS (m pos O8 s σ H _ I h) λf s1 c=>by let⟨vs,H1,I1,d,g⟩:=c;show l O8 s1 σ H1 vs f Q I1 d g) k b
theorem oF (l:cy X (.type T) r)(n:Gl X x)(j:X.mg x=none)(i:NB x>.type T)(m:PA X (e::es) t)(o:x≠ "__name__" :=by decide)(a:(x==("__debug__" :Nh))=false:=by decide)
  (k:Nf (e::es) X.env=(false,eval e X.env)::Nf es X.env:=by rfl) (b:(NF pos (Nf es X.env)).any (·.1)=false:=by rfl):PE X (.Call (.Name x p) (e::es) [] pos) (zf r t):=by
 intro O8 s σ H Q I h
 show KQ (fW I n j i ?_ o a)
 show PyProof.Rows.callWith_type1 (bS (m pos O8 s σ H _ I h) λf s1 c=>by let⟨vs,H1,I1,d,g⟩:=c;show l O8 s1 σ H1 vs f Q I1 d g) k b
end
end L2
namespace HT
open PySem PyProof.Rows
noncomputable def lexLt:-Int->-Int->Bool
 |[],[]=>false
 |[],_::_=>true
 |_::_,[]=>false
 |x::xs,y::ys=>if x=y then lexLt xs ys else decide (x<y)
theorem lexLt_cons (x y:Int)(xs ys:-Int):lexLt (x::xs) (y::ys)=if x=y then lexLt xs ys else decide (x<y):=rfl
theorem lexLt_nil_nil:lexLt [] []=false:=rfl
theorem lexLt_nil_cons (y:Int)(ys:-Int):lexLt [] (y::ys)=true:=rfl
theorem lexLt_cons_nil (x:Int)(xs:-Int):lexLt (x::xs) []=false:=rfl
noncomputable def sIx (n d:Nat):Option Int->Nat
 |none=>d
 |some v=>if v<0 then (v+(n:Int)).toNat else min v.toNat n
theorem sIx_none (n d:Nat):sIx n d none=d:=rfl
theorem sIx_nat (n d k:Nat):sIx n d (some (k:Int))=min k n:=by
 change(if (k:Int)<0 then ((k:Int)+(n:Int)).toNat else min (k:Int).toNat n)=min k n
 rw[N0 (),Kv]
end HT
namespace L2
open PySem PySem.Spec PyProof.Rows
variable {X:Cx} {O8:-(N8×Nv)} {σ:St} {H:Hp} {s:N_} {prog:Ni} {w:Nr} {A:Nu} {E:N7->N_->Prop} {K:JI} {mg:Nh->Option N7} {O_:Ng}
abbrev TO:=St->Hp->(Option Int->Hp->Prop)->Prop
def PO (X:Cx) (e:Option Nw) (t:TO):Prop:=
 ∀(O8:-(N8×Nv)) (s:N_) (σ:St) (H:Hp) (Q:Option Int->Hp->Prop),aH X O8 σ H s->t σ H Q->
  Na (Nd X.prog X.w) X.A (evalPart e X.env) (λu s'=>∃o H',aH X O8 σ H' s'/\IsPart u o/\Q o H') X.xe s
def BN:TO:=λ_ H Q=>Q none H
noncomputable def G9 (t:TE):TO:=λσ H Q=>t σ H λx H1=>∃i,x=.int i/\Q (some i) H1
theorem gm{ns:-Int}:∀{a:-N7},aZ (ns.map V.int) a->O6 a ns:=by
 induction ns with
 |nil=>intro a r;rw[List.map_nil] at r;cases r;show .nil
 |cons n ns ih=>
  intro a r
  cases r with
  |cons r1 r2=>
   let⟨t,e⟩:=r1
   subst e
   show .cons n t (ih r2)
section
variable {e:Nw} {te:TE} {lo hi:Option Nw} {tl th:TO} {pos p2:O1}
theorem BB:PO X none BN:=by
 intro O8 s σ H Q I h
 show JE ⟨none,H,I,.none,h⟩
theorem oP (h:PE X e te):PO X (some e) (G9 te):=by
 intro O8 s σ H Q I d
 show bS (h O8 s σ H _ I d) λu s1 a=>?_
 let⟨x,H1,I1,b,c⟩:=a
 let⟨i,rfl,q⟩:=c
 let⟨t,rfl⟩:=b
 show⟨some i,H1,I1,.int i t,q⟩
def Jo (X:Cx) (r:V->Option Int->Option Int->Hp->VK->Prop):Prop:=
 ∀(O8:-(N8×Nv)) (s:N_) (σ:St) (H:Hp) (x:V) (v b a:N7) (lo hi:Option Int) (c:N8) (Q:VK),aH X O8 σ H s->a8 x v->s.heap.IsSliceOf c b a .none->IsPart b lo->IsPart a hi->r x lo hi H Q->
  ∃T id,NW (.type T) "__getitem__" =pure (some (.builtin id))/\s.TypeIs v T/\Na (Nd X.prog X.w) X.A (getItem v (.ref c)) (EP X O8 σ Q) X.xe s
def Jy (r:V->Option Int->Option Int->Hp->VK->Prop) (te:TE) (b a:TO):TE:=λσ H Q=>te σ H λx H1=>b σ H1 λl H2=>a σ H2 λu H3=>r x l u H3 Q
theorem qS {r:V->Option Int->Option Int->Hp->VK->Prop}(z:Jo X r)(y:PE X e te)(i:PO X lo tl)(j:PO X hi th):PE X (.Subscript e (.Slice lo hi none p2) pos) (Jy r te tl th):=by
 intro O8 s σ H Q I h
 show Subscript_ (bS (y O8 s σ H _ I h) λv s1 a=>?_)
 let⟨x,H1,I1,g,p⟩:=a
 show wpAny_Slice (bS (i O8 s1 σ H1 _ I1 p) λf A a=>?_)
 let⟨l,H2,I2,w,o⟩:=a
 show bS (j O8 A σ H2 _ I2 o) λd c a=>?_
 let⟨u,H3,I3,n,k⟩:=a
 show JE ?_
 let B:aH X O8 σ H3 {c with heap:=c.heap.push {cls:=.type "slice",data:=.fields #[f,d,.none]}}:=I3.kept (t':=c.toks) λb C q=>JK _ q
 let⟨T,id,m,ht,hg⟩:=z O8 {c with heap:=c.heap.push {cls:=.type "slice",data:=.fields #[f,d,.none]}} σ H3 x v f d l u (~~~c) Q B g (Ng.IsSliceOf.new ..) w n k
 show tail_any (ops:=[.ref (~~~c),v]) ht m hg (by with_unfolding_all rfl)
noncomputable def mn (xs:-V) (lo a:Option Int):-V:=(xs.drop (HT.sIx ↑xs 0 lo)).take (HT.sIx ↑xs ↑xs a - HT.sIx ↑xs 0 lo)
theorem j7 (xs:-V)(lo a:Option Int):↑(mn xs lo a)<=↑xs:=by
 unfold mn
 rw[KH,List.length_drop]
 omega
end
noncomputable def zj (n:Nat) (i:Int):Option Nat:=if 0<=i then (if i<n then some i.toNat else none) else if -(n:Int)<=i then some (i+n).toNat else none
noncomputable def jT {α:Type} (xs:-α) (i:Int):Option α:=(zj ↑xs i).bind λj=>xs[j]?
theorem v8(h:zj n i>j):seqIndex? i n>j/\j<n/\ -(n:Int)<=i/\i<n:=by
 unfold zj at h
 by_cases h0:0<=i
 ·rw[N1 h0] at h
  by_cases h1:i<n
  ·rw[N1 h1] at h
   let e:i.toNat=j:=Option.some.inj h
   show⟨by rw[seqIndex_of h0 h1,e],(),(),h1⟩
  ·rw[N0 h1] at h;cases h
 ·rw[N0 h0] at h
  by_cases h1: -(n:Int)<=i
  ·rw[N1 h1] at h
   let e:(i+n).toNat=j:=Option.some.inj h
   show⟨by rw[seqIndex_neg () h1,e],(),h1,()⟩
  ·rw[N0 h1] at h;cases h
theorem pG {a:Type}{xs:-a}{v:a}(h:jT xs i>v):∃j,seqIndex? i ↑xs>j/\xs[j]?>v/\j<↑xs/\ -(↑xs:Int)<=i/\i<↑xs:=by
 unfold jT at h
 cases e:zj ↑xs i with
 |none=>rw[e] at h;cases h
 |some j=>
  rw[e] at h
  let⟨h1,h2,b,c⟩:=v8 e
  show⟨j,h1,h,h2,b,c⟩
theorem cE {a:Type}{xs:-a}{j:Nat}{v:a}(h:xs[j]?>v):jT xs (j:Int)>v:=by
 let b:j<↑xs:=(JX.mp h).1
 let e:zj ↑xs (j:Int)>j:=by
  unfold zj
  rw[N1 (),N1 ()];simp
 unfold jT;rw[e];show h
theorem Be {a:Type}(xs:-a)(v:a):jT (xs++[v]) (-1)>v:=by
 let b:↑(xs++[v])=↑xs+1:=by simp
 let e:zj ↑(xs++[v]) (-1)>↑xs:=by
  unfold zj
  rw[b,N0 (by decide),N1 ()]
  congr 1
  lia
 unfold jT
 rw[e]
 change(xs++[v])[↑xs]?>v
 simp
def vE (b:Nw):Prop:=∀o i,subscripted b false o i=operate [o,i] (getItem o i)
def Fk (X:Cx) (r:R2):Prop:=
 ∀(value a:Nw) (O8:-(N8×Nv)) (s:N_) (σ:St) (H:Hp) (x y:V) (v u:N7) (Q:VK),aH X O8 σ H s->a8 x v->a8 y u->r x y H Q->
  subscripted a false v u=operate [v,u] (getItem v u)->Na (Nd X.prog X.w) X.A (subscriptTail value a v u) (EP X O8 σ Q) X.xe s
def Gx (X:Cx) (id:String) (r:V->-V->Hp->VK->Prop):Prop:=
 ∀(O8:-(N8×Nv)) (s:N_) (σ:St) (H:Hp) (x:V) (xs:-V) (v:N7) (a:-N7) (Q:VK),aH X O8 σ H s->a8 x v->aZ xs a->r x xs H Q->
  Na (Nd X.prog X.w) X.A (call (.builtin id) (v::a)) (EP X O8 σ Q) X.xe s
section
variable {a b:Nw} {ta tb:TE} {pos:O1}
theorem GZ(i:Fk X r)(c:PE X a ta)(e:PE X b tb)(d:vE b):PE X (.Subscript a b pos) (e9 r ta tb):=by
 intro O8 s σ H Q I h
 show Subscript_ (FJ c e I h λv u j x y H2 I2 f g q=>i a b O8 j σ H2 x y v u Q I2 f g q (d _ _))
def jF (K:JI):R2:=λx y H Q=>∃p xs i v,x=.ref p/\y=.int i/\aN K H p xs/\jT xs i>v/\Q v H
def lE (K:JI):R2:=λx y H Q=>∃p xs i v,x=.ref p/\y=.int i/\a_ K H p xs/\jT xs i>v/\Q v H
def Hf:R2:=λx y H Q=>∃z i c,x=.str z/\y=.int i/\↑z<=N9/\jT z.cps.toList i>c/\Q (.str ⟨#[c]⟩) H
theorem aQ:Fk X (jF X.K):=by
 intro value e O8 s σ H x y v u Q I A m h g
 let⟨p,xs,i,z,rfl,rfl,hq,B,q⟩:=h
 cases A
 let⟨t,rfl⟩:=m
 let⟨b,r,f,E⟩:=I.list hq
 let⟨j,h1,h2,C,n,o⟩:=pG B
 let⟨w,k,c⟩:=r.get h2
 let l:=↑r
 let D:=oO
 let a:EP X O8 σ Q w s:=⟨z,H,I,c,q⟩
 by_cases h0:0<=i
 ·let d:i.toNat=j:=by
   rw[seqIndex_of h0 o] at h1
   show Option.some.inj h1
  show item_listR f.isList h0 () (by rw[d];simpa using k) a g
 ·let d:(i+(b.toArray.size:Int)).toNat=j:=by
   rw[seqIndex_neg () n] at h1
   rw[J8,<-l]
   show Option.some.inj h1
  show subscriptTail_builtinR (x:=w) f.isList.typeIs slot_list_getitem.lookup
   (wpAny_getItem_list_neg (Q:=λr s'=>r=w/\EP X O8 σ Q r s') f.isList () (by rw[J8]<;>lia) () (by rw[d];simpa using k) ⟨Z,a⟩) g
theorem aD:Fk X (lE X.K):=by
 intro value d O8 s σ H x y v u Q I m k h g
 let⟨p,xs,i,z,rfl,rfl,hq,n,q⟩:=h
 cases m
 let⟨t,rfl⟩:=k
 let⟨c,r,e,D⟩:=I.tuple hq
 let⟨j,h1,h2,o,B,C⟩:=pG n
 let⟨w,l,b⟩:=r.get h2
 let f:=↑r
 let A:=oO
 let a:EP X O8 σ Q w s:=⟨z,H,I,b,q⟩
 show subscriptTail_builtinR (x:=w) e.typeIs slot_tuple_getitem.lookup
  (getItem_tuple (j:=j) (Q:=λr s'=>r=w/\EP X O8 σ Q r s') e () () (by rw[J8,<-f];show h1) (by simpa using l) ⟨Z,a⟩) g
theorem Fp:Fk X Hf:=by
 intro value a O8 s σ H x y v u Q I l m h d
 let⟨z,i,c,rfl,rfl,p,n,q⟩:=h
 let⟨t,rfl⟩:=l
 let⟨o,rfl⟩:=m
 let⟨j,h1,h2,r,e,g⟩:=pG n
 let b:↑z.cps.toList=↑z:=by simp[Nh.length]
 rw[b] at h1 e g
 let w:=oO
 show tail_any (typeIs_str s z t) slot_str_getitem.lookup (getItem_str (c:=c) (by
  let k:decide (i< -(2^63:Int))=false:=N5 ()
  let f:decide (i>=2^63)=false:=N5 ()
  rw[k,f,Bool.or_false]) (by rw[h1];simpa using h2) ⟨.str ⟨#[c]⟩,H,I.tok _,⟨_,Z⟩,q⟩) d
theorem tO (its:-N7)(n j:Nat)(u:N7):Nv.mapSeq (·.setIfInBounds j u) {cls:=.type "list",data:=.seq its.toArray n}={cls:=.type "list",data:=.seq (its.set j u).toArray n}:=by
 simp[Nv.mapSeq]
theorem aH.lst(I:aH X O8 σ H s)(h:H p>.lst xs):
  ∃(a:-N7) (n:Nat),aZ xs a/\s.heap.get? p=some {cls:=.type "list",data:=.seq a.toArray n}/\↑xs<=N9:=by
 let⟨z,a,n,r,e⟩:=I.hok p _ h
 show⟨a,n,r,e,z⟩
theorem aH.lstUpd {p:N8}{xs ys:-V}{its its':-N7}{n a:Nat}{f:Nv->Nv}(I:aH X O8 σ H s)(h:H p>.lst xs)
  (c:s.heap.get? p=some {cls:=.type "list",data:=.seq its.toArray n}) (hf:f {cls:=.type "list",data:=.seq its.toArray n}={cls:=.type "list",data:=.seq its'.toArray a}) (r:aZ ys its') (hz:↑ys<=N9) (t:Nat):
  aH X O8 σ (Ob H p (.lst ys)) {s with heap:=s.heap.update p f,toks:=t}:=by
 let e:(s.heap.update p f).get? p=some {cls:=.type "list",data:=.seq its'.toArray a}:=by
  rw[Kr f c (by rw[hf]<;>rfl),hf]
 show I.write (x:=p) (e:=p) (by rw[h];trivial) (.inl Z) (λb u hb q=>(KS _ _ (JH hb)).trans q) ⟨_,e⟩ ?_
 show⟨hz,its',a,r,e⟩
noncomputable def GF:V->V->V->Hp->(Hp->Prop)->Prop:=λo i v H Q=>∃p xs k j,o=.ref p/\i=.int k/\H p>.lst xs/\zj ↑xs k>j/\Q (Ob H p (.lst (xs.set j v)))
theorem eW:G3 X GF:=by
 intro O8 s σ H o i v ov y u Q I ro w m h
 let⟨p,xs,k,j,rfl,rfl,hp,l,q⟩:=h
 cases ro
 let⟨t,rfl⟩:=w
 let⟨a,n,r,d,x⟩:=I.lst hp
 let⟨h1,h2,f,g⟩:=v8 l
 let c:=↑r
 let z:=oO
 let e:aH X O8 σ (Ob H p (.lst (xs.set j v))) {s with heap:=s.heap.update p (Nv.mapSeq (·.setIfInBounds j u))}:=
  I.lstUpd hp d (tO a n j u) (r.set m j) (KU<|x) s.toks
 by_cases h0:0<=k
 ·let b:k.toNat=j:=by
   rw[seqIndex_of h0 g] at h1
   show Option.some.inj h1
  show PySem.W.ki_setAt d h0 () (by rw[J8,<-c];show g) (b<|⟨_,e,q⟩)
 ·let b:(k+(a.toArray.size:Int)).toNat=j:=by
   rw[seqIndex_neg () f] at h1
   rw[J8,<-c]
   show Option.some.inj h1
  show PySem.W.ki_setBack d () (by rw[J8,<-c];show f) () (b<|⟨_,e,q⟩)
theorem p9 (lo a:Option Int)(n:Nat):(NZ lo a none n).1=((HT.sIx n 0 lo:Nat):Int)/\(NZ lo a none n).2.1=((HT.sIx n n a:Nat):Int)/\(NZ lo a none n).2.2=1:=by
 show⟨?_,?_,Z⟩
 ·cases lo with
  |none=>simp[NZ,HT.sIx]
  |some i=>
   simp only[NZ,HT.sIx,Option.getD_none,show GT.gt (1:Int) 0 by decide,if_true]
   by_cases h:i<0
   ·simp only[h,if_true]<;>lia
   ·simp only[h,if_false]<;>lia
 ·cases a with
  |none=>simp[NZ,HT.sIx]
  |some i=>
   simp only[NZ,HT.sIx,Option.getD_none,show GT.gt (1:Int) 0 by decide,if_true]
   by_cases h:i<0
   ·simp only[h,if_true]<;>lia
   ·simp only[h,if_false]<;>lia
theorem mI (its:-N7)(lo a:Option Int):slicePick its.toArray lo a none=((its.drop (HT.sIx ↑its 0 lo)).take (HT.sIx ↑its ↑its a - HT.sIx ↑its 0 lo)).toArray:=by
 let⟨h1,h2,b⟩:=p9 lo a its.toArray.size
 unfold slicePick
 rw[h1,h2,b]
 simp only[sliceRange_one,pick_run,J8]<;>rfl
noncomputable def Iv (K:JI):V->Option Int->Option Int->Hp->VK->Prop:=λx lo hi H Q=>∃a xs,x=.ref a/\aN K H a xs/\∀p,H p=none->Q (.ref p) (Ob H p (.lst (mn xs lo hi)))
theorem vh:Jo X (Iv X.K):=by
 intro O8 s σ H x v n l lo hi p Q I j f k g h
 let⟨a,xs,rfl,e,q⟩:=h
 cases j
 let⟨d,r,ht,i⟩:=I.list e
 let c:=↑r
 show⟨"list",_,slot_list_getitem.lookup,ht.isList.typeIs,?_⟩
 show wpAny_getItem_list_slice ht.isList f k g .none (by simp) ?_ (by rw[J8]<;>lia)
 rw[mI,<-c]
 show⟨.ref (~~~s),_,I.laid (t':=s.toks) (o:=.lst (mn xs lo hi)) (λb m q=>JK _ q) (JG _) ?_,Z,q _ (I.hok.fresh (JG _))⟩
 show⟨J1 (j7 xs lo hi) i,_,0,(r.drop (HT.sIx ↑xs 0 lo)).take (HT.sIx ↑xs ↑xs hi - HT.sIx ↑xs 0 lo),JT _ Z⟩
noncomputable def jc:V->Bool
 | .non=>true
 | .bl _=>true
 | .int _=>true
 | .str _=>true
 |_=>false
noncomputable def D6:V->V->Bool
 | .non,.non=>true
 | .bl a,.bl b=>a==b
 | .bl a,.int b=>(if a then 1 else 0)==b
 | .int a,.bl b=>a==(if b then 1 else 0)
 | .int a,.int b=>a==b
 | .str a,.str b=>a==b
 |_,_=>false
theorem E4(f:a8 y u)(c:a8 x v)(g:jc y=true)(e:jc x=true):SeqAt.EqAt A s u v (D6 y x):=by
 cases y with
 |non=>
  cases f
  cases x with
  |non=>cases c;show SeqAt.EqAt.same _
  |bl b=>cases c;show SeqAt.EqAt.none_bool b
  |int b=>let⟨t,rfl⟩:=c;show SeqAt.EqAt.none_int b t
  |str b=>let⟨t,rfl⟩:=c;show SeqAt.EqAt.none_str b t
  |_=>show absurd (show false=true from e) JR
 |bl a=>
  cases f
  cases x with
  |non=>cases c;show SeqAt.EqAt.bool_none a
  |bl b=>cases c;show SeqAt.EqAt.bool_bool a b
  |int b=>let⟨t,rfl⟩:=c;show SeqAt.EqAt.bool_int a b t
  |str b=>let⟨t,rfl⟩:=c;show SeqAt.EqAt.bool_str a b t
  |_=>show absurd (show false=true from e) JR
 |int a=>
  let⟨d,rfl⟩:=f
  cases x with
  |non=>cases c;show SeqAt.EqAt.int_none a d
  |bl b=>cases c;show SeqAt.EqAt.int_bool a d b
  |int b=>let⟨t,rfl⟩:=c;show SeqAt.EqAt.int_int a d b t
  |str b=>let⟨t,rfl⟩:=c;show SeqAt.EqAt.int_str a d b t
  |_=>show absurd (show false=true from e) JR
 |str a=>
  let⟨d,rfl⟩:=f
  cases x with
  |non=>cases c;show SeqAt.EqAt.str_none a d
  |bl b=>cases c;show SeqAt.EqAt.str_bool a d b
  |int b=>let⟨t,rfl⟩:=c;show SeqAt.EqAt.str_int a d b t
  |str b=>let⟨t,rfl⟩:=c;show SeqAt.EqAt.str_str a d b t
  |_=>show absurd (show false=true from e) JR
 |_=>show absurd (show false=true from g) JR
noncomputable def C3 (x:V) (u:N7):Bool:=match u with
 | .none=>D6 .non x
 | .bool b=>D6 (.bl b) x
 | .int i _=>D6 (.int i) x
 | .str z _=>D6 (.str z) x
 |_=>false
theorem zI(r:a8 y u)(f:jc y=true):C3 x u=D6 y x:=by
 cases y with
 |non=>cases r;rfl
 |bl b=>cases r;rfl
 |int i=>let⟨t,rfl⟩:=r;rfl
 |str z=>let⟨t,rfl⟩:=r;rfl
 |_=>show absurd (show false=true from f) JR
theorem vf(g:aZ xs us)(f:xs.all jc=true):us.any (C3 x)=xs.any λy=>D6 y x:=by
 induction g with
 |nil=>rfl
 |cons r t ih=>
  rw[List.all_cons,Kd] at f
  rw[List.any_cons,List.any_cons,zI r f.1,ih f.2]
theorem rA(a:a8 x v)(b:jc x=true){xs:-V}{us:-N7}(g:aZ xs us)(f:xs.all jc=true):∀u∈us,SeqAt.EqAt A s u v (C3 x u):=by
 induction g with
 |nil=>show λu hu=>by cases hu
 |cons r t ih=>
  intro c hu
  rw[List.all_cons,Kd] at f
  rcases JO.mp hu with rfl|hu
  ·rw[zI r f.1];show E4 r a f.1 b
  ·show ih f.2 c hu
def Gc (x:V) (xs:-V):Bool:=xs.any λy=>D6 y x
def Jq (K:JI) (a:Bool):R2:=λx y H Q=>∃p xs,y=.ref p/\(aN K H p xs\/a_ K H p xs)/\jc x=true/\xs.all jc=true/\Q (.bl (if a then !Gc x xs else Gc x xs)) H
theorem oK:gj X (Nk .NotIn) (Jq X.K true):=by
 intro O8 s σ H x y v u Q I d g h
 let⟨p,xs,rfl,hq,e,fs,q⟩:=h
 cases g
 rcases hq with hq|hq
 ·let⟨a,r,c,f⟩:=I.list hq
  show SeqAt.notIn_listAt (C3 x) c.isList (λw b=>rA d e r fs w (by simpa using b)) ⟨.bl _,H,I,Z,?_⟩
  rw[show a.toArray.any (C3 x)=a.any (C3 x) by simp,vf r fs]
  show q
 ·let⟨a,r,c,f⟩:=I.tuple hq
  show SeqAt.notIn_tupleAt (C3 x) c (λw b=>rA d e r fs w (by simpa using b)) ⟨.bl _,H,I,Z,?_⟩
  rw[show a.toArray.any (C3 x)=a.any (C3 x) by simp,vf r fs]
  show q
theorem dh:cy X (.type "list") (λxs H Q=>∃p ys,xs=[.ref p]/\(aN X.K H p ys\/a_ X.K H p ys)/\∀l,H l=none->Q (.ref l) (Ob H l (.lst ys))):=by
 intro O8 s σ H xs y Q I r h
 let⟨p,ys,rfl,hq,q⟩:=h
 let⟨u,rfl,x⟩:=dO r
 cases x
 let c:∀(a:-N7),aZ ys a->↑ys<=N9->∀(h':Ng) (f:Nat),(∀b o',s.heap.get? b>o'->h'.get? b>o')->
   h'.get? (~~~s)=some {cls:=.type "list",dict:=none,data:=.seq a.toArray f,slots:= #[]}->EP X O8 σ Q (.ref (~~~s)) {s with heap:=h'}:=λa g j h' f i e=>
  ⟨.ref (~~~s),_,I.laid (t':=s.toks) i (JG _) (show bM X.prog X.w _ h' _ (.lst ys) from⟨j,a,f,g,e⟩),Z,q _ (I.hok.fresh (JG _))⟩
 rcases hq with hq|hq
 ·let⟨a,g,v,j⟩:=I.list hq
  let d:=↑g
  let⟨o,m,k,n,hd⟩:=v.isList
  show call_list_seq p (.inl Z) m k hd (λh' f i e=>c a g j h' f i e) (by simp only[J8]<;>lia)
 ·let⟨a,g,v,j⟩:=I.tuple hq
  let d:=↑g
  let⟨o,m,k,n,hd⟩:=v
  show call_list_seq p (.inr Z) m k hd (λh' f i e=>c a g j h' f i e) (by simp only[J8]<;>lia)
theorem mT:cy X (.type "tuple") (λxs H Q=>∃p ys,xs=[.ref p]/\((aN X.K H p ys/\∀l,H l=none->Q (.ref l) (Ob H l (.tup ys)))\/(a_ X.K H p ys/\Q (.ref p) H))):=by
 intro O8 s σ H xs n Q I r h
 let⟨p,ys,rfl,h⟩:=h
 let⟨u,rfl,k⟩:=dO r
 cases k
 rcases h with ⟨hq,q⟩|⟨hq,q⟩
 ·let⟨a,f,d,i⟩:=I.list hq
  let c:=↑f
  show call_tuple_list d.isList (λh' j=>?_) (by simp only[J8]<;>lia)
  let g:aH X O8 σ H {s with heap:=h'}:=I.kept (t':=s.toks) j
  let m:aH X O8 σ (Ob H h'.objs.size (.tup ys)) {s with heap:=h'.push {cls:=.type "tuple",data:=.seq a.toArray}}:=
   g.laid (t':=s.toks) (λb o e=>JK _ e) (JG _) (show bM X.prog X.w _ _ _ (.tup ys) from⟨i,a,f,IsTup.new _ _⟩)
  show⟨.ref h'.objs.size,_,m,Z,q _ (g.hok.fresh (JG _))⟩
 ·let⟨a,f,d,i⟩:=I.tuple hq
  show call_tuple_same d ⟨.ref p,H,I,Z,q⟩
def Hx (K:JI) (T:String) (x:V) (H:Hp):Prop:=match x with
 | .str _=>T= "str"
 | .int _=>T= "int"
 | .ref p=>(T= "list" /\∃xs,aN K H p xs)\/(T= "tuple" /\∃o,K.lookup p>o/\o.cls=.type "tuple" /\o.dict=none)\/
   (T= "dict" /\(False\/∃a,H p>.dT a))\/False
 |_=>False
theorem AO(I:aH X O8 σ H s)(r:a8 x v)(ty:Hx X.K T x H):
  s.TypeIs v T/\∀a,v=.ref a->∃f,s.heap.get? a>f/\f.dict=none:=by
 cases x with
 |str z=>
  let⟨t,rfl⟩:=r
  cases(show T= "str" from ty)
  show⟨typeIs_str s z t,λ_ e=>by cases e⟩
 |int i=>
  let⟨t,rfl⟩:=r
  cases(show T= "int" from ty)
  show⟨typeIs_int s i t,λ_ e=>by cases e⟩
 |ref p=>
  cases r
  rcases ty with ⟨rfl,xs,hq⟩|⟨rfl,o,hk,j,hd⟩|⟨rfl,hk⟩|hk
  ·let⟨b,_,g,_⟩:=I.list hq
   show⟨g.isList.typeIs,λa e=>?_⟩
   cases e
   let⟨o,n,e,c,hd,_⟩:=g
   show⟨o,e,hd⟩
  ·show⟨⟨o,I.kIn p o hk,j⟩,λa e=>?_⟩
   cases e
   show⟨o,I.kIn _ o hk,hd⟩
  ·let⟨d,hk⟩:=hk.resolve_left id
   let⟨_,_,_,_,o,_,_,e,ex,_⟩:=I.hok p _ hk
   show⟨⟨o,e,ex.1⟩,λa h=>?_⟩
   cases h
   show⟨o,e,ex.2.1⟩
  ·show hk.elim
 |_=>show False.elim ty
def Im (K:JI) (T:String) (r:V->-V->Hp->VK->Prop) (a:TE):TE:=λσ H Q=>a σ H λx H1=>Hx K T x H1/\r x [] H1 Q
def Ib (K:JI) (T:String) (r:V->-V->Hp->VK->Prop) (a:TE) (t:TA):TE:=λσ H Q=>a σ H λx H1=>Hx K T x H1/\t σ H1 λxs H2=>r x xs H2 Q
variable {o e:Nw} {es:-Nw} {to:TE} {t:TA} {name:Nh} {apos cpos:O1} {T id:String} {r:V->-V->Hp->VK->Prop}
theorem EW (i:PlainAttrs T)(c:Slot T name id)(e:typeOf (.builtin id)=pure (.type "method_descriptor"))(k:Gx X id r)(g:PE X o to)
  (b:NU o name X.env (eval o X.env)=eval o X.env:=by rfl) (a:(apos.endLine==cpos.line)=true:=by rfl):PE X (.Call (.Attribute o name apos) [] [] cpos) (Im X.K T r to):=by
 intro O8 s σ H Q I h
 show wpAny_Call_method0_late b a (bS (g O8 s σ H _ I h) λv s1 d=>?_)
 let⟨x,H1,I1,f,ty,j⟩:=d
 let⟨h1,h2⟩:=AO I1 f ty
 show⟨T,id,i,c,e,h1,h2,Calls.callWith_builtin Z (PySem.evalArgs_none (k O8 s1 σ H1 x [] v [] Q I1 f .nil j))⟩
theorem df (p:PlainAttrs T)(f:Slot T name id)(i:typeOf (.builtin id)=pure (.type "method_descriptor"))(y:Gx X id r)(m:PE X o to)(l:PA X (e::es) t)
  (d:NU o name X.env (eval o X.env)=eval o X.env:=by rfl)
  (g:((NF cpos (Nf (e::es) X.env)).all (λx=>!x.1)&&(backToKw cpos (keywordEach [] X.env)).all (λx=>x.1.isSome)
   &&decide (↑(e::es)+↑([]:-Keyword)+(if ([]:-Keyword).isEmpty then 0 else 1)<30))=true:=by rfl)
  (c:(apos.endLine==cpos.line)=true:=by rfl) (n:Nf (e::es) X.env=(false,eval e X.env)::Nf es X.env:=by rfl) (a:(NF cpos (Nf es X.env)).any (·.1)=false:=by rfl):
  PE X (.Call (.Attribute o name apos) (e::es) [] cpos) (Ib X.K T r to t):=by
 intro O8 s σ H Q I h
 show wpAny_Call_method_late d g c Z (bS (m O8 s σ H _ I h) λv s1 b=>?_)
 let⟨x,H1,I1,j,ty,w⟩:=b
 let⟨h1,h2⟩:=AO I1 j ty
 show⟨T,id,p,f,i,h1,h2,?_⟩
 let k:=l cpos O8 s1 σ H1 _ I1 w
 rw[n] at k|-
 show Calls.callWith_builtin (by change(false||(NF cpos (Nf es X.env)).any (·.1))=false;rw[a]<;>rfl) (Calls.evalArgs_plain ?_)
 show bS k λu z b=>by let⟨vs,H2,I2,A,q⟩:=b;show y O8 z σ H2 x vs v u Q I2 j A q
end
def IT (X:Cx) (id:String) (r:V->-V->Hp->VK->Prop):Prop:=
 ∀(O8:-(N8×Nv)) (s:N_) (σ:St) (H:Hp) (x:V) (xs:-V) (v:N7) (a:-N7) (Q:VK),aH X O8 σ H s->a8 x v->aZ xs a->r x xs H Q->
  Na (Nd X.prog X.w) X.A (call (.builtin id) (v::a)) (EP X O8 σ Q) X.xe s
theorem aZ.one(h:aZ [x] us):∃u,us=[u]/\a8 x u:=by
 cases h with|cons r t=>cases t;show⟨_,Z,r⟩
theorem aZ.zero:∀{a:-N7},aZ [] a->a=[]
 |_,.nil=>rfl
theorem aZ.dropLast(h:aZ xs us):aZ xs.dropLast us.dropLast:=by
 induction h with
 |nil=>show .nil
 |cons r t ih=>
  cases t with
  |nil=>show .nil
  |cons q t'=>show .cons r ih
theorem aZ.reverse(h:aZ xs us):aZ xs.reverse us.reverse:=by
 induction h with
 |nil=>show .nil
 |cons r t ih=>rw[Mw,Mw];show aZ.append ih (.cons r .nil)
theorem aZ.rep(h:aZ xs us):∀k:Nat,aZ (List.replicate k xs).flatten (List.replicate k us).flatten
 |0=> .nil
 |k+1=>by
  rw[Mg,Mg,Mx,Mx]
  show aZ.append h (aZ.rep h k)
theorem sS {c:Type}(l:-c):l.eraseIdx (↑l - 1)=l.dropLast:=by
 induction l with
 |nil=>rfl
 |cons a r ih=>
  cases r with
  |nil=>rfl
  |cons b r=>
   let e:↑(a::b::r) - 1=(↑(b::r) - 1)+1:=by
    let h1:↑(a::b::r)=↑r+2:=rfl
    let h2:↑(b::r)=↑r+1:=rfl
    lia
   rw[e,List.eraseIdx_cons_succ,ih]
   all_goals rfl
theorem oy (its:-N7):∀(k:Nat) (a:-N7),
  List.foldl (λd b=>d++b) a.toArray (List.replicate k its.toArray)=(a++(List.replicate k its).flatten).toArray
 |0,a=>by simp
 |k+1,a=>by
  let e:a.toArray++its.toArray=(a++its).toArray:=by simp
  let c:(a++its)++(List.replicate k its).flatten=a++(List.replicate (k+1) its).flatten:=by
   rw[Mg,Mx,Kl]
  rw[<-c,<-oy its k (a++its),<-e,Mg,List.foldl_cons]
section
variable {l b:N8} {xs ys zs:-V}
theorem aH.lset {its its':-N7}{n:Nat}{f:Array N7->Array N7}{t':Nat}(I:aH X O8 σ H s)(c:H l>.lst xs)
  (e:s.heap.get? l=some {cls:=.type "list",data:=.seq its.toArray n}) (hf:f its.toArray=its'.toArray) (a:aZ ys its') (hz:↑ys<=N9):
  aH X O8 σ (Ob H l (.lst ys)) {s with heap:=s.heap.update l (Nv.mapSeq f),toks:=t'}:=by
 let q:=PySem.IsL.update e f
 rw[hf] at q
 show I.write (x:=l) (e:=l) (c<|trivial) (.inl Z) (λd u hb b=>(KS s.heap (Nv.mapSeq f) (JH hb)).trans b) ⟨_,q⟩ ?_
 show⟨hz,its',_,a,q⟩
theorem aH.lnew(I:aH X O8 σ H s)(a:aZ ys its)(hz:↑ys<=N9):
  aH X O8 σ (Ob H (~~~s) (.lst ys)) {s with heap:=s.heap.push {cls:=.type "list",data:=.seq its.toArray},toks:=t'}:=
 I.laid (λ_ _ q=>JK _ q) (JG _) ⟨hz,its,0,a,JT _ Z⟩
theorem aH.fresh (I:aH X O8 σ H s):H (~~~s)=none:=I.hok.fresh (JG _)
theorem aH.lstM (I:aH X O8 σ H s)(b:H l>.lst xs):↑xs<=N9/\∃(a:-N7) (n:Nat),aZ xs a/\↑xs=↑a/\s.heap.get? l=some {cls:=.type "list",data:=.seq a.toArray n}:=by
 let⟨z,a,n,r,e⟩:=I.hok l _ b
 show⟨z,a,n,r,↑r,e⟩
theorem qf(h:n<=N9):Nc.List.listTooLong n=false:=by
 show N5 ()
end
noncomputable def B8:V->-V->Hp->VK->Prop:=λx vs H Q=>∃l xs y,x=.ref l/\vs=[y]/\H l>.lst xs/\↑xs<N9/\Q .non (Ob H l (.lst (xs++[y])))
theorem bZ:IT X "list.append" B8:=by
 intro O8 s σ H x vs v i Q I d f h
 let⟨l,xs,y,rfl,rfl,b,j,q⟩:=h
 cases d
 let⟨u,rfl,c⟩:=f.one
 let⟨z,a,n,r,g,e⟩:=I.lstM b
 show call_meets F.slot_list_append ⟨_,e,Z⟩ F.entry_list_append (F.args_list_append_2 _ _) (PySem.list_append l a.toArray n u (by rw[J8];lia)) ⟨e,?_⟩
 show⟨.non,_,I.lset (its':=a++[u]) b e (by simp) (r.append (.cons c .nil)) ?_,Z,q⟩
 rw[JQ,My]
 lia
noncomputable def BM:V->-V->Hp->VK->Prop:=λx vs H Q=>∃l b xs zs,x=.ref l/\vs=[.ref b]/\H l>.lst xs/\H b>.lst zs/\↑xs+↑zs<=N9/\Q .non (Ob H l (.lst (xs++zs)))
theorem xl:IT X "list.extend" BM:=by
 intro O8 s σ H x vs v B Q I y p h
 let⟨l,b,xs,zs,rfl,rfl,i,k,D,q⟩:=h
 cases y
 let⟨u,rfl,o⟩:=p.one
 cases o
 let⟨z,c,n,r,A,e⟩:=I.lstM i
 let⟨C,a,j,m,g,w⟩:=I.lstM k
 let f:c.toArray.size+a.toArray.size<=N9:=by rw[J8,J8];lia
 let d:¬(!c.toArray.isEmpty&&Nc.List.listTooLong (c.toArray.size+a.toArray.size))=true:=by
  rw[qf f,Bool.and_false]
  show JR
 show call_meets F.slot_list_extend ⟨_,e,Z⟩ F.entry_list_extend (F.args_list_extend_2 _ _)
  (AutoSeq1.list_extend_list_list_0 l c.toArray n b a.toArray j d (by rw[J8];lia) ()) ⟨e,w,?_⟩
 show⟨.non,_,I.lset (its':=c++a) i e (by simp) (r.append m) ?_,Z,q⟩
 rw[JQ]
 lia
noncomputable def HV:V->-V->Hp->VK->Prop:=λx vs H Q=>∃l xs y,x=.ref l/\vs=[]/\H l>.lst xs/\xs[↑xs - 1]?>y/\Q y (Ob H l (.lst xs.dropLast))
theorem Ez:IT X "list.pop" HV:=by
 intro O8 s σ H x vs v o Q I k m h
 let⟨l,xs,y,rfl,rfl,d,f,q⟩:=h
 cases k
 let c:=m.zero
 subst c
 let⟨z,a,n,r,g,e⟩:=I.lstM d
 let⟨u,i,j⟩:=r.get f
 let b:a.toArray[a.toArray.size - 1]?>u:=by
  change a.toArray[↑a - 1]?>u
  rw[<-Array.getElem?_toList,<-g]
  show i
 show call_meets F.slot_list_pop ⟨_,e,Z⟩ F.entry_list_pop (F.args_list_pop_1 _) (MeetsSeq.list_pop_last l a.toArray n u b (by rw[J8];lia)) ⟨e,?_⟩
 show⟨y,_,I.lset (its':=a.dropLast) d e ?_ r.dropLast ?_,j,q⟩
 ·change a.toArray.eraseIdxIfInBounds (a.toArray.size - 1)=a.dropLast.toArray
  rw[J8,List.eraseIdxIfInBounds_toArray,sS]
 ·rw[LA]
  lia
def IQ:R2:=λx y H Q=>∃l b xs zs,x=.ref l/\y=.ref b/\H l>.lst xs/\H b>.lst zs/\↑xs+↑zs<=N9/\∀p,H p=none->Q (.ref p) (Ob H p (.lst (xs++zs)))
theorem Fu:gj X (binaryOp .Add) IQ:=by
 intro O8 s σ H x y v u Q I j k h
 let⟨l,b,xs,zs,rfl,rfl,m,g,A,q⟩:=h
 cases j
 cases k
 let⟨z,c,n,r,p,e⟩:=I.lstM m
 let⟨B,a,w,o,d,i⟩:=I.lstM g
 show PySem.P.add_list e i ?_ (by rw[J8,J8];lia)
 let f:c.toArray++a.toArray=(c++a).toArray:=by simp
 rw[f]
 show⟨.ref _,_,I.lnew (t':=s.toks) (r.append o) (by rw[JQ];lia),Z,q _ I.fresh⟩
def IR:R2:=λx y H Q=>∃l k xs,x=.ref l/\y=.int k/\H l>.lst xs/\ -2^63<=k/\k<2^63/\↑xs*k.toNat<=N9/\
 ∀p,H p=none->Q (.ref p) (Ob H p (.lst (List.replicate k.toNat xs).flatten))
theorem Bx {a:Type}(xs:-a)(k:Nat):(List.replicate k xs).flatten.length=k*↑xs:=by
 induction k with
 |zero=>simp
 |succ k ih=>rw[Mg,Mx,JQ,ih,Nat.succ_mul,Nat.add_comm]
theorem F1:gj X (binaryOp .Mult) IR:=by
 intro O8 s σ H x y v u Q I D C h
 let⟨l,k,xs,rfl,rfl,w,h1,h2,p,q⟩:=h
 cases D
 let⟨t,rfl⟩:=C
 let⟨z,b,n,r,A,e⟩:=I.lstM w
 let g:b.toArray.size*k.toNat<=N9:=by rw[J8,<-A];show p
 let i:¬GT.gt (b.toArray.size*k.toNat) ((2^63 - 1)/8):=by
  have:(N9:Nat)<=(2^63 - 1)/8:=by decide
  lia
 let d:¬(!Nc.List.listFitsIndex k)=true:=by
  rw[fitsIndex_both h1 h2]
  show JR
 let c:¬Nc.List.listTooLong (b.toArray.size*k.toNat)=true:=by
  rw[qf g]
  show JR
 let f:List.foldl (λo j=>o++j) #[] (List.replicate (if b.toArray.isEmpty=true then 0 else k.toNat) b.toArray)=(List.replicate k.toNat b).flatten.toArray:=by
  let B:∀m:Nat,List.foldl (λo j=>o++j) #[] (List.replicate m b.toArray)=(List.replicate m b).flatten.toArray:=λm=>by
   have:=oy b m []
   rw[List.nil_append] at this
   show this
  rw[B]
  cases b with
  |nil=>simp
  |cons a r'=>rw[N0 (by simp)]
 show wpAny_binaryOp_repeat_ref (T:= "list") (U:= "int") (by decide) ⟨_,e,Z⟩ (λs'=>typeIs_int s' k t) noFill_list_mul F.fills_int_mul F.slot_int_rmul repeat_list F.slot_int_index.lookup
  (call_meets F.slot_int_rmul (typeIs_int s k t) F.entry_int_rmul (F.args_int_rmul_2 _ _) (int___rmul___int_list k t l b.toArray n)
   ⟨e,Z,⟨_,e,Z⟩,call_meets F.slot_list_mul ⟨_,e,Z⟩ F.entry_list_mul (F.args_list_mul_2 _ _) (AutoListH.list___mul___list_int_3 l b.toArray n k t d i c) ⟨e,?_⟩⟩)
 rw[f]
 show⟨.ref _,_,I.lnew (t':=s.toks) (r.rep k.toNat) (Bx<|Nat.mul_comm<|p),Z,q _ I.fresh⟩
section
variable {κ:Type} [DecidableEq κ]
noncomputable def aE (a:-(κ×V)) (k:κ):Option V:=(a.find? λb=>decide (b.1=k)).map (·.2)
noncomputable def bC (a:-(κ×V)) (k:κ) (v:V):-(κ×V):=
 if (a.any λb=>decide (b.1=k))=true then a.map (λb=>if b.1=k then (b.1,v) else b) else a++[(k,v)]
theorem zx {k:κ}:aE ([]:-(κ×V)) k=none:=rfl
theorem cf {p:κ×V}{r:-(κ×V)}{k:κ}(e:p.1=k):aE (p::r) k>p.2:=by simp[aE,List.find?_cons,e]
theorem bU {p:κ×V}{r:-(κ×V)}{k:κ}(e:¬p.1=k):aE (p::r) k=aE r k:=by simp[aE,List.find?_cons,e]
theorem cZ (k:κ):∀a:-(κ×V),(a.any λb=>decide (b.1=k))=(aE a k).isSome
 |[]=>rfl
 |p::r=>by
  rw[List.any_cons]
  by_cases e:p.1=k
  ·simp only[cf e,N3 e,Bool.true_or,Option.isSome_some]
  ·rw[bU e,N5 e,Bool.false_or];show cZ k r
theorem qT (k j:κ)(y:V):∀a:-(κ×V),aE (a.map λb=>if b.1=k then (b.1,y) else b) j=(aE a j).map λx=>if j=k then y else x
 |[]=>rfl
 |p::r=>by
  let c:=qT k j y r
  rw[JW]
  by_cases h:p.1=k
  ·rw[N1 h]
   by_cases e:p.1=j
   ·rw[cf (p:=(p.1,y)) e,cf e,LO,N1 (e.symm.trans h)]
   ·rw[bU (p:=(p.1,y)) e,bU e,c]
  ·rw[N0 h]
   by_cases e:p.1=j
   ·rw[cf (p:=p) e,cf e,LO,N0 (λz=>h (e.trans z))]
   ·rw[bU (p:=p) e,bU e,c]
theorem n_ (k j:κ)(y:V):∀a:-(κ×V),aE a k=none->aE (a++[(k,y)]) j=if j=k then some y else aE a j
 |[],_=>by
  by_cases e:k=j
  ·rw[N1 e.symm];show cf (p:=(k,y)) e
  ·rw[N0 (λz=>e z.symm)];show bU (p:=(k,y)) e
 |p::r,hn=>by
  rw[List.cons_append]
  let b:¬p.1=k:=λz=>by rw[cf z] at hn;cases hn
  rw[bU b] at hn
  let c:=n_ k j y r hn
  by_cases e:p.1=j
  ·rw[cf e,cf e,N0 (λz=>b (e.trans z))]
  ·rw[bU e,bU e,c]
theorem eI (b:-(κ×V))(k j:κ)(y:V):aE (bC b k y) j=if j=k then some y else aE b j:=by
 unfold bC
 by_cases a:(b.any λc=>decide (c.1=k))=true
 ·rw[N1 a,qT]
  rw[cZ] at a
  by_cases e:j=k
  ·let⟨x,d⟩:=LU.mp a
   rw[N1 e,e,d,LO,N1 Z]
  ·rw[N0 e]
   cases aE b j with
   |none=>rfl
   |some x=>rw[LO,N0 e]
 ·rw[N0 a]
  show n_ k j y b ?_
  rw[cZ] at a
  cases q:aE b k with
  |none=>rfl
  |some x=>rw[q] at a;show(a Z).elim
theorem dZ (a:-(κ×V))(k:κ)(v:V):↑(bC a k v)<=↑a+1:=by
 unfold bC
 split
 ·rw[JF];lia
 ·rw[JQ,J9,Ln];lia
theorem fZ {a:-(κ×V)}{k:κ}(v:V)(h:aE a k=none):bC a k v=a++[(k,v)]:=by
 unfold bC
 rw[cZ,h]
 show N0 (by decide)
theorem iE.isSome_eq{u:Option N7}(r:iE o u):o.isSome=u.isSome:=by
 cases o with
 |none=>cases u with
  |none=>rfl
  |some _=>show(show False from r).elim
 |some _=>cases u with
  |none=>show(show False from r).elim
  |some _=>rfl
theorem iE.getD{u:Option N7}(r:iE o u)(rd:a8 d d'):a8 (o.getD d) (u.getD d'):=by
 cases o with
 |none=>cases u with
  |none=>show rd
  |some _=>show(show False from r).elim
 |some _=>cases u with
  |none=>show(show False from r).elim
  |some _=>show r
end
theorem GA(r:a8 (kV k) u):(aX P w).is k u=true:=by
 cases k with
 |inl i=>let⟨t,e⟩:=(show∃t,u=N7.int i t from r);subst e;show rH P w i t
 |inr x=>let⟨t,e⟩:=(show∃t,u=N7.str x t from r);subst e;show qM P w x t
theorem oh:∀{ks:-cP} {a:-N7},aZ (ks.map kV) a->ItemsAre (aX P w) ks a
 |[],_,r=>by rw[List.map_nil] at r;cases r;show .nil
 |k::ks,_,r=>by
  cases r with
  |cons h t=>show .cons (GA h) (oh t)
abbrev KT (H:Hp):-(-cP×V)->-(-cP×N8×N7)->Prop:=Nb λp q=>p.1=q.1/\H q.2.1>.tup (p.1.map kV)/\a8 p.2 q.2.2
theorem KT.val {a:-(-cP×V)}{xs:-(-cP×N8×N7)}(r:KT H a xs)(k:-cP):iE (aE a k) ((atKey xs k).map (·.2)):=by
 induction r with
 |nil=>show True.intro
 | @cons p q ps d h t f=>
  let⟨h1,_,h2⟩:=h
  by_cases e:p.1=k
  ·let c:q.1=k:=h1.symm.trans e
   let b:atKey (q::d) k>q.2:=by simp[atKey,List.find?_cons,c]
   rw[cf e,b];show h2
  ·let c:¬q.1=k:=λz=>e (h1.trans z)
   let b:atKey (q::d) k=atKey d k:=by simp[atKey,List.find?_cons,c]
   rw[bU e,b];show f
theorem KT.repl {a:-(-cP×V)}{xs:-(-cP×N8×N7)}(r:KT H a xs)(k:-cP){y:V}{u:N7}(d:a8 y u):
  KT H (a.map λb=>if b.1=k then (b.1,y) else b) (xs.map (putAt k u)):=by
 induction r with
 |nil=>show .nil
 | @cons p q ps qs h t ih=>
  rw[JW,JW]
  show .cons ?_ ih
  let⟨h1,h2,c⟩:=h
  unfold putAt
  by_cases e:p.1=k
  ·rw[N1 e,N1 (h1.symm.trans e)];show⟨h1,h2,d⟩
  ·rw[N0 e,N0 (λz=>e (h1.trans z))];show⟨h1,h2,c⟩
theorem KT.put {a:-(-cP×V)}{xs:-(-cP×N8×N7)}(r:KT H a xs)(k:-cP){b:N8}{y:V}{u:N7}(d:H b>.tup (k.map kV))(c:a8 y u):
  KT H (bC a k y) (storedH xs k b u):=by
 let e:(a.any λf=>decide (f.1=k))=(atKey xs k).isSome:=by
  rw[cZ,(r.val k).isSome_eq,Option.isSome_map]
 unfold bC storedH
 rw[e]
 by_cases q:(atKey xs k).isSome=true
 ·rw[N1 q,N1 q];show r.repl k c
 ·rw[N0 q,N0 q];show Nb.snoc r ⟨Z,d,c⟩
theorem KT.keeps{a:-(-cP×V)}{xs:-(-cP×N8×N7)}(r:KT H a xs)(ht:∀b ys,H b>.tup ys->H' b>.tup ys):KT H' a xs:=
 Nb.mapP r λ_ _ z=>⟨z.1,ht _ _ z.2.1,z.2.2⟩
section
variable {P:Ni} {h:Ng} {a:N8}
theorem GT(ok:gO P w H h)(e:Rd H a u):bM P w H h a u:=e.ok ok
theorem gy(ok:gO P w H h)(e:H a>.tup (ks.map kV)):(Nm (aX P w)).is h ks a:=by
 let⟨_,b,r,o,h1,h2,n,c⟩:=(show bM P w H h a (.tup (ks.map kV)) from ok a _ e)
 show⟨o,b.toArray,n,h1,h2,c,by simpa using oh r⟩
theorem gI {b:-(-cP×V)}(ok:gO P w H h)(e:Rd H a (.dT b)):↑b<=N9/\(a==NQ)=false/\
  ∃xs,KT H b xs/\h.DictOfH (Nm (aX P w)) a xs:=by
 let⟨z,y,xs,r,o,es,ep,h1,h2,f,c,d⟩:=(show bM P w H h a (.dT b) from GT ok e)
 show⟨z,y,xs,r,o,es,ep,h1,h2,f,c,λx hx=>?_,d⟩
 let all:∀{l:-(-cP×V)} {m:-(-cP×N8×N7)},KT H l m->∀x∈m,(Nm (aX P w)).is h x.1 x.2.1:=by
  intro l m q
  induction q with
  |nil=>intro x hx;cases hx
  | @cons p q ps qs hq t ih=>
   intro x hx
   rcases JO.mp hx with e|hx
   ·subst e
    show gy ok (by rw[<-hq.1];show hq.2.1)
   ·show ih x hx
 show all r x hx
theorem zv {b:-(-cP×V)}(ok:gO P w H h)(e:H a>.dT b):↑b<=N9/\(a==NQ)=false/\
  ∃xs,KT H b xs/\h.DictOfH (Nm (aX P w)) a xs:=gI ok (.inl e)
end
def fX (H:Hp) (a:N8) (y:V) (r:Option V):Prop:=False\/∃c k b,Rd H a (.dT c)/\y=.ref b/\H b>.tup (k.map kV)/\r=aE c k
def fg (H:Hp) (a:N8) (y v:V) (d:Hp):Prop:=False\/∃c k b,H a>.dT c/\y=.ref b/\H b>.tup (k.map kV)/\↑c<N9/\d=Ob H a (.dT (bC c k v))
theorem fX.t {a b:N8}{c:-(-cP×V)}{k:-cP}(e:H a>.dT c)(d:H b>.tup (k.map kV)):fX H a (.ref b) (aE c k):=.inr ⟨c,k,b,.inl e,Z,d,Z⟩
theorem fg.t {a b:N8}{c:-(-cP×V)}{k:-cP}{v:V}(e:H a>.dT c)(f:H b>.tup (k.map kV))(d:↑c<N9):
  fg H a (.ref b) v (Ob H a (.dT (bC c k v))):=.inr ⟨c,k,b,e,Z,f,d,Z⟩
section
variable {a:N8} {y v:V} {u r:N7} {o:Option V}
theorem aH.big (I:aH X O8 σ H s):NQ<~~~s:=by
 let h:Nj<~~~s:=(I.mod.glob.keeps I.bk).lt
 show Nat.lt_trans (by decide) h
theorem xD(m:A.units+1<NE)(I:aH X O8 σ H s)(g:fX H a y (some v))(x:a8 y u)(h:∀j s',aH X O8 σ H s'->a8 v j->Q j s'):
  Na (Nd X.prog X.w) A (getItem (.ref a) u) Q E s:=by
 let⟨i,k,b,e,r,B,l⟩:=g.resolve_left id
 subst r
 cases(show u=N7.ref b from x)
 let⟨z,hd,xs,f,n⟩:=gI I.hok e
 let⟨j,q,d⟩:=iE.some_of (v:=v) (o:=(atKey xs k).map (·.2)) (l<|f.val k)
 let⟨p,hp,c⟩:=Kc.mp q
 show wpAny_getItem_heap (NA m) (gy I.hok B) n hp ?_
 rw[c]
 show h j _ (I.tok _) d
theorem Ik(f:A.units+1<NE)(I:aH X O8 σ H s)(g:fX H a y o)(i:a8 y u)(h:∀s',aH X O8 σ H s'->Q (.bool o.isSome) s'):
  Na (Nd X.prog X.w) A (Nk .In u (.ref a)) Q E s:=by
 let⟨d,k,b,e,n,j,l⟩:=g.resolve_left id
 subst n
 cases(show u=N7.ref b from i)
 let⟨z,hd,xs,c,m⟩:=gI I.hok e
 show wpAny_in_heap (NA f) (gy I.hok j) hd m ?_
 let q:=(c.val k).isSome_eq
 rw[Option.isSome_map] at q
 rw[<-q,<-l]
 show h _ (I.tok _)
theorem Dg(f:A.units+1<NE)(I:aH X O8 σ H s)(g:fX H a y o)(i:a8 y u)(h:∀s',aH X O8 σ H s'->Q (.bool (!o.isSome)) s'):
  Na (Nd X.prog X.w) A (Nk .NotIn u (.ref a)) Q E s:=by
 let⟨d,k,b,e,n,j,l⟩:=g.resolve_left id
 subst n
 cases(show u=N7.ref b from i)
 let⟨z,hd,xs,c,m⟩:=gI I.hok e
 show wpAny_notIn_heap (NA f) (gy I.hok j) hd m ?_
 let q:=(c.val k).isSome_eq
 rw[Option.isSome_map] at q
 rw[<-q,<-l]
 show h _ (I.tok _)
theorem o7(I:aH X O8 σ H s)(d:C4 (H a))(c:Ng.SameBut a s.heap h')(f:∃q,h'.get? a>q)(new:bM X.prog X.w (Ob H a ob) h' a ob):
  aH X O8 σ (Ob H a ob) {s with heap:=h',toks:=t'}:=
 I.write (x:=a) (e:=a) d (.inl Z) (λb q hb z=>(c.2 b hb).trans z) f new
theorem wJ{Q:Unit->N_->Prop}(n:A.units+1<NE)(I:aH X O8 σ H s)(g:fg H a y v H')(J:a8 y u)(x:a8 v r)(h:∀s',aH X O8 σ H' s'->Q Unit.unit s'):
  Na (Nd X.prog X.w) A (setItem (.ref a) u r) Q E s:=by
 let⟨d,k,b,e,p,m,l,B⟩:=g.resolve_left id
 subst p B
 cases(show u=N7.ref b from J)
 let⟨z,hd,xs,f,o⟩:=zv I.hok e
 let M:↑xs<=N9:=by rw[<-Nb.length f];show z
 let C:↑(bC d k v)<=N9:=by have:=dZ d k v;lia
 show wpAny_setItem_heap (hsz:=M) (NA n) (gy I.hok m) o λh' i D=>h _ ?_
 let⟨q,es,ep,hq,h2,F,K,_,L⟩:=i
 show o7 I (e<|True.intro) D ⟨q,hq⟩ ⟨C,hd,_,(f.put k m x).keeps λc ys j=>?_,q,es,ep,hq,h2,F,K,L⟩
 rw[aj (bz j e (λz=>by cases z))]
 show j
end
def GO (i:Nw):Prop:=∀ov a,subscripted i false ov a=operate [ov,a] (getItem ov a)
theorem Cn {env:O0}{c b:Nw}{k:O1}{T id:String}{Q:N7->N_->Prop}
  (m:NW (.type T) "__getitem__" =pure (some (.builtin id))) (n:GO b)
  (h:Na (Nd prog w) A (eval c env) (λo e=>Na (Nd prog w) A (eval b env) (λi s₂=>s₂.TypeIs o T/\Na (Nd prog w) A (getItem o i) Q E s₂) E e) E s):
  Na (Nd prog w) A (eval (.Subscript c b k) env) Q E s:=by
 show Subscript_ (Km h (λo e j=>Km j (λi s₂ d=>?_) λ_ _ x=>x) λ_ _ x=>x)
 let⟨l,d⟩:=d
 unfold subscriptTail
 show JD ?_
 rw[getitemInPython_of_ne l.not_modules]
 show JD (LB l m ?_)
 let a:Na (Nd prog w) A (subscripted b false o i) (λr f=>Na (Nd prog w) A (letTemporaryGo c o r>>=λ_=>pure r) Q E f) E s₂:=by
  rw[n o i]
  show wpAny_operating (Km d (λr f g=>JD (wpAny_letTemporaryGo (JE g))) λ_ _ x=>x)
 first
  |show JE (JD a)
  |show JD (JE (JD a))
  |show JD a
theorem r_(I:aH X O8 σ H s)(g:fX H a y o):s.TypeIs (.ref a) "dict" :=by
 let⟨c,k,b,e,_,_,_⟩:=g.resolve_left id
 let⟨_,_,xs,_,d⟩:=gI I.hok e
 show d.typeIs
def Ei (b ty:TE):TE:=λσ H Q=>b σ H λx H1=>ty σ H1 λy H2=>∃a v,x=.ref a/\fX H2 a y (some v)/\Q v H2
def Gs (ty b:TE):TE:=λσ H Q=>ty σ H λy H1=>b σ H1 λx H2=>∃a o,x=.ref a/\fX H2 a y o/\Q (.bl o.isSome) H2
def v5 (ty b:TE):TE:=λσ H Q=>ty σ H λy H1=>b σ H1 λx H2=>∃a o,x=.ref a/\fX H2 a y o/\Q (.bl (!o.isSome)) H2
def jw (b ty c:TE):TS:=λD σ H=>c σ H λv H1=>b σ H1 λx H2=>ty σ H2 λy H3=>∃a H4,x=.ref a/\fg H3 a y v H4/\D.nx σ H4
section
variable {o i e value:Nw} {pos pos' tpos:O1} {td ty tv:TE}
theorem dF (f:X.A.units+1<NE)(d:PE X o td)(n:PE X i ty)(e:GO i):PE X (.Subscript o i pos) (Ei td ty):=by
 intro O8 s σ H Q I h
 show Cn PySem.F.slot_dict_getitem.lookup e (bS (d O8 s σ H _ I h) λu s1 b=>?_)
 let⟨x,H1,I1,l,k⟩:=b
 show bS (n O8 s1 σ H1 _ I1 k) λp w b=>?_
 let⟨y,H2,I2,m,a,v,ex,g,j⟩:=b
 subst ex
 obtain rfl:u=N7.ref a:=l
 show⟨r_ I2 g,xD f I2 g m λq r I3 c=>⟨v,H2,I3,c,j⟩⟩
theorem jD (d:X.A.units+1<NE)(l:PE X i ty)(c:PE X o td):PC X .In i o (Gs ty td):=by
 intro O8 s σ H Q I h
 show bS (l O8 s σ H _ I h) λm s1 b=>?_
 let⟨y,H1,I1,k,f⟩:=b
 show bS (c O8 s1 σ H1 _ I1 f) λu p b=>?_
 let⟨x,H2,I2,j,a,ov,ex,g,e⟩:=b
 subst ex
 obtain rfl:u=N7.ref a:=j
 show Ik d I2 g k λn I3=>⟨.bl ov.isSome,H2,I3,Z,e⟩
theorem fA (d:X.A.units+1<NE)(l:PE X i ty)(c:PE X o td):PC X .NotIn i o (v5 ty td):=by
 intro O8 s σ H Q I h
 show bS (l O8 s σ H _ I h) λm s1 b=>?_
 let⟨y,H1,I1,k,f⟩:=b
 show bS (c O8 s1 σ H1 _ I1 f) λu p b=>?_
 let⟨x,H2,I2,j,a,ov,ex,g,e⟩:=b
 subst ex
 obtain rfl:u=N7.ref a:=j
 show Dg d I2 g k λn I3=>⟨.bl (!ov.isSome),H2,I3,Z,e⟩
theorem dE (e:X.A.units+1<NE)(c:PE X o td)(n:PE X i ty)(k:PE X value tv)(d:swapsWith value (some (.Subscript o i pos')) pos.line X.env=pure false):
  PS X (.Assign [.Subscript o i pos'] value pos) (jw td ty tv):=by
 intro O8 s σ H D I h
 show wpAny_Assign_Subscript (bS (k O8 s σ H _ I h) λr s1 b=>?_) d
 let⟨v,H1,I1,q,j⟩:=b
 show bS (c O8 s1 σ H1 _ I1 j) λu p b=>?_
 let⟨x,H2,I2,l,f⟩:=b
 show bS (n O8 p σ H2 _ I2 f) λz C b=>?_
 let⟨y,H3,I3,m,a,H4,ex,g,w⟩:=b
 subst ex
 obtain rfl:u=N7.ref a:=l
 show wJ e I3 g m q λB I4=>⟨σ,H4,I4,w⟩
end
theorem qj(h:Ng)(a:NQ<h.objs.size):bM P w H (h.push {cls:=.type "dict",data:=.dict #[]}) h.objs.size (.dT []):=
 ⟨J4 _,beq_eq_false_iff_ne.mpr (JH (JP a)),[],.nil,_,#[],0,JT _ Z,⟨Z,Z,Z⟩,Z,Z,LC⟩
def AA:TE:=λ_ H Q=>∀p,H p=none->Q (.ref p) (Ob H p (.dT []))
section
variable {pos:O1}
theorem du:PE X (.Dict [] [] pos) AA:=λO8 s σ H Q I h=>
 wpAny_Dict_empty ⟨.ref (~~~s),_,I.laid (a:= ~~~s) (o:=.dT []) (t':=s.toks) (λ_ _ q=>JK _ q) (JG _) (qj s.heap I.big),Z,h _ (I.hok.fresh (JG _))⟩
end
section
variable {a:N8} {y d:V} {u r:N7} {o:Option V}
theorem F5(m:A.units+1<NE)(I:aH X O8 σ H s)(g:fX H a y o)(p:a8 y u)(rd:a8 d r)(h:∀i s',aH X O8 σ H s'->a8 (o.getD d) i->Q i s'):
  Na (Nd X.prog X.w) A (call (.builtin "dict.get") [.ref a,u,r]) Q E s:=by
 let⟨f,k,b,e,n,q,l⟩:=g.resolve_left id
 subst n
 cases(show u=N7.ref b from p)
 let⟨z,hd,xs,c,j⟩:=gI I.hok e
 show call_meetsIn K_ j.typeIs PySem.F.entry_dict_get (PySem.F.args_dict_get_3 _ _ _) (meetsH_dict_get_default (Nm (aX X.prog X.w)) a b hd r) ⟨NA m,k,xs,gy I.hok q,j,h _ _ (I.tok _) ?_⟩
 rw[l]
 show(c.val k).getD rd
end
end L2
namespace Att
open PySem PySem.W PySem.Calls PyProof.Rows
theorem kj {P:Params}:∀(ns:-Int) (vs:-N7),WellAll P h vs (ns.map WData.int)->O6 vs ns:=by
 intro ns
 induction ns with
 |nil=>
  intro vs w
  cases w
  show .nil
 |cons n ns ih=>
  intro vs w
  cases w with
  |cons a b=>
   cases a
   show .cons _ _ (ih _ b)
theorem xG {l:OpenLaw}(o:l.most>n){P:Params}{h:Ng}{args:-WData}{f:-N7}
  (e:l.row.toRowW.claim.pre args=true) (j:WellAll P h f args):
  ∃a vs ns,f=[N7.ref a]/\args=[WData.list (ns.map WData.int)]/\h.get? a=some {cls:=.type "list",data:=.seq vs.toArray}/\O6 vs ns/\ns.length<=n:=by
 let c:WShape.hasAll [] args [.list .int]=true:=(pre_splitW e).1
 let m:l.pre.holds [] {args:=args}=true:=(pre_splitW e).2
 let⟨d,r,rfl,h1,h2⟩:=hasAllW_cons c
 obtain rfl:=hasAllW_nil h2
 let⟨xs,rfl,k⟩:=hasW_list h1
 let⟨ns,rfl⟩:=items_int k
 let b:ns.length<=n:=by
  let g:(WTm.not (.lt (.lit (.int (n:Int))) (.len (.arg 0)))).holds [] {args:=[.list (ns.map .int)]}=true:=by
   let g:=(holds_andW m).1
   rw[o] at g
   show g
  let i:=condW_of g (w_not (w_lt w_lit (w_len_list (w_arg Z))))
  show Nat.le_of_not_lt λq=>?_
  first
   |(rw[N3 q'] at i;show absurd i (by decide))
   |(simp at i;lia)
 cases j with
 |cons w1 w2=>
  cases w2
  cases w1 with
  |list ho hall=>show⟨_,_,ns,Z,Z,ho,kj ns _ hall,b⟩
theorem wI (l:OpenLaw)(args:-WData):l.row.toRowW.claim.post args (.bool true) args=true:=
 postW_of (r:=l.row.toRowW) (X:=(true==true))
  (show WShape.has [] (.bool true) .bool=true by first|rfl|decide|simp[WShape.has,WShape.arms,WShape.armsAll])
  (show(WTm.eq .res (.lit (.bool true))).value [] {args:=args,res:=some (.bool true),after:=args}>.bool (true==true) from w_eq_bool (w_res Z) w_lit) Z
theorem attach_call {l:OpenLaw}{y:(Nh->Option N7)->Ng->Prop}{A:Nr->Ng->Prop}{d:DefRec}
  (L:l.most>n) (s:d.params.defaults=[])
  (call:∀(w:Nr) (h g:N_) (mg m:Nh->Option N7) (fa:N8) (o:Nv) (p k i:N7) (a:N8) (vs:-N7) (ns:-Int),
   Ground q loose [] y w h mg m g.heap->A w g.heap->
   g.heap.get? fa>o->o.data=.func (docDef d.name d.params d.body d.scope p k i)->g.heap.CodeRec k d.name->mg d.name>.ref fa->
   g.heap.get? a=some {cls:=.type "list",data:=.seq vs.toArray}->O6 vs ns->ns.length<=n->g.gens= #[]->
   NK (Nd l.prog w) callerA (.call (.ref fa) ⟨[.ref a],[]⟩) (λr s'=>r=.ok (.ret (.bool true))/\OldK g.heap s'.heap/\s'.os=g.os/\AllBare s'.gens) g):
  WalkO q loose y A l.row.toRowW d [] (λf vs=>PySem.call f vs):=by
 intro w h g mg m G Y fa o p k i F kV I hd u D x hg C B as j z K v E
 obtain rfl:F=.none:=Dflts.none D s
 obtain rfl:kV=.none:=Dflts.noKw D
 let⟨a,vs,ns,rfl,rfl,c,b,e⟩:=xG L j v
 show enter_call (NR (call w h g mg m fa o p k i a vs ns G Y I (fd_plain hd) u x c b e hg) λr s' hq=>?_)
 let⟨rfl,h2,H,J⟩:=hq
 show⟨.inl ⟨.bool true,.bool true,[],Z,λ_=>rfl,.bool true,wI l _,λ_=>⟨List.Pairwise.nil,λ_ hm=>(nomatch hm)⟩⟩,h2,H,J⟩
section
variable {K:Frag}
def noObjs (h:Ng):Ng:={h with objs:= #[]}
theorem noObjs_get (h:Ng)(b:N8):(noObjs h).get? b=none:=by
 cases e:(noObjs h).get? b with
 |none=>rfl
 |some o=>show absurd (JN e) (KJ _)
theorem fr_all(n:h.Ns L m):Fr (noObjs h) L h m:=
 ⟨n,λb o e=>(by rw[noObjs_get] at e;cases e),J4 _⟩
end
end Att
namespace L2
open PySem PySem.Spec PyProof.Rows
variable {X:Cx} {O8:-(N8×Nv)} {σ:St} {H:Hp} {s:N_} {prog:Ni} {w:Nr} {A:Nu} {E:N7->N_->Prop} {K:JI} {mg:Nh->Option N7} {O_:Ng}
theorem xC{ns:-Int}(g:O6 vs ns):aZ (ns.map V.int) vs:=by
 induction g with
 |nil=>show .nil
 |cons n t h ih=>show .cons ⟨t,Z⟩ ih
noncomputable def bY (s:Nn) (j:Nat):Nn:=match s with
 | .ClassDef _ _ _ body _ _ _ _ _ _ _=>body.getD j (.Pass ⟨0,0,0,0⟩)
 |_=> .Pass ⟨0,0,0,0⟩
noncomputable def bX (s:Nn):Arguments:=match s with
 | .FunctionDef _ a _ _ _ _ _ _ _ _=>a
 |_=>{posonlyargs:=[],args:=[],vararg:=none,kwonlyargs:=[],kw_defaults:=[],kwarg:=none,defaults:=[]}
noncomputable def bK (s:Nn):-Nn:=match s with
 | .FunctionDef _ _ b _ _ _ _ _ _ _=>b
 |_=>[]
noncomputable def aM (s:Nn):NS:=match s with
 | .FunctionDef _ _ _ _ _ _ sc _ _ _=>sc
 |_=>{kind:=.function,names:=[],isGenerator:=false,isCoroutine:=false}
abbrev jH:Bi:=λ_ _ _ _ _ _=>False
abbrev E0:XK:=λ_ _ _=>False
theorem lG:gU jH X E0:=λ_ _ _ _ _ _ _ h=>h.elim
structure za (K:JI) (x qual:Nh) (st:Nn) (f:N8) (fd:NM):Prop where
 ex:∃(oc:N7) (od:Option N8) (kV doc pm:N7) (an:Option N8) (cdv ct:N7) (osl:Array (Option N7)),
  fd=Kf x qual (bX st) (bK st) (aM st) .none kV doc pm an cdv ct/\K.lookup f>⟨oc,od,.func fd,osl⟩/\KR K cdv qual=true
 kp:Ky K (.ref f)=true
section
variable {P:Ni}
theorem za.ok {x qual:Nh}{st:Nn}{f:N8}{j:NM}{N ps:-Nh}{k:Nat}{sp:Sp}(F:za K x qual st f j)(S:eF N ps (aM st))(len:∀vs H Q E,sp vs H Q E->↑vs=↑ps)
  (g:∀(e:N7) (A:Nu) (d:-O0) (s:N_) (H:Hp) (vs:-V) (Q:VK) (E:XK),aT k (A.deeper (envOfC qual (aM st) (~~~s) f e))->sp vs H Q E->
   ∃t,qN (mq jH P w K mg O_ N qual (aM st) f e A d s H E).nox (bK st) t/\t {nx:=λ_ H'=>Q .non H',rt:=Q} (start N vs) H):eL P w K mg O_ jH (k+1) f j ps sp:=by
 let⟨r,p,kV,c,n,m,e,o,b,rfl,l,a⟩:=F.ex
 show DH l a S len λA d s H vs Q E hr i=>?_
 let⟨t,h,q⟩:=g e A d s H vs Q E hr i
 show⟨t,h.nox,q⟩
theorem za.binds{st:Nn}(F:za K x qual st f fd)
  (h:∀(kV c j:N7) (g:Option N8) (d e:N7) (i:-N7),↑i=↑ps->bindArgs (Kf x qual (bX st) (bK st) (aM st) .none kV c j g d e) ⟨i,[]⟩=pure (ps.zip i)):cA K fd ps []:=by
 let⟨l,k,kV,c,j,g,d,e,b,rfl,m,a⟩:=F.ex
 show .all (h kV c j g d e)
theorem pF{st:Nn}{a:Array (Option N7)}{kV:N7}(l:K.lookup f>⟨oc,od,.func (Kf x qual (bX st) (bK st) (aM st) .none kV doc pm an cdv ct),a⟩)
  (c:KR K cdv qual=true) (k:Ky K (.ref f)=true):za K x qual st f (Kf x qual (bX st) (bK st) (aM st) .none kV doc pm an cdv ct):=⟨⟨oc,od,kV,doc,pm,an,cdv,ct,a,Z,l,c⟩,k⟩
end
theorem d_(h:n<=1000):n<N9:=LV h (by decide)
theorem fN {A B:Prop}(h:B):if false=true then A else B:=by
 show h
theorem gT {A B:Prop}(h:A):if true=true then A else B:=by
 show h
theorem GR {c A B:Prop} [Decidable c](h1:c->A)(a:¬c->B):if c then A else B:=by
 by_cases h:c
 ·rw[N1 h]
  show h1 h
 ·rw[N0 h]
  show a h
def aw (H a:Hp):Prop:=∀b o,H b>o->a b>o
theorem aw.refl (H:Hp):aw H H:=λ_ _ h=>h
theorem aw.trans(a:aw H H1)(b:aw H1 H2):aw H H2:=λc o h=>b c o (a c o h)
theorem aw.free(e:aw H H'){l:N8}(h:H' l=Option.none):H l=Option.none:=by
 cases q:H l with
 |none=>rfl
 |some o=>
  rw[e l o q] at h
  cases h
theorem aw.seq {b:Hp}{a:N8}{xs:-V}(e:aw H b)(h:aN K H a xs):aN K b a xs:=by
 rcases h with (h|⟨o,h⟩)|h
 ·show .inl (.inl (e _ _ h))
 ·show .inl (.inr ⟨o,e _ _ h⟩)
 ·show .inr h
section
variable {κ:Type} [DecidableEq κ]
theorem Cb {a:-(κ×V)}{k:κ}(h:aE a k>v):k∈a.map (·.1):=by
 let q:(a.any λb=>decide (b.1=k))=true:=by
  rw[cZ,h]
  all_goals rfl
 let⟨p,hp,e⟩:=List.any_eq_true.mp q
 show JL.mpr ⟨p,hp,N4 e⟩
end
def uP (_ j:Int):Prop:=0<j/\j<2^200
theorem HX(h:uP i j):Nc.divisionGoesByPylong i j=false:=by
 show PyProof.noPylong_of_log2 ?_
 let⟨h1,h2⟩:=h
 let b:j.natAbs≠0:=by omega
 let a:j.natAbs<2^200:=by omega
 have:=(Nat.log2_lt b).mpr a
 omega
theorem dt:gj X (binaryOp .FloorDiv) (rI uP λi j=> .int (i/j)):=Ho λi j _ _ _ _ _ a q=>by
 let h1:(0:Int)<j:=a.1
 show floordiv_int () (Int.fdiv_eq_ediv_of_nonneg i ()<|q) (.inl (HX a))
theorem qi{it:N7}(I:Nat->N_->Prop)(E:N7->N_->Prop)
  (o:∀e s',E e s'->notedBy (Nd prog w) A env (λe s'=>R (.error e) s') e s')
  (turn:∀n s,I n s->Na (Nd prog w) A (NG it) (λr a=>match r with
   |none=>R (.ok .next) a
   |some v=>Na (Nd prog w) A (letOwnedTupleGo target it v) (λ_ b=>Na (Nd prog w) A (assign target env v) (λ_ f=>
     Na (Nd prog w) A (forIn ifs true λc r=>if r=true then do let ok<-isTrue c env (eval c env);pure (ForInStep.yield ok) else pure (ForInStep.yield r)) (λok d=>
      if ok=true then Na (Nd prog w) A (eval elt env) (λx i=>
       Na (Nd prog w) A (call (.builtin "list.append") [acc,x]) (λ_ j=>∃m,m<n/\I m j) E i) E d
      else∃m,m<n/\I m d) E f) E b) E a) E s)
  (n:Nat) (h:I n s):NK (Nd prog w) A (.compLoop (.ListComp elt [⟨target,iter,ifs,0⟩] scope pos) 0 it acc env) R s:=by
 show codeAny_loop Z I (λn s y=>?_) n h
 show wpAny_noted ?_
 show JD (wpAny_standAt (JD (Km (turn n s y) (λr a k=>?_) o)))
 cases r with
 |none=>show JE k
 |some v=>
  show JD (Km k (λ_ b l=>?_) o)
  show JD (Km l (λ_ f p=>JD (Km p (λok d g=>?_) o)) o)
  cases ok with
  |false=>show JE ⟨Z,g⟩
  |true=>
   show JD (JD (Km g (λx i u=>JD (Km u (λ_ j q=>JE (JE ⟨Z,q⟩)) o)) o))
theorem gW:∀(f:-(Nh×No)) (b:-(Nh×N8)),(∀y∈f,y.2=.free->∃c,env.cells.lookup y.1>c)->(∀x c,b.lookup x>c->env.cells.lookup x>c)->
  ∃cl,(forIn f b (λ(x:Nh×No) (r:-(Nh×N8))=>(if (x.2==No.free)=true then (do let a<-cellOf env x.1;pure (ForInStep.yield ((x.1,a)::r))) else pure (ForInStep.yield r):Sem (ForInStep (-(Nh×N8))))))=(pure cl:Sem (-(Nh×N8)))/\
   (∀x c,cl.lookup x>c->env.cells.lookup x>c)/\(∀x c,b.lookup x>c->∃p,cl.lookup x>p)/\∀y∈f,y.2=.free->∃c,cl.lookup y.1>c
 |[],b,_,ha=>⟨b,Z,ha,λx c e=>⟨c,e⟩,λ_ h=>by cases h⟩
 |(n,k)::r,b,hf,ha=>by
  let j:∀y∈r,y.2=.free->∃c,env.cells.lookup y.1>c:=λy hy=>hf y (J0 _ hy)
  by_cases hk:k=.free
  ·subst hk
   let⟨c,s⟩:=hf (n,.free) JZ Z
   let l:env.cells.lookup n>c:=s
   let o:∀x d,((n,c)::b).lookup x>d->env.cells.lookup x>d:=λx d e=>by
    rw[Ks] at e
    cases hx:x==n with
    |true=>rw[hx] at e;cases e;rw[beq_iff_eq.mp hx];show l
    |false=>rw[hx] at e;show ha x d e
   let⟨cl,e,h1,h2,m⟩:=gW r ((n,c)::b) j o
   let g:((n,c)::b).lookup n>c:=by rw[Ks,beq_self_eq_true]
   show⟨cl,?_,h1,λx d ex=>?_,λy hy i=>?_⟩
   ·rw[Mh]
    let q:cellOf env n=pure c:=by unfold cellOf;rw[l]
    change((if (No.free==No.free)=true then (do let a<-cellOf env n;pure (ForInStep.yield ((n,a)::b))) else pure (ForInStep.yield b):Sem _)>>=_)=_
    rw[N1 (by decide),q]
    show e
   ·cases hx:x==n with
    |true=>rw[beq_iff_eq.mp hx];show h2 n c g
    |false=>show h2 x d (Ks<|hx<|ex)
   ·rcases JO.mp hy with rfl|hy
    ·show h2 n c g
    ·show m y hy i
  ·let⟨cl,e,h1,h2,m⟩:=gW r b j ha
   show⟨cl,?_,h1,h2,λy hy i=>?_⟩
   ·rw[Mh]
    rw[N0 (by simpa using hk)]
    show e
   ·rcases JO.mp hy with rfl|hy
    ·show absurd i hk
    ·show m y hy i
theorem la(h:∀y∈scope.names,y.2=.free->∃c,env.cells.lookup y.1>c):
  ∃cl,closureFor scope env=pure cl/\(∀x c,cl.lookup x>c->env.cells.lookup x>c)/\∀y∈scope.names,y.2=.free->∃c,cl.lookup y.1>c:=by
 let⟨cl,e,h1,_,d⟩:=gW (env:=env) scope.names [] h (λx c e=>by cases e)
 show⟨cl,?_,h1,d⟩
 let b:closureFor scope env=((forIn scope.names [] (λ(x:Nh×No) (r:-(Nh×N8))=>(if (x.2==No.free)=true then (do let a<-cellOf env x.1;pure (ForInStep.yield ((x.1,a)::r))) else pure (ForInStep.yield r):Sem (ForInStep (-(Nh×N8))))))>>=λr=>pure r):=rfl
 rw[b,e]
 rfl
theorem jm {env:O0}(hf:env.scope.kind=.function):∀{a:-(Nh×No)} {x:Nh},a.lookup x>.free->env.kindOf x>.cell->
  (a.map λ(n,k)=>if (k==No.free&&env.scope.kind==.function&&env.kindOf n==some .cell) then (n,No.cell) else (n,k)).lookup x>.cell
 |[],_,h,_=>by simp at h
 |(n,k)::r,x,h,hc=>by
  let b:= @jm env hf r x
  change K9 x ((if (k==No.free&&env.scope.kind==.function&&env.kindOf n==some .cell)=true then (n,No.cell) else (n,k))::_)=_
  cases hx:x==n with
  |true=>
   simp only[Ks,hx] at h
   cases h
   let e:x=n:=beq_iff_eq.mp hx
   subst e
   rw[N1 (by rw[hf,hc];decide)]
   simp only[Ks,hx]
  |false=>
   simp only[Ks,hx] at h
   by_cases hq:(k==No.free&&env.scope.kind==.function&&env.kindOf n==some .cell)=true
   ·rw[N1 hq];simp only[Ks,hx];show b h hc
   ·rw[N0 hq];simp only[Ks,hx];show b h hc
theorem iZ {env:O0}:∀{a:-(Nh×No)} {x:Nh} {k:No},
  (a.map λ(n,k)=>if (k==No.free&&env.scope.kind==.function&&env.kindOf n==some .cell) then (n,No.cell) else (n,k)).lookup x>k->∃b,a.lookup x>b/\(k=b\/b=.free)
 |[],_,_,h=>by simp at h
 |(n,k1)::r,x,k,h=>by
  let h:K9 x ((if (k1==No.free&&env.scope.kind==.function&&env.kindOf n==some .cell)=true then (n,No.cell) else (n,k1))::(r.map λ(n,k)=>if (k==No.free&&env.scope.kind==.function&&env.kindOf n==some .cell) then (n,No.cell) else (n,k)))>k:=h
  cases hx:x==n with
  |true=>
   by_cases hq:(k1==No.free&&env.scope.kind==.function&&env.kindOf n==some .cell)=true
   ·have:k1=.free:=by
     rw[Kd,Kd] at hq
     simpa using hq.1.1
    show⟨k1,by simp only[Ks,hx],.inr this⟩
   ·rw[N0 hq] at h
    simp only[Ks,hx] at h
    show⟨k1,by simp only[Ks,hx],.inl (Option.some.inj h).symm⟩
  |false=>
   let h':(r.map λ(n,k)=>if (k==No.free&&env.scope.kind==.function&&env.kindOf n==some .cell) then (n,No.cell) else (n,k)).lookup x>k:=by
    by_cases hq:(k1==No.free&&env.scope.kind==.function&&env.kindOf n==some .cell)=true
    ·rw[N1 hq] at h;simp only[Ks,hx] at h;show h
    ·rw[N0 hq] at h;simp only[Ks,hx] at h;show h
   let⟨b,e,z⟩:=iZ h'
   show⟨b,by simp only[Ks,hx];show e,z⟩
noncomputable def cC (X:Cx) (N:-Nh) (scope:NS) (cl:-(Nh×N8)) (C:N8) (s:N_) (H:Hp) (fp:-N8):Cx:=
 {X with N:=N,s₀:=s,H₀:=H,env:=compEnvC scope cl C X.env,outer:=X.stack,ex:=fp,fn:=λ_=>false,pn:=[],xe:=λ_ _=>False}
structure eR (X:Cx) (scope:NS) (ls ys:-Nh) (ix:-Nat):Prop where
 kind:scope.kind=.function
 nocellB:(scope.names.all λy=>y.2 !=.cell)=true
 locB:(scope.names.all λy=>y.2 !=.local||scope.names.lookup y.1==some .local)=true
 freeB:(scope.names.all λy=>y.2 !=.free||X.env.kindOf y.1==some .cell)=true
 ylkB:(ys.all λy=>scope.names.lookup y==some .free)=true
 yix:ix.map (λj=>X.N[j]?)=ys.map some
section
variable {scope:NS} {ls ys:-Nh} {ix:-Nat}
theorem eR.nocell (ok:eR X scope ls ys ix):∀y∈scope.names,y.2≠.cell:=λy a=>by
 simpa using LD.mp ok.nocellB y a
theorem eR.loc (ok:eR X scope ls ys ix):∀y∈scope.names,y.2=.local->scope.names.lookup y.1>.local:=λy a e=>by
 let h:=LD.mp ok.locB y a
 rw[e] at h
 simpa using h
theorem eR.free (ok:eR X scope ls ys ix):∀y∈scope.names,y.2=.free->X.env.kindOf y.1>.cell:=λy a e=>by
 let h:=LD.mp ok.freeB y a
 rw[e] at h
 simpa using h
theorem eR.ylk (ok:eR X scope ls ys ix):∀y∈ys,scope.names.lookup y>.free:=λy a=>by
 simpa using LD.mp ok.ylkB y a
end
noncomputable def zK (n:Nat) (a:-Nat) (σ:St):St:=List.replicate n none++a.map λj=>(σ[j]?).join
section
variable {scope:NS} {ls ys:-Nh} {ix:-Nat} {cl:-(Nh×N8)} {fp:-N8}
theorem CF(I:aH X O8 σ H s)(ok:eR X scope ls ys ix)(A:∀x c,cl.lookup x>c->X.env.cells.lookup x>c)
  (B:∀y∈scope.names,y.2=.free->∃c,cl.lookup y.1>c) (C:∀b∈fp,iu X O8 H b) (K:∀b∈fp,b<~~~s)
  (J:h₁.Ns (~~~s) m) (D:∀b o,s.heap.get? b>o->h₁.get? b>o):
  aH (cC X (ls++ys) scope cl (~~~s) s H fp) [] (zK ↑ls ix σ) H {s with heap:=h₁,toks:=tk}:=by
 let a:∀x,scope.names.lookup x>.free->X.env.kindOf x>.cell:=λx e=>ok.free (x,.free) (PySem.mem_of_lookup e) Z
 show⟨⟨I.ok.mod,ok.kind,I.ok.glob,I.ok.blt,JG _,λx y c h1 h2=>I.ok.inj x y c (A x c h1) (A y c h2),λx hx=>?_,λx c hx _=>absurd hx JR,I.ok.hd,I.ok.frames,.inl Z,
  λb hb=>⟨JP (K b hb),λx c e=>(C b hb).2.2.2.2.1 x c (A x c e)⟩,I.bs,J1 I.ok.bsz I.sz,λb o e hb=>?_,λb hb z=>?_,I.stack,I.stkFree⟩,
  rfl,I.bare,Un.kept D,⟨m,J,λi x v h1 h2 S=>?_⟩,λx c e=>?_,I.fresh,λx c e=>I.freeC x c (A x c e),λp hp=>absurd (show p∈([]:-(N8×Nv)) from hp) (by simp),I.hok.kept D,?_⟩
 ·let e:∃k,(relabel scope X.env).names.lookup x>k/\(k=.cell\/k=.free):=by
   rcases hx with hx|hx
   ·show⟨_,hx,.inl Z⟩
   ·show⟨_,hx,.inr Z⟩
  let⟨k,e,g⟩:=e
  let⟨O,R,z⟩:=iZ e
  let hm:=PySem.mem_of_lookup R
  let n:O=.free:=by
   rcases z with z|z
   ·rcases g with q|q
    ·show absurd (z.symm.trans q) (ok.nocell _ hm)
    ·show z.symm.trans q
   ·show z
  show B _ hm n
 ·let⟨Y,U,T,q4,_⟩:=C b hb
  rcases q4 with q4|q4
  ·show I.ok.noex b o e q4
  ·show absurd (Kg (JN e) (J1 I.ok.bsz q4)) (Ku _)
 ·rcases JO.mp (I.stkSub b z) with q|q
  ·show(C b hb).2.1 q
  ·show(C b hb).2.2.1 q
 ·let h1:(ls++ys)[i]?>x:=h1
  let h2:(List.replicate ↑ls none++ix.map λj=>(σ[j]?).join)[i]?>some v:=h2
  by_cases hi:i<↑ls
  ·rw[K3 (Mf<|hi),List.getElem?_replicate,N1 hi] at h2
   cases h2
  ·rw[Ll (by rw[Mf];lia),Mf,JV] at h2
   rw[Ll ()] at h1
   cases e:ix[i - ↑ls]? with
   |none=>rw[e] at h2;cases h2
   |some j=>
    rw[e] at h2
    let h2:(σ[j]?).join>v:=Option.some.inj h2
    let M:σ[j]?>some v:=by
     cases q:σ[j]? with
     |none=>rw[q] at h2;cases h2
     |some z=>rw[q] at h2;show congrArg some h2
    let P:X.N[j]?>x:=by
     let q:=congrArg (λl=>l[i - ↑ls]?) ok.yix
     simp only[JV,e,h1,LO] at q
     show Option.some.inj q
    let F:=ok.ylk x (JY h1)
    let L:=a x F
    let⟨W,w,h⟩:=I.loc
    let⟨u,r,E⟩:=h j x v P M (.inr (.inl L))
    show⟨u,r,?_⟩
    rcases E with ⟨E,_⟩|⟨_,c,Q,z⟩
    ·rw[L] at E;cases E
    ·let⟨c',d⟩:=B _ (PySem.mem_of_lookup F) Z
     let f:X.env.cells.lookup x>c':=A x c' d
     rw[Q] at f
     cases f
     show .inr ⟨.inl (jm I.ok.kind F L),c,d,z.keeps D⟩
 ·let⟨v,z⟩:=I.cell x c (A x c e)
  show⟨v,z.keeps D⟩
 ·change(List.replicate ↑ls none++ix.map λj=>(σ[j]?).join).length=↑(ls++ys)
  let q:=congrArg List.length ok.yix
  rw[JF,JF] at q
  rw[JQ,JQ,Mf,JF,q]
end
def PF (X:Cx) (a:-Nw) (t:TT):Prop:=
 ∀(O8:-(N8×Nv)) (s:N_) (σ:St) (H:Hp) (Q:Bool->Hp->Prop),aH X O8 σ H s->t σ H Q->
  Na (Nd X.prog X.w) X.A (forIn a true λc r=>if r=true then do let ok<-isTrue c X.env (eval c X.env);pure (ForInStep.yield ok) else pure (ForInStep.yield r)) (TP X O8 σ Q) X.xe s
def G8:TT:=λ_ H Q=>Q true H
theorem dQ:PF X [] G8:=λ_ _ _ H _ I h=>wpAny_tests_nil ⟨H,I,h⟩
theorem iJ(h:PT X c t):PF X [c] t:=λO8 s σ H Q I a=>wpAny_tests_one (h O8 s σ H Q I a)
abbrev sL (g:TG) (tt:TT) (te:TE) (D:N8):SV:=λN x τ H=>g x τ H λτ2 H2=>tt τ2 H2 λb H3=>if b=true then te τ2 H3 λv H4=>∃acc,H4 D>.lst acc/\↑acc<N9/\N τ2 (Ob H4 D (.lst (acc++[v]))) else N τ2 H3
abbrev Hm (σ0:St) (g:TG) (tt:TT) (te:TE) (J:It) (H1:Hp) (D:N8) (Q:Hp->Prop):Prop:=xZ J σ0 (Ob H1 D (.lst [])) (sL g tt te D) λ_ H=>Q H
def H_ (b:TI) (n:Nat) (a:-Nat) (g:TG) (c:TT) (te:TE):TE:=λσ H Q=>b σ H λJ H1=>∀D,H1 D=none->Hm (zK n a σ) g c te J H1 D λH'=>Q (.ref D) H'
def uv (b:TI) (n:Nat) (a:-Nat) (g:TG) (c:TT) (te:TE) (i:Nat):TS:=λD σ H=>H_ b n a g c te σ H λx H1=>D.nx (σ.set i (some x)) H1
section
variable {scope:NS} {ls ys:-Nh} {ix:-Nat} {tg iter elt:Nw} {ifs:-Nw} {pos:O1} {wi:TI} {g:TG} {tt:TT} {te:TE}
theorem qL{it:N8}{tn:Nat->Ng->Prop}{cl:-(Nh×N8)}{Q:N8->Hp->Prop}{R:N7->N8->Result->N_->Prop}(hc:X.calm=true)
  (ok:eR X scope ls ys ix) (I:aH X O8 σ H1 s) (T:md X.prog X.w X.K tg J fp it tn) (st:tn 0 s.heap) (f2:∀b∈fp,iu X O8 H1 b)
  (ab:∀x c,cl.lookup x>c->X.env.cells.lookup x>c) (ah:∀y∈scope.names,y.2=.free->∃c,cl.lookup y.1>c)
  (hg:∀cl C s H fp,PG (cC X (ls++ys) scope cl C s H fp) tg g) (ht:∀cl C s H fp,PF (cC X (ls++ys) scope cl C s H fp) ifs tt) (he:∀cl C s H fp,PE (cC X (ls++ys) scope cl C s H fp) elt te)
  (hJ:∀D,H1 D=none->Hm (zK ↑ls ix σ) g tt te J H1 D (Q D))
  (hR:∀D C H' s',Q D H'->aH X O8 σ H' s'->H' C=none->iu X O8 H' C->(∃m,s'.heap.Ns C m)->R (.ref D) C (.ok .next) s'):
  Na (Nd X.prog X.w) X.A (newList []) (λZ0 am=>Na (Nd X.prog X.w) X.A (newFunctionEnv scope X.env.globals cl [] X.env.qual none .none (some X.env)) (λac ap=>
   NK (Nd X.prog X.w) X.A (.compStart (.ListComp elt [⟨tg,iter,ifs,0⟩] scope pos) 0 (.ref it) Z0 {ac with scope:=relabel scope X.env}) (R Z0 ac.locals) ap) E am) E s:=by
 let l:∀b∈fp,b<~~~s:=λb hb=>by
  let⟨o,e,_⟩:=T.obj _ _ st b hb
  show JN e
 let I3:=I.lnew (ys:=[]) (its:=[]) (t':=s.toks) .nil (J4 _)
 let hD:H1 (~~~s)=none:=I.fresh
 let⟨W,⟨m0,w0⟩,turn⟩:=hJ (~~~s) hD
 show KL (wpAny_newFunctionEnv ok.nocell (by intro y hy;simp at hy) (λh₁ q w=>?_) ok.kind)
 generalize a3:({s with heap:=s.heap.push {cls:=.type "list",data:=.seq ([]:-N7).toArray},toks:=s.toks}:N_)=s3 at I3
 let e3:s.heap.push {cls:=.type "list",dict:=none,data:=.seq ([]:-N7).toArray}=s3.heap:=by rw[<-a3]
 generalize a2:Ob H1 (~~~s) (.lst [])=H3 at I3 w0
 let K: ~~~s3= ~~~s+1:=by rw[<-e3,Kq]
 let A:∀b o,s.heap.get? b>o->s3.heap.get? b>o:=λb o e=>by rw[<-e3];show JK _ e
 let f3:∀b∈fp,iu X O8 H3 b:=λb hb=>by
  show⟨?_,(f2 b hb).2⟩
  rw[<-a2,aj (JP (l b hb))]
  show(f2 b hb).1
 let q:h₁.Ns (~~~s3) (λx=>([]:-(Nh×N7)).reverse.lookup x):=by rw[<-e3];show q
 let w:Ng.SameBut (~~~s3) (s3.heap.push {cls:=.type (if (some X.env).isSome then "dict" else "frame"),data:=.dict #[]}) h₁:=by rw[<-e3];show w
 let f:∀b o,s3.heap.get? b>o->h₁.get? b>o:=λb o e=>w.extBut b o (JP (JN e)) (JK _ e)
 let Ic:=CF (tk:=s3.toks) I3 ok ab ah f3 (λb hb=>by rw[K];show K4 (l b hb)) q f
 let a:∀{H':Hp} {pl:-(N8×Nv)},(∀b∈fp,H' b=none)->pl=[]->∀b∈fp,iu (cC X (ls++ys) scope cl (~~~s3) s3 H3 fp) pl H' b:=fun{H' pl} hn a1 b hb=>by
  subst a1
  show⟨hn b hb,JP (by rw[show(cC X (ls++ys) scope cl (~~~s3) s3 H3 fp).env.locals= ~~~s3 from Z,K];show K4 (l b hb)),Ic.ok.exfs b hb,.inl hb,λx c e=>(f3 b hb).2.2.2.2.1 x c (ab x c e),λp hp=>absurd (show p∈([]:-(N8×Nv)) from hp) (by simp)⟩
 let j:NK (Nd X.prog X.w) X.A (.compLoop (.ListComp elt [⟨tg,iter,ifs,0⟩] scope pos) 0 (.ref it) (.ref (~~~s)) (compEnvC scope cl (~~~s3) X.env)) (R (.ref (~~~s)) (~~~s3)) {s3 with heap:=h₁,toks:=s3.toks}:=by
  show qi (λn s'=>∃i Y H',aH (cC X (ls++ys) scope cl (~~~s3) s3 H3 fp) [] Y H' s'/\tn i s'.heap/\(∀b∈fp,H' b=none)/\W i n Y H') (λ_ _=>False) (λ_ _ h=>h.elim) ?_ m0
   ⟨0,zK ↑ls ix σ,H3,Ic,T.keep _ _ _ st (λb _ o e=>f b o (A b o e)),λb hb=>(f3 b hb).1,w0⟩
  rintro n s4 ⟨i,Y,H4,I4,F,B,w4⟩
  rcases turn i n Y H4 w4 with ⟨an,qn⟩|⟨go,N,hN,step⟩
  ·show bS (T.done (cC X (ls++ys) scope cl (~~~s3) s3 H3 fp) Z Z Z hc i [] s4 Y H4 (λ_ _=>False) I4 (a B Z) F an) λr s5 S=>?_
   let⟨hr,I5⟩:=S
   subst hr
   let Io:aH X O8 σ H4 s5:=I3.call' (ch:=fp) I5.os I5.O_ I5.hok I5.bare λb hb=>⟨(f3 b hb).2.2.2.1,(f3 b hb).2.1,(f3 b hb).2.2.2.2.1,(f3 b hb).2.2.2.2.2⟩
   let⟨m5,n5,_⟩:=I5.loc
   let hC:H4 (~~~s3)=none:=I5.free
   show hR _ _ H4 s5 qn Io hC (I3.fpOk (JG _) hC) ⟨m5,n5⟩
  ·show bS (T.item (cC X (ls++ys) scope cl (~~~s3) s3 H3 fp) Z Z Z hc i [] s4 Y H4 (λ_ _=>False) I4 (a B Z) F go) λr s5 S=>?_
   let⟨u,hr,h5⟩:=S
   subst hr
   show bS h5 λ_ s6 S=>?_
   let⟨x,H6,I6,r6,y6,k,O⟩:=S
   let a5:=I6.pinned (a O Z) (T.obj _ _ k)
   let z:∀{U:St} {H7:Hp} {s7:N_},aH (cC X (ls++ys) scope cl (~~~s3) s3 H3 fp) ([]++lM fp s6.heap) U H7 s7->N U H7->∃m,m<n/\∃i Y H',aH (cC X (ls++ys) scope cl (~~~s3) s3 H3 fp) [] Y H' s7/\tn i s7.heap/\(∀b∈fp,H' b=none)/\W i m Y H':=fun{U H7 s7} I7 n7=>by
    let⟨m',hm,w7⟩:=hN U H7 n7
    show⟨m',hm,i+1,U,H7,I7.unpinned,T.keep _ _ _ k λb hb o e=>(I7.pin (b,o) (KF _ (KF _ (gw hb e)))).1,λb hb=>?_,w7⟩
    let⟨o,e,d⟩:=T.obj _ _ k b hb
    show(I7.pin (b,o) (KF _ (KF _ (gw hb e)))).2.1
   show bS (hg _ _ _ _ _ _ s6 Y H6 x u _ a5 r6 (step x H6 y6)) λ_ s7 S=>?_
   let⟨U,H7,I7,q7⟩:=S
   show bS (ht _ _ _ _ _ _ s7 U H7 _ I7 q7) λb s8 S=>?_
   let⟨H8,I8,q8⟩:=S
   cases b with
   |false=>
    show z I8 q8
   |true=>
    show bS (he _ _ _ _ _ _ s8 U H8 _ I8 q8) λy s9 S=>?_
    let⟨v,H9,I9,r9,Z0,L,M,n9⟩:=S
    show bS (bZ _ s9 U H9 (.ref (~~~s)) [v] (.ref (~~~s)) [y] (λ_ H'=>N U H') I9 Z (.cons r9 .nil) ⟨_,Z0,v,Z,Z,L,M,n9⟩) λ_ b0 S=>by let⟨_,H10,I10,_,P⟩:=S;show z I10 P
 show codeAny_compStart_list j (T.self _ 0 _ _ _ (T.keep _ _ _ st (λb _ o e=>f b o (A b o e))) j)
theorem GP (u:X.calm=true)(ok:eR X scope ls ys ix)(z:PI X tg iter wi)
  (l:∀cl C s H fp,PG (cC X (ls++ys) scope cl C s H fp) tg g) (ht:∀cl C s H fp,PF (cC X (ls++ys) scope cl C s H fp) ifs tt) (K:∀cl C s H fp,PE (cC X (ls++ys) scope cl C s H fp) elt te)
  (n:∀x,NJ iter X.env x=pure x:=by intro _;rfl):PE X (.ListComp elt [⟨tg,iter,ifs,0⟩] scope pos) (H_ wi ↑ls ix g tt te):=by
 intro O8 s σ H Q I h
 let⟨cl,a,d,c⟩:=la (scope:=scope) (env:=X.env) λy k hf=>I.ok.has y.1 (.inl (ok.free y k hf))
 show wpAny_comprehension_free (use:=none) Z n a ok.kind ok.loc (bS (z O8 s σ H _ I h) λv s1 h1=>bS h1 λL N h2=>?_)
 let⟨it,fp,M,J,H2,rfl,I2,T,f,F,r⟩:=h2
 show qL (R:=λj C=>compPost (Nd X.prog X.w) X.A X.xe none (EP X O8 σ Q) j C) u ok I2 T f F d c l ht K r λD C H' s' q I' E p hm=>?_
 let⟨m,B⟩:=hm
 show⟨m,B,λh' i=>⟨.ref D,H',?_,Z,q⟩⟩
 show I'.turned (t':=s'.toks) (λb hb=>by rw[JJ.mp hb];show⟨E,p.2⟩) λb o hb e=>(i.2 b hb).trans e
theorem y8(O:X.calm=true)(L:X.N.Nodup)(n:X.N[i]?>x)(hx:Gm X.env.scope x)(ok:eR X scope ls ys ix)(P:PI X tg iter wi)
  (F:∀cl C s H fp,PG (cC X (ls++ys) scope cl C s H fp) tg g) (ht:∀cl C s H fp,PF (cC X (ls++ys) scope cl C s H fp) ifs tt) (Z0:∀cl C s H fp,PE (cC X (ls++ys) scope cl C s H fp) elt te)
  (K:∀x,NJ iter X.env x=pure x:=by intro _;rfl) (p:swapsWith (.ListComp elt [⟨tg,iter,ifs,0⟩] scope pos) (some (.Name x px)) spos.line X.env=pure true:=by rfl)
  (hf:X.fn x=true\/X.env.scope.names.lookup x>.local):
  PS X (.Assign [.Name x px] (.ListComp elt [⟨tg,iter,ifs,0⟩] scope pos) spos) (uv wi ↑ls ix g tt te i):=by
 intro O8 s σ H D I h
 let⟨cl,c,f,d⟩:=la (scope:=scope) (env:=X.env) λy E hf=>I.ok.has y.1 (.inl (ok.free y E hf))
 rw[exec_Assign_Name_used _ _ _ _ p]
 show JD (wpAny_standAt (JD ?_))
 show JD (Km (wpAny_comprehension_free (use:=some (assign (.Name x px) X.env)) (Q:=λ_ s'=>∃l H',aH X O8 l H' s'/\D.nx l H') Z K c ok.kind ok.loc
  (bS (P O8 s σ H _ I h) λv s1 h1=>bS h1 λaa B h2=>?_)) (λ_ s' hq=>JE (JE hq)) λ_ _ e=>e)
 let⟨it,fp,tn,J,H2,rfl,I2,T,k,Y,M⟩:=h2
 show qL (R:=λz C=>compPost (Nd X.prog X.w) X.A X.xe (some (assign (.Name x px) X.env)) (λ_ s'=>∃l H',aH X O8 l H' s'/\D.nx l H') z C) O ok I2 T k Y f d F ht Z0 M λDa C H' s' q I' W u hm=>?_
 let⟨m,S⟩:=hm
 show wpAny_assign_Name (ow (v:=.ref Da) I' L n hx Z (λB I3 U=>?_) hf)
 let⟨a,sb,ha⟩:=U
 let j:C≠a:=by
  rcases ha with ha|ha
  ·rw[ha];show u.2.1
  ·show JH (u.2.2.2.2.1 x a ha)
 show⟨m,S.sameBut sb j,λh' r=>⟨_,H',?_,q⟩⟩
 show I3.turned (t':=B.toks) (λb hb=>by rw[JJ.mp hb];show⟨W,u.2⟩) λb o hb e=>(r.2 b hb).trans e
end
def Ev (t:TE) (σ:St) (H:Hp) (v:V):Prop:=∀Q:VK,Q v H->t σ H Q
def iq (t:TT) (σ:St) (H:Hp) (b:Bool):Prop:=∀Q:Bool->Hp->Prop,Q b H->t σ H Q
def mM (t:TA) (σ:St) (H:Hp) (vs:-V):Prop:=∀Q:-V->Hp->Prop,Q vs H->t σ H Q
section
variable {ta tb tc te:TE} {t u:TT} {i j k:Int} {a b c:Bool} {v x y:V}
theorem aB:Ev (tC v) σ H v:=λ_ q=>q
theorem ae(h:σ[n]?>some v):Ev (bI n) σ H v:=λ_ q=>⟨v,h,q⟩
theorem aR {g:Int->Int->V}(b:Ev ta σ H (.int i))(a:Ev tb σ H (.int j)):Ev (e9 (sI g) ta tb) σ H (g i j):=λ_ q=>b _ (a _ ⟨i,j,Z,Z,q⟩)
theorem cY {C:Int->Int->Prop}{g:Int->Int->V}(c:Ev ta σ H (.int i))(a:Ev tb σ H (.int j))(b:C i j):Ev (e9 (rI C g) ta tb) σ H (g i j):=λ_ q=>c _ (a _ ⟨i,j,Z,Z,b,q⟩)
theorem dR (b:Ev ta σ H (.int i))(a:Ev tb σ H (.int j)):Ev (e9 IE ta tb) σ H (.bl (decide (i=j))):=λQ q=>b _ (a _ ⟨Z,by
 let e:decide (V.int i=V.int j)=decide (i=j):=by rw[iQ];rfl
 rw[e];show q⟩)
theorem gz (b:Ev ta σ H (.int i))(a:Ev tb σ H (.int j)):Ev (e9 Jm ta tb) σ H (.bl (!decide (i=j))):=λQ q=>b _ (a _ ⟨Z,by
 let e:decide (V.int i=V.int j)=decide (i=j):=by rw[iQ];rfl
 rw[e];show q⟩)
theorem dN {p q:Int->Int->Bool}(c:Ev ta σ H (.int i))(a:Ev tb σ H (.int j))(b:Ev tc σ H (.int k)):Ev (sA (sI λi j=> .bl (p i j)) (sI λi j=> .bl (q i j)) ta tb tc) σ H (.bl (p i j&&q j k)):=λQ z=>by
 show c _ (a _ ⟨i,j,Z,Z,p i j,Z,?_⟩)
 cases e:p i j with
 |true=>rw[N1 Z];rw[e,Bool.true_and] at z;show b _ ⟨j,k,Z,Z,z⟩
 |false=>rw[N0 JR];rw[e,Bool.false_and] at z;show z
theorem AG (d:Ev ta σ H (.bl a))(c:a=true->Ev tb σ H (.bl b)):Ev (Ej ta tb) σ H (.bl (a&&b)):=λQ z=>by
 show d _ ⟨a,Z,?_⟩
 cases a with
 |true=>rw[N1 Z];show c Z _ z
 |false=>rw[N0 JR];show z
theorem Hj (d:Ev ta σ H (.bl a))(c:a=false->Ev tb σ H (.bl b)):Ev (G2 ta tb) σ H (.bl (a||b)):=λQ z=>by
 show d _ ⟨a,Z,?_⟩
 cases a with
 |true=>rw[N1 Z];show z
 |false=>rw[N0 JR];show c Z _ z
theorem GW (b:iq t σ H c)(d:c=true->Ev ta σ H v)(a:c=false->Ev tb σ H v):Ev (Ht t ta tb) σ H v:=λQ z=>by
 show b _ ?_
 cases c with
 |true=>rw[N1 Z];show d Z _ z
 |false=>rw[N0 JR];show a Z _ z
theorem aJ(c:Ev ta σ H (.ref p))(b:Ev tb σ H (.int i))(d:a_ K H p xs)(a:jT xs i>v):Ev (e9 (lE K) ta tb) σ H v:=λ_ q=>c _ (b _ ⟨p,xs,i,v,Z,Z,d,a,q⟩)
theorem bN(c:Ev ta σ H (.ref p))(b:Ev tb σ H (.int i))(d:aN K H p xs)(a:jT xs i>v):Ev (e9 (jF K) ta tb) σ H v:=λ_ q=>c _ (b _ ⟨p,xs,i,v,Z,Z,d,a,q⟩)
theorem oU (a:Ev ta σ H x)(b:Ev tb σ H .non):Ev (e9 (λx y H Q=>y=.non/\Q (.bl (decide (x=.non))) H) ta tb) σ H (.bl (decide (x=.non))):=λ_ z=>a _ (b _ ⟨Z,z⟩)
theorem cI {r:-V->Hp->VK->Prop}{vs:-V}{t:TA}(a:mM t σ H vs)(b:∀Q:VK,Q v H->r vs H Q):Ev (zf r t) σ H v:=λQ q=>a _ (b Q q)
theorem ax:mM e8 σ H []:=λ_ q=>q
theorem ak {t:TA}{vs:-V}(b:Ev ta σ H v)(a:mM t σ H vs):mM (cz ta t) σ H (v::vs):=λ_ q=>b _ (a _ q)
theorem ay (h:Ev te σ H (.bl b)):iq (oA te) σ H b:=λ_ q=>h _ ⟨b,Z,q⟩
theorem B0 (h:Ev te σ H (.bl b)):iq (tB te) σ H b:=λ_ q=>h _ ⟨b,Z,q⟩
theorem Fe (h:iq t σ H b):iq (BR t) σ H (!b):=λ_ q=>h _ q
theorem jx (d:iq t σ H a)(c:a=true->iq u σ H b):iq (G_ t u) σ H (a&&b):=λQ z=>by
 show d _ ?_
 cases a with
 |true=>rw[N1 Z];show c Z _ z
 |false=>rw[N0 JR];show z
theorem iX (d:iq t σ H a)(c:a=false->iq u σ H b):iq (Gi t u) σ H (a||b):=λQ z=>by
 show d _ ?_
 cases a with
 |true=>rw[N1 Z];show z
 |false=>rw[N0 JR];show c Z _ z
theorem dI {a:TT}{t u:TS}{D:gV}(h:iq a σ H b)(h1:b=true->t D σ H)(c:b=false->u D σ H):ly a t u D σ H:=by
 show h _ ?_
 cases b with
 |true=>rw[N1 Z];show h1 Z
 |false=>rw[N0 JR];show c Z
theorem gY {a:TT}{t u:TS}{D:gV}(h:iq a σ H b)(c:b=false)(d:u D σ H):ly a t u D σ H:=dI h (λe=>absurd (c.symm.trans e) JR) λ_=>d
theorem jL {a:TT}{t u:TS}{D:gV}(h:iq a σ H b)(c:b=true)(h1:t D σ H):ly a t u D σ H:=dI h (λ_=>h1) λe=>absurd (e.symm.trans c) JR
theorem lB(h:Ev te σ H v)(q:D.nx (σ.set n (some v)) H):iC te (dH n) D σ H:=h _ q
theorem cx(h:Ev te σ H v)(q:D.rt v H):z0 te D σ H:=h _ q
end
theorem Eo(h1: -2^64<j)(a:j<2^64):qy i j:=.inr ⟨h1,a⟩
theorem DZ(h1: -2^64<i)(a:i<2^64):qy i j:=.inl ⟨h1,a⟩
theorem Bp(h1:0<j)(a:j<2^200):uP i j:=⟨h1,a⟩
theorem IY(h1:0<=j)(a:j<=1000000)(b:i.natAbs<2^64):GX i j:=⟨h1,a,b⟩
theorem pB:NB "list" >.type "list":=by decide+kernel
theorem Ay:NB "zip" >.type "zip":=by decide+kernel
theorem st {t:TS}{D:gV}{r:VK}{b c:St->Hp->Prop}(h:t D σ H):({nx:=t D,rt:=r,bk:=b,ct:=c}:gV).nx σ H:=h
section
variable {te:TE} {tc:TT} {t u:TS} {ta:TA} {D:gV} {b:Bool} {v:V} {vs:-V} {n:Nat}
theorem cM (h:Ev te σ H v)(q:u D (σ.set n (some v)) H):eD (iC te (dH n)) u D σ H:=h _ q
theorem gx (h:iq tc σ H b)(a:b=false)(q:u D σ H):eD (ly tc t qU) u D σ H:=gY (D:={D with nx:=u D}) h a q
theorem q_ (h:iq tc σ H b)(h1:b=true->t {D with nx:=u D} σ H)(a:b=false->u D σ H):eD (ly tc t qU) u D σ H:=dI (D:={D with nx:=u D}) h h1 a
theorem tJ (h:mM ta σ H vs)(hz:↑vs<=N9)(q:∀p,H p=none->u D (σ.set n (some (.ref p))) (Ob H p (.lst vs))):eD (iC (pO ta) (dH n)) u D σ H:=h _ ⟨hz,q⟩
theorem sU(h:Ev te σ H (.ref p))(a:a_ K H p [x,y,z])(q:u D (((σ.set i (some x)).set j (some y)).set k (some z)) H):
  eD (iC te (Ga K 3 (vm (dH i) (vm (dH j) (vm (dH k) He))))) u D σ H:=h _ ⟨p,_,Z,a,Z,_,_,Z,_,_,Z,_,_,Z,Z,q⟩
theorem v_(q:tc σ H λb H1=>if b=true then t D σ H1 else u D σ H1):ly tc t u D σ H:=q
theorem kM (q:tc σ H λb H1=>if b=true then t {D with nx:=u D} σ H1 else u D σ H1):eD (ly tc t qU) u D σ H:=q
theorem zL(h:mM ta σ H vs)(q:sp vs H (λv H1=>u D (σ.set n (some v)) H1) E0):eD (iC (fS sp [] E0 ta) (dH n)) u D σ H:=h _ (J6<|q)
theorem gn(q:Q (σ.set n (some v)) H):dH n v σ H Q:=q
end
structure aU (P:Ni) (w:Nr) (K:JI) (mg:Nh->Option N7) (O_:Ng) (x:Nh) (k:Nat) (ps:-Nh) (sp:Sp):Prop where
 ex:∃f fd,eL P w K mg O_ jH k f fd ps sp/\mg x>.ref f/\Ky K (.ref f)=true/\cA K fd ps []
theorem AR(C:aU X.prog X.w X.K X.mg X.O_ x k ps sp)(g:aT k X.A)(i:Gl X x)(h:PA X (e::es) t)
  (a:(x==("__debug__" :Nh))=false:=by decide) (d:Nf (e::es) X.env=(false,eval e X.env)::Nf es X.env:=by rfl) (b:(NF pos (Nf es X.env)).any (·.1)=false:=by rfl):
  PE X (.Call (.Name x p) (e::es) [] pos) (fS sp [] E0 t):=by
 let⟨f,fd,G,hm,c,hb⟩:=C.ex
 show BL G g i hm c hb .nil lG h a d b
theorem a_.same {b:Hp}{a:N8}{xs:-V}(e:aw H b)(h:a_ K H a xs):a_ K b a xs:=by
 rcases h with (h|⟨o,h⟩)|h
 ·show .inl (.inl (e _ _ h))
 ·show .inl (.inr ⟨o,e _ _ h⟩)
 ·show .inr h
theorem aw.upd(e:aw H H'){p:N8}{o:HO}(a:H' p=none):aw H (Ob H' p o):=λb u h=>by
 rw[aj (ai (e b u h) a)]
 show e b u h
section
variable {tg:Nw}
theorem wK (l:X.calm=true):cy X (.builtin "max") (λxs H Q=>∃(p:N8) (ns:-Int),xs=[.ref p]/\aN X.K H p (ns.map V.int)/\0<ns.length/\∀M:Int,M∈ns->(∀a∈ns,a<=M)->Q (.int M) H):=by
 intro O8 s σ H xs y Q I r h
 let⟨p,ns,rfl,hp,d,q⟩:=h
 let⟨u,rfl,o⟩:=dO r
 cases o
 let⟨c,x,w,z⟩:=I.list hp
 let hi:O6 c ns:=by simpa using gm x
 let⟨zs,e⟩:=hi.allInts.items
 let b:ns=zs.toList.map (·.1):=by rw[<-hi.numsOf,<-nums_intItems,<-e]
 let f:0<zs.size:=by
  let i:=d;rw[b,JF,Ko] at i;show i
 let g:=w.isList
 rw[e] at g
 show max_intList (I.ok.hd l) g f λv h' tk n k=>?_
 let⟨t,rfl⟩:=intItems_at n
 let⟨h1,h2⟩:=argBest_gt (numAt zs) (zs.size - 1)
 show⟨.int _,H,I.kept k,⟨t,Z⟩,q _ ?_ λa ha=>?_⟩
 ·rw[b,numAt_eq];show getD_mem (by rw[JF,Ko];lia)
 ·rw[b] at ha
  let⟨j,m,rfl⟩:=mem_getD ha
  rw[JF,Ko] at m
  rw[<-numAt_eq];show h2 j ()
end
theorem bM.there(x:bM P w H h a o):∃ob,h.get? a>ob:=by
 cases o with
 |lst xs=>let⟨_,_,_,_,e⟩:=x;show⟨_,e⟩
 |tup xs=>let⟨_,_,_,ob,e,_⟩:=x;show⟨_,e⟩
 |dT kvs=>let⟨_,_,_,_,o,_,_,e,_⟩:=x;show⟨_,e⟩
 |ins C dx fs=>let⟨_,_,_,e,_⟩:=x;show⟨_,e⟩
 |own y=>show x
 |rng lo hi=>let⟨_,_,_,e⟩:=x;show⟨_,e⟩
 |frz ob u=>let⟨e,_⟩:=x;show⟨_,e⟩
 |tbl ps=>show⟨_,(show h.get? a>_ from x)⟩
 |ext φ=>show x.2.1
theorem gO.none_of(x:gO P w H h)(e:h.get? a=none):H a=none:=by
 cases q:H a with
 |none=>rfl
 |some u=>
  let⟨o,z⟩:=(x a u q).there
  rw[e] at z;cases z
theorem fz {a:-N8}{us:-N7}(h:aZ (a.map V.ref) us):us=a.map N7.ref:=by
 induction a generalizing us with
 |nil=>
  cases h
  rfl
 |cons c a ih=>
  cases h with
  |cons r t=>rw[ih t];cases(show _=N7.ref _ from r);rfl
theorem Ap(a:Gl X x)(b:X.mg x>.ref C)(hd:(x==("__debug__" :Nh))=false:=by decide):PE X (.Name x pos) (tC (.ref C)):=uO a b Z hd
theorem IM{g:Int->V}(a:Ev ta σ H (.int i)):Ev (IC (rU g) ta) σ H (g i):=λ_ q=>a _ ⟨i,Z,q⟩
theorem bF(q:te σ H λv H1=>u D (σ.set n (some v)) H1):eD (iC te (dH n)) u D σ H:=q
theorem p8(q:te σ H λv H1=>g v σ H1 λa H2=>u D a H2):eD (iC te g) u D σ H:=q
structure bQ (P:Ni) (w:Nr) (K:JI) (mg:Nh->Option N7) (O_:Ng) (C:N8) (m:Nh) (k:Nat) (ps:-Nh) (sp:Sp):Prop where
 ex:∃f fd,eL P w K mg O_ jH k f fd ps sp/\BO K C m f/\cA K fd ps []
structure fv (P:Ni) (w:Nr) (K:JI) (mg:Nh->Option N7) (O_:Ng) (C:N8) (x:Nh) (k:Nat) (ps:-Nh) (sp:Sp):Prop where
 ex:∃f fd,eL P w K mg O_ jH k f fd ps sp/\Mk K C f/\mg x>.ref C/\cA K fd ps []
section
variable {C:N8} {k:Nat} {ps:-Nh} {sp:Sp} {x m:Nh} {p pos apos:O1} {e o:Nw} {es:-Nw} {ta:TE} {t:TA}
theorem de {pl:Sem Bool}(d:PE X o ta)(c:pJ X.K C)(G:bQ X.prog X.w X.K X.mg X.O_ C m k ps sp)(g:aT k X.A)(h:PA X (e::es) t)
  (a:Nf (e::es) X.env=(false,eval e X.env)::Nf es X.env:=by rfl) (b:(NF pos (Nf es X.env)).any (·.1)=false:=by rfl)
  (ht:eval (.Call (.Attribute o m apos) (e::es) [] pos) X.env=(do
   let ov<-eval o X.env
   standAt apos.atName
   let (f,first)<-holding [ov] (getMethod ov m pl)
   callWith pos f first (NF pos (Nf (e::es) X.env)) (backToKw pos (keywordEach [] X.env))):=by rfl):
  PE X (.Call (.Attribute o m apos) (e::es) [] pos) (k9 C m sp [] E0 ta t):=by
 let⟨f,fd,F,hm,hb⟩:=G.ex
 show CY (pl:=pl) d c hm F g hb .nil lG h a b ht
theorem uK {pl:Sem Bool}(a:PE X o ta)(c:pJ X.K C)(G:bQ X.prog X.w X.K X.mg X.O_ C m k ps sp)(b:aT k X.A)
  (ht:eval (.Call (.Attribute o m apos) [] [] pos) X.env=(do
   let ov<-eval o X.env
   standAt apos.atName
   let (f,first)<-holding [ov] (getMethod ov m pl)
   callWith pos f first (NF pos (Nf [] X.env)) (backToKw pos (keywordEach [] X.env))):=by rfl):
  PE X (.Call (.Attribute o m apos) [] [] pos) (k9 C m sp [] E0 ta e8):=by
 let⟨f,fd,F,hm,hb⟩:=G.ex
 show A3 (pl:=pl) a c hm F b hb .nil lG ht
theorem uI (G:fv X.prog X.w X.K X.mg X.O_ C x k ps sp)(d:aT (k+1) X.A)(h:Gl X x)(g:PA X (e::es) t)(a:(x==("__debug__" :Nh))=false:=by decide)
  (c:Nf (e::es) X.env=(false,eval e X.env)::Nf es X.env:=by rfl) (b:(NF pos (Nf es X.env)).any (·.1)=false:=by rfl):PE X (.Call (.Name x p) (e::es) [] pos) (oq C sp [] E0 t):=by
 let⟨f,fd,F,M,hm,hb⟩:=G.ex
 show vN M F d h hm hb .nil lG g a c b
theorem Fb (G:fv X.prog X.w X.K X.mg X.O_ C x k ps sp)(b:aT (k+1) X.A)(c:Gl X x)(a:(x==("__debug__" :Nh))=false:=by decide):PE X (.Call (.Name x p) [] [] pos) (oq C sp [] E0 e8):=by
 let⟨f,fd,F,M,hm,hb⟩:=G.ex
 show yv M F b c hm hb .nil lG a
theorem jX:cy X (.type "range") (λxs H Q=>∃n,xs=[.int n]/\∀p,H p=none->Q (.ref p) (Ob H p (.rng 0 n))):=by
 intro O8 s σ H xs a Q I r h
 let⟨n,rfl,q⟩:=h
 let⟨u,rfl,t,rfl⟩:=dO r
 show PySem.call_range_1 ⟨.ref (~~~s),_,?_,Z,q _ (I.hok.fresh (JG _))⟩
 show I.laid (λb o e=>JK _ e) (JG _) ?_
 show⟨_,_,_,JT _ Z⟩
theorem lR {f:Nat->Int}:∀(a:-N7) (i:Nat),(∀j v,a[j]?>v->∃t,v=N7.int (f (i+j)) t)->aZ ((List.range' i ↑a).map λj=>V.int (f j)) a
 |[],_,_=> .nil
 |v::r,i,h=>by
  let⟨t,e⟩:=h 0 v Z
  show .cons ⟨t,e⟩ (lR r (i+1) λj u d=>?_)
  let⟨c,b⟩:=h (j+1) u d
  show⟨c,by rw[b];congr 2;lia⟩
theorem iy (n:X.calm=true):cy X (.type "list") (λxs H Q=>∃p lo hi,xs=[.ref p]/\H p>.rng lo hi/\(-2^62<=lo/\lo<2^62/\ -2^62<=hi/\hi<2^62)/\hi - lo<=16000000/\
  ∀l,H l=none->Q (.ref l) (Ob H l (.lst ((List.range (hi - lo).toNat).map λ(i:Nat)=>V.int (lo+(i:Int)))))):=by
 intro O8 s σ H xs E Q I r h
 let⟨p,lo,hi,rfl,hp,⟨h1,h2,m,A⟩,F,q⟩:=h
 let⟨u,rfl,D⟩:=dO r
 cases D
 let⟨t,y,a,e⟩:=(show bM X.prog X.w H s.heap p (.rng lo hi) from I.hok p _ hp)
 let o:Nc.Range.rangeSize lo hi 1=((hi - lo).toNat:Nat):=by
  rw[rangeSize_one]
  split<;>lia
 show call_list_range (I.ok.hd n) e (small_one h1 h2 m A) o () λh' tk b g d k c=>?_
 let⟨B,ha⟩:=c
 let C:aZ ((List.range (hi - lo).toNat).map λ(i:Nat)=>V.int (lo+(i:Int))) b.toList:=by
  let z:=lR (f:=λi=>lo+(i:Int)) b.toList 0 λj v x=>by
   let⟨t,e⟩:=ha j v (by rw[<-x];simp)
   show⟨t,by rw[e];simp⟩
  rw[show ↑b.toList=(hi - lo).toNat by rw[Ko,B]] at z
  rw[List.range_eq_range']
  show z
 show⟨.ref (~~~s),_,I.laid (t':=tk) d (JG _) (show bM X.prog X.w _ h' _ (.lst _) from⟨?_,b.toList,g,C,by rw[k]⟩),Z,q _ (I.hok.fresh (JG _))⟩
 rw[JF,Kz]
 have:N9=2^24:=rfl
 lia
end
theorem fK {te:TE}{a:St}{R:VK}{N:Hp->Prop}(h:te a H R):G8 a H λb H3=>if b=true then te a H3 R else N H3:=by
 change if true=true then te a H R else N H
 show h
theorem fi(h:j<n):zj n (j:Int)>j:=by
 unfold zj
 rw[N1 (),N1 ()]
 simp
section
variable {tc:TT} {te:TE} {t u v:TS} {D:gV} {a b:Bool}
theorem EU (h:iq tc σ H b)(h1:b=true->t {D with nx:=v D} σ H)(a:b=false->u {D with nx:=v D} σ H):eD (ly tc t u) v D σ H:=by
 show h _ ?_
 cases b with
 |true=>rw[N1 Z];show h1 Z
 |false=>rw[N0 JR];show a Z
theorem Fx (J:St->Hp->Prop)(h:iq tc σ H b)(h1:b=true->∀R:St->Hp->Prop,(∀σ H,J σ H->R σ H)->t {D with nx:=R} σ H)(c:b=false->∀R:St->Hp->Prop,(∀σ H,J σ H->R σ H)->u {D with nx:=R} σ H)
  (a:∀σ H,J σ H->v D σ H):eD (ly tc t u) v D σ H:=EU h (λe=>h1 e _ a) λe=>c e _ a
theorem zS (W:Nat->St->Hp->Prop)(h0:∃m,W m σ H)(d:∀m σ H,W m σ H->∃b,iq tc σ H b/\(b=true->∀N:St->Hp->Prop,(∀c a H',c<m->W c a H'->N a H')->t {D with nx:=N,ct:=N,bk:=D.nx} σ H)/\(b=false->D.nx σ H)):
  sQ tc t D σ H:=by
 show⟨W,h0,λm σ H w=>?_⟩
 let⟨b,hb,h1,h2⟩:=d m σ H w
 show hb _ ?_
 cases b with
 |true=>rw[N1 Z];show⟨λa H'=>∃c,c<m/\W c a H',λ_ _ z=>z,h1 Z _ λc a H' l e=>⟨c,l,e⟩⟩
 |false=>rw[N0 JR];show h2 Z
theorem Fc (J:St->Hp->Prop)(h1:∀R:St->Hp->Prop,(∀σ H,J σ H->R σ H)->t {D with nx:=R} σ H)(a:∀σ H,J σ H->v D σ H):eD t v D σ H:=h1 _ a
end
theorem qe:NB "reversed" >.type "reversed":=by decide+kernel
theorem oX:NB "enumerate" >.type "enumerate":=by decide+kernel
section
open PySem PySem.W PyProof.Rows
noncomputable def fR {b:Type} (lt:Nat->Nat->Bool):O4 b->b
 | .ret a=>a
 | .ask i j k=>fR lt (k (lt i j))
theorem fY {a b:Type}{lt:Nat->Nat->Bool}{f:a->O4 b}:∀t:O4 a,fR lt (t.bind f)=fR lt (f (fR lt t))
 | .ret _=>rfl
 | .ask i j k=>fY (k (lt i j))
inductive gL (lt:Nat->Nat->Bool) (n:Nat):{α:Type}->O4 α->Prop where
 |ret {α:Type} (a:α):gL lt n (O4.ret a)
 |ask {α:Type} {i j:Nat} {k:Bool->O4 α}:i<n->j<n->gL lt n (k (lt i j))->gL lt n (.ask i j k)
theorem gL.bind {lt:Nat->Nat->Bool}{b c:Type}{f:b->O4 c}{t:O4 b}(h:gL lt n t)(hf:gL lt n (f (fR lt t))):gL lt n (t.bind f):=by
 induction t with
 |ret a=>show hf
 |ask i j k ih=>
  cases h with
  |ask h1 h2 h3=>show .ask h1 h2 (ih _ h3 hf)
theorem Fn {e:Type}{lt:Nat->Nat->Bool}{b:Nat->Nat->(Bool->N_->Prop)->N_->Prop}{I:N_->Prop}{Q:e->N_->Prop}(g:∀i j C s,i<n->j<n->I s->(∀s',I s'->C (lt i j) s')->b i j C s){t:O4 e}(h:gL lt n t)(d:I s)(f:∀s',I s'->Q (fR lt t) s'):t.kasWp b Q s:=by
 induction t generalizing s with
 |ret a=>show f s d
 |ask i j k ih=>
  cases h with
  |ask h1 h2 h3=>show g i j _ s h1 h2 d λs' c=>ih _ h3 c f
section
variable {O:O5} (key:Nat->O.α)
def kA (p:Array Nat) (k:Nat):O.α:=key (p.getD k 0)
def Up (p:Array Nat) (n:Nat):Prop:=∀i j,i<=j->j<n->O.kle (kA key p i) (kA key p j)
def Dn (p:Array Nat) (n:Nat):Prop:=∀i j,i<=j->j<n->O.kle (kA key p j) (kA key p i)
abbrev dU (i j:Nat):Bool:=O.blt (key i) (key j)
def dM (n:Nat) (p:Array Nat):Prop:=p.Perm (List.toArray (List.range n))
variable {key}
theorem dM.size(h:dM n p):p.size=n:=by
 have:=h.size_eq
 simpa using this
theorem dM.lt(h:dM n p)(k:Nat)(a:k<n):p.getD k 0<n:=by
 let b:=h.size
 let hm:p[k]'()∈p:=Array.getElem_mem _
 have:=(h.mem_iff).mp hm
 rw[Lo,KM ()]
 simpa using this
theorem mC(a:j<=p.size)(k:Nat):(kas_rev p i j).getD k 0=if i<=k/\k<j then p.getD (i+j - 1 - k) 0 else p.getD k 0:=by
 unfold kas_rev
 rw[Lo,getElem?_mirror_all a]
 split<;>rw[Lo]
theorem dM.rev(h:dM n p)(i j:Nat):dM n (kas_rev p i j):=(mirror_perm p i j _).trans h
theorem tX(b:j<=p.size)(a:∀k,i<=k->k<j->kA key p k=kA key p (j - 1))(k:Nat):kA key (kas_rev p i j) k=kA key p k:=by
 unfold kA at a|-
 rw[mC b]
 split
 ·next h=>rw[a k h.1 h.2,a _ () ()]
 ·rfl
theorem Up.snoc(h:Up key p n)(c:1<=n)(b:O.kle (kA key p (n - 1)) (kA key p n)):Up key p (n+1):=λi j a d=>by
 by_cases e:j=n
 ·subst e
  by_cases e2:i=j
  ·subst e2;show O5.kle_refl _
  ·show O5.kle_trans (h i (j - 1) () ()) b
 ·show h i j a ()
theorem Dn.snoc(h:Dn key p n)(c:1<=n)(b:O.kle (kA key p n) (kA key p (n - 1))):Dn key p (n+1):=λi j a d=>by
 by_cases e:j=n
 ·subst e
  by_cases e2:i=j
  ·subst e2;show O5.kle_refl _
  ·show O5.kle_trans b (h i (j - 1) () ())
 ·show h i j a ()
theorem Dn.of_keys(h:Dn key p n)(e:∀k,kA key q k=kA key p k):Dn key q n:=λi j a b=>by rw[e,e];show h i j a b
theorem Dn.turn(h:Dn key p n)(a:n<=p.size):Up key (kas_rev p 0 n) n:=λi j b c=>by
 unfold kA
 rw[mC a,mC a,N1 ⟨J4 _,by omega⟩,N1 ⟨J4 _,by omega⟩]
 show h _ _ (by omega) (by omega)
theorem uo(a:dM N p):∀(f n:Nat),1<=n->n+f<=N->Up key p n->gL (dU key) N (O2 p f n)/\
  n<=fR (dU key) (O2 p f n)/\fR (dU key) (O2 p f n)<=n+f/\Up key p (fR (dU key) (O2 p f n))/\(fR (dU key) (O2 p f n)<n+f->dU key (p.getD (fR (dU key) (O2 p f n)) 0) (p.getD (fR (dU key) (O2 p f n) - 1) 0)=true)
 |0,n,_,_,h=>⟨.ret _,JG _,JG _,h,λz=>absurd z (Ku _)⟩
 |f+1,n,h1,hn,h=>by
  cases e:dU key (p.getD n 0) (p.getD (n - 1) 0) with
  |true=>
   let b:fR (dU key) (O2 p (f+1) n)=n:=by
    change fR (dU key) (if dU key (p.getD n 0) (p.getD (n - 1) 0)=true then O4.ret n else O2 p f (n+1))=n
    rw[e,N1 Z];rfl
   show⟨.ask (a.lt n ()) (a.lt (n - 1) ()) ?_,?_⟩
   ·rw[e,N1 Z];show .ret _
   ·rw[b];show⟨JG _,(),h,λ_=>e⟩
  |false=>
   let b:fR (dU key) (O2 p (f+1) n)=fR (dU key) (O2 p f (n+1)):=by
    change fR (dU key) (if dU key (p.getD n 0) (p.getD (n - 1) 0)=true then O4.ret n else O2 p f (n+1))=_
    rw[e,N0 JR]
   let⟨d,i,j,c,g⟩:=uo a f (n+1) () () (h.snoc h1 e)
   show⟨.ask (a.lt n ()) (a.lt (n - 1) ()) ?_,?_⟩
   ·rw[e,N0 JR];show d
   ·rw[b];show⟨(),(),c,λz=>g ()⟩
theorem kI:∀(f:Nat) (p:Array Nat) (n q:Nat),dM N p->q+1<=n->n+f<=N->Dn key p n->(∀k,n - (q+1)<=k->k<n->kA key p k=kA key p (n - 1))->
  gL (dU key) N (kas_desc f p n q)/\∀r,fR (dU key) (kas_desc f p n q)=r->dM N r.1/\n<=r.2.1/\r.2.1<=n+f/\r.2.2+1<=r.2.1/\Dn key r.1 r.2.1/\(∀k,r.2.1 - (r.2.2+1)<=k->k<r.2.1->kA key r.1 k=kA key r.1 (r.2.1 - 1))
 |0,p,n,q,hp,hq,hn,h,he=>⟨.ret _,λr e=>by cases e;show⟨hp,JG _,JG _,hq,h,he⟩⟩
 |f+1,p,n,q,hp,hq,hn,h,he=>by
  let z:=hp.size
  let i1:=hp.lt n ()
  let i2:=hp.lt (n - 1) ()
  let un:fR (dU key) (kas_desc (f+1) p n q)=fR (dU key) (if dU key (p.getD n 0) (p.getD (n - 1) 0)=true then (if GT.gt q 0 then kas_desc f (kas_rev p (n - (q+1)) n) (n+1) 0 else kas_desc f p (n+1) 0)
    else .ask (p.getD (n - 1) 0) (p.getD n 0) λd=>if d=true then .ret (p,n,q) else kas_desc f p (n+1) (q+1)):=rfl
  let b:∀(w:Array Nat) (k:Nat),n+1 - (0+1)<=k->k<n+1->kA key w k=kA key w (n+1 - 1):=λw k h1 h2=>by
   have:k=n+1 - 1:=by lia
   rw[this]
  cases e:dU key (p.getD n 0) (p.getD (n - 1) 0) with
  |true=>
   let v:Dn key p (n+1):=h.snoc () (O5.kle_of_klt e)
   by_cases hq0:GT.gt q 0
   ·let x:=tX (p:=p) (i:=n - (q+1)) (j:=n) () he
    let⟨l,o⟩:=kI f (kas_rev p (n - (q+1)) n) (n+1) 0 (hp.rev _ _) () () (v.of_keys x) (b _)
    show⟨.ask i1 i2 ?_,λr a=>?_⟩
    ·rw[e,N1 Z,N1 hq0];show l
    ·rw[un,e,N1 Z,N1 hq0] at a
     let⟨m,b2,y,u,c,g⟩:=o r a
     show⟨m,(),(),u,c,g⟩
   ·let⟨l,o⟩:=kI f p (n+1) 0 hp () () v (b _)
    show⟨.ask i1 i2 ?_,λr a=>?_⟩
    ·rw[e,N1 Z,N0 hq0];show l
    ·rw[un,e,N1 Z,N0 hq0] at a
     let⟨m,b2,y,u,c,g⟩:=o r a
     show⟨m,(),(),u,c,g⟩
  |false=>
   cases e2:dU key (p.getD (n - 1) 0) (p.getD n 0) with
   |true=>
    show⟨.ask i1 i2 ?_,λr a=>?_⟩
    ·rw[e,N0 JR]
     show .ask i2 i1 ?_
     rw[e2,N1 Z];show .ret _
    ·rw[un,e,N0 JR] at a
     let a:fR (dU key) (if dU key (p.getD (n - 1) 0) (p.getD n 0)=true then O4.ret (p,n,q) else kas_desc f p (n+1) (q+1))=r:=a
     rw[e2,N1 Z] at a
     cases a
     show⟨hp,JG _,(show n<=n+(f+1) by lia),hq,h,he⟩
   |false=>
    let s:kA key p n=kA key p (n - 1):=O.total _ _ e e2
    let v:Dn key p (n+1):=h.snoc () (s<|O5.kle_refl _)
    let⟨l,o⟩:=kI f p (n+1) (q+1) hp () () v λk h1 h2=>by
     by_cases x:k=n
     ·rw[x];rfl
     ·rw[he k () ()];show s.symm
    show⟨.ask i1 i2 ?_,λr a=>?_⟩
    ·rw[e,N0 JR]
     show .ask i2 i1 ?_
     rw[e2,N0 JR];show l
    ·rw[un,e,N0 JR] at a
     let a:fR (dU key) (if dU key (p.getD (n - 1) 0) (p.getD n 0)=true then O4.ret (p,n,q) else kas_desc f p (n+1) (q+1))=r:=a
     rw[e2,N0 JR] at a
     let⟨m,b2,y,u,c,g⟩:=o r a
     show⟨m,(),(),u,c,g⟩
def lY (key:Nat->O.α) (N:Nat) (r:Nat×Array Nat):Prop:=dM N r.2/\1<=r.1/\r.1<=N/\Up key r.2 r.1
theorem rD(a:dM N p)(h1:1<=n)(f:n<=N)(h:Dn key p n):gL (dU key) N (kas_tail3 n N p)/\lY key N (fR (dU key) (kas_tail3 n N p)):=by
 let g:=a.size
 let⟨c,d,e,b,_⟩:=uo (a.rev 0 n) (N - n) n h1 () (h.turn ())
 unfold kas_tail3
 show⟨c.bind (.ret _),?_⟩
 rw[fY]
 show⟨a.rev 0 n,by change 1<=fR _ _;lia,by change fR _ _<=N;lia,b⟩
theorem ki(o:dM N p)(v:n+1<=N)(h:Dn key p (n+1)):gL (dU key) N (kas_descPart n N p)/\lY key N (fR (dU key) (kas_descPart n N p)):=by
 let⟨c,s⟩:=kI (N - (n+1)) p (n+1) 0 o () () h λk h1 h2=>by
  have:k=n+1 - 1:=by lia
  rw[this]
 let⟨a,b2,g,m,b,e⟩:=s _ Z
 unfold kas_descPart
 rw[fY]
 revert a b2 g m b e c
 generalize l:fR (dU key) (kas_desc (N - (n+1)) p (n+1) 0)=r
 intro c a b2 g m b e
 let u:=a.size
 by_cases hq:GT.gt r.2.2 0
 ·let q:=tX (p:=r.1) (i:=r.2.1 - (r.2.2+1)) (j:=r.2.1) () e
  let⟨d,f⟩:=rD (a.rev (r.2.1 - (r.2.2+1)) r.2.1) () () (b.of_keys q)
  show⟨c.bind ?_,?_⟩
  ·rw[l,N1 hq];show d
  ·rw[N1 hq];show f
 ·let⟨d,f⟩:=rD a () () b
  show⟨c.bind ?_,?_⟩
  ·rw[l,N0 hq];show d
  ·rw[N0 hq];show f
theorem AL(c:dM N p)(h1:1<=N):gL (dU key) N (kas_count N p)/\lY key N (fR (dU key) (kas_count N p)):=by
 let E:=c.size
 let z:Up key p 1:=λi j f q=>by
  have:i=j:=by lia
  subst this;show O5.kle_refl _
 let⟨h,s,r,d,m⟩:=uo c (N - 1) 1 (JG _) () z
 unfold kas_count
 rw[fY]
 revert h s r d m
 generalize B:fR (dU key) (O2 p (N - 1) 1)=n
 intro h s r d m
 let a:∀{t:O4 (Nat×Array Nat)},(gL (dU key) N t/\lY key N (fR (dU key) t))->∀{g:Nat->O4 (Nat×Array Nat)},g n=t->gL (dU key) N ((O2 p (N - 1) 1).bind g)/\lY key N (fR (dU key) (g n)):=fun{t} ht {g} u=>by
  show⟨h.bind ?_,?_⟩
  ·rw[B,u];show ht.1
  ·rw[u];show ht.2
 by_cases hN:n=N
 ·show a (t:=.ret (n,p)) ⟨.ret _,c,(show 1<=n by lia),(show n<=N by lia),d⟩ (N1 (by simp[hN]))
 ·let b:=m ()
  by_cases hn1:GT.gt n 1
  ·cases e:dU key (p.getD 0 0) (p.getD (n - 1) 0) with
   |true=>
    show a ⟨.ask (c.lt 0 ()) (c.lt (n - 1) ()) ?_,?_⟩ (by rw[N0 (by simp[hN]),N1 hn1])
    ·rw[e,N1 Z];show .ret _
    ·change lY key N (fR (dU key) (if dU key (p.getD 0 0) (p.getD (n - 1) 0)=true then _ else _))
     rw[e,N1 Z];show⟨c,by change 1<=n;lia,by change n<=N;lia,d⟩
   |false=>
    let o:∀k,0<=k->k<n->kA key p k=kA key p (n - 1):=λk _ x=>by
     let v:O.kle (kA key p k) (kA key p (n - 1)):=d k (n - 1) () ()
     let C:O.kle (kA key p 0) (kA key p k):=d 0 k () x
     show O5.kle_antisymm v (O5.kle_trans e C)
    let w:=tX (p:=p) (i:=0) (j:=n) () o
    let dn:Dn key p (n+1):=by
     let l:Dn key p n:=λi j f q=>by rw[o i () (),o j () q];show O5.kle_refl _
     show l.snoc () (O5.kle_of_klt b)
    let⟨y,A⟩:=ki (c.rev 0 n) () (dn.of_keys w)
    show a ⟨.ask (c.lt 0 ()) (c.lt (n - 1) ()) ?_,?_⟩ (by rw[N0 (by simp[hN]),N1 hn1])
    ·rw[e,N0 JR];show y
    ·change lY key N (fR (dU key) (if dU key (p.getD 0 0) (p.getD (n - 1) 0)=true then _ else _))
     rw[e,N0 JR];show A
  ·let D:n=1:=by lia
   let dn:Dn key p (n+1):=by
    let l:Dn key p n:=λi j f q=>by
     have:i=j:=by lia
     subst this;show O5.kle_refl _
    show l.snoc () (O5.kle_of_klt b)
   show a (ki c () dn) (by rw[N0 (by simp[hN]),N0 hn1])
theorem lu(b:dM N p)(g:k<N)(d:Up key p k):∀(f l r:Nat),l<=r->r<=k->r - l<=f->(∀i,i<l->O.kle (kA key p i) (kA key p k))->(∀i,r<=i->i<k->O.klt (kA key p k) (kA key p i))->
  gL (dU key) N (kas_place p k f l r)/\∀v,fR (dU key) (kas_place p k f l r)=v->v<=k/\(∀i,i<v->O.kle (kA key p i) (kA key p k))/\(∀i,v<=i->i<k->O.klt (kA key p k) (kA key p i))
 |0,l,r,hlr,hrk,hf,h1,h2=>⟨.ret _,λv e=>by
   cases e
   show⟨(show l<=k by lia),h1,λi hi=>h2 i (by have:l<=i:=hi;lia)⟩⟩
 |f+1,l,r,hlr,hrk,hf,h1,h2=>by
  by_cases hge:l>=r
  ·let h:kas_place p k (f+1) l r=.ret l:=N1 hge
   rw[h]
   show⟨.ret _,λv e=>by cases e;show⟨(show l<=k by lia),h1,λi hi=>h2 i (by have:l<=i:=hi;lia)⟩⟩
  ·let h:kas_place p k (f+1) l r=.ask (p.getD k 0) (p.getD ((l+r)/2) 0) λc=>if c=true then kas_place p k f l ((l+r)/2) else kas_place p k f ((l+r)/2+1) r:=N0 hge
   rw[h]
   let hm:(l+r)/2<k:=by lia
   cases e:dU key (p.getD k 0) (p.getD ((l+r)/2) 0) with
   |true=>
    let⟨n,j⟩:=lu b g d f l ((l+r)/2) () () () h1 λi hi m=>O5.klt_of_klt_of_kle e (d _ i hi m)
    show⟨.ask (b.lt k g) (b.lt _ ()) (e<|N1 Z<|n),λv a=>j v ?_⟩
    let a:fR (dU key) (if dU key (p.getD k 0) (p.getD ((l+r)/2) 0)=true then _ else _)=v:=a
    rw[e,N1 Z] at a
    show a
   |false=>
    let⟨n,j⟩:=lu b g d f ((l+r)/2+1) r () hrk () (λi hi=>O5.kle_trans (d i ((l+r)/2) () hm) e) h2
    show⟨.ask (b.lt k g) (b.lt _ ()) (e<|N0 JR<|n),λv a=>j v ?_⟩
    let a:fR (dU key) (if dU key (p.getD k 0) (p.getD ((l+r)/2) 0)=true then _ else _)=v:=a
    rw[e,N0 JR] at a
    show a
theorem qx(a:k<p.size)(b:l<=k)(i:Nat):(bubble p k (k - l)).getD i 0=if i=l then p.getD k 0 else if l<i/\i<=k then p.getD (i - 1) 0 else p.getD i 0:=by
 rw[Lo,getElem?_bubble a (k - l) (),show k - (k - l)=l by lia]
 simp only[Lo]
 repeat' split
 all_goals rfl
theorem Up.bubble(c:dM N p)(g:k<N)(d:l<=k)(b:Up key p k)(h1:∀i,i<l->O.kle (kA key p i) (kA key p k))(f:∀i,l<=i->i<k->O.klt (kA key p k) (kA key p i)):Up key (bubble p k (k - l)) (k+1):=λi j a m=>by
 let h:=c.size
 let e:∀i,kA key (PyProof.Rows.bubble p k (k - l)) i=if i=l then kA key p k else if l<i/\i<=k then kA key p (i - 1) else kA key p i:=λi=>by
  unfold kA
  rw[qx () d]
  repeat' split
  all_goals rfl
 rw[e,e]
 by_cases c1:i=l<;>by_cases c2:j=l
 ·rw[N1 c1,N1 c2];show O5.kle_refl _
 ·rw[N1 c1,N0 c2,N1 ()];show O5.kle_of_klt (f _ () ())
 ·rw[N0 c1,N1 c2,N0 ()];show h1 i ()
 ·rw[N0 c1,N0 c2]
  by_cases d1:l<i/\i<=k
  ·rw[N1 d1,N1 ()];show b _ _ () ()
  ·rw[N0 d1]
   by_cases d2:l<j/\j<=k
   ·rw[N1 d2];show b _ _ () ()
   ·rw[N0 d2];show b _ _ a ()
theorem yQ:∀(f:Nat) (p:Array Nat) (k:Nat),dM N p->k+f=N->1<=k->Up key p k->gL (dU key) N (kas_bin f p k)/\dM N (fR (dU key) (kas_bin f p k))/\Up key (fR (dU key) (kas_bin f p k)) N
 |0,p,k,hp,hk,_,hu=>⟨.ret _,hp,by rw[show N=k by lia];show hu⟩
 |f+1,p,k,hp,hk,h1,hu=>by
  let⟨e,b⟩:=lu hp () hu k 0 k (J4 _) (JG _) () (λi hi=>absurd hi (KJ _)) λi hi a=>absurd a ()
  let⟨j,b2,c⟩:=b _ Z
  unfold kas_bin
  rw[fY]
  let hb:dM N (bubble p k (k - fR (dU key) (kas_place p k k 0 k))):=(bubble_perm _ _ _).trans hp
  let⟨d,h,g⟩:=yQ f _ (k+1) hb () () (hu.bubble hp () j b2 c)
  show⟨e.bind d,h,g⟩
theorem B9(h1:1<=N):gL (dU key) N (kas_sort N)/\dM N (fR (dU key) (kas_sort N))/\Up key (fR (dU key) (kas_sort N)) N:=by
 let⟨b,a,e,d,c⟩:=AL (key:=key) (p:=List.toArray (List.range N)) (Array.Perm.refl _) h1
 unfold kas_sort
 rw[fY]
 revert b a e d c
 generalize f:fR (dU key) (kas_count N (List.toArray (List.range N)))=r
 intro b a e d c
 by_cases h:r.1<N
 ·let⟨g,j,i⟩:=yQ (N - max r.1 1) r.2 (max r.1 1) a () () (by rw[show max r.1 1=r.1 by lia];show c)
  show⟨b.bind (f<|N1 h<|g),?_⟩
  rw[N1 h];show⟨j,i⟩
 ·show⟨b.bind (f<|N0 h<|.ret _),?_⟩
  rw[N0 h]
  show⟨a,by rw[show N=r.1 by lia];show c⟩
end
end
def Dp (K:JI) (H:Hp) (v:V) (d:Nl):Prop:=∃(a:N8) (ns:-Int),v=.ref a/\d=.tuple (ns.map Nl.int)/\a_ K H a (ns.map V.int)
theorem yZ (ns:-Int):Nl.canLayAll0 (ns.map Nl.int)=true:=by
 induction ns with
 |nil=>simp[Nl.canLayAll0]
 |cons n r ih=>simp[Nl.canLayAll0,Nl.canLay0,ih]
theorem Dp.lay {v:V}{d:Nl}(h:Dp K H v d):d.canLay0=true:=by
 let⟨a,ns,rfl,rfl,_⟩:=h
 simpa[Nl.canLay0] using yZ ns
theorem tW {h:Ng}{ns:-Int}{us:-N7}(r:aZ (ns.map V.int) us):∃as,ReadsAll h us (ns.map Nl.int) as:=by
 induction ns generalizing us with
 |nil=>
  cases r
  show⟨_,.nil⟩
 |cons n l ih=>
  cases r with
  |cons q r=>
   let⟨t,rfl⟩:=q
   let⟨bs,a⟩:=ih r
   show⟨_,.cons (.int n t) a⟩
theorem Dp.reads(h:Dp X.K H v d)(I:aH X O8 σ H s)(r:a8 v u):∃as,Reads s.heap u d as:=by
 let⟨a,ns,rfl,rfl,h⟩:=h
 cases(show _=N7.ref a from r)
 let⟨b,g,⟨o,c,f,n,hd⟩,_⟩:=I.tuple h
 let⟨as,e⟩:=tW g
 show⟨_,.tuple c f hd (by simpa using e)⟩
theorem Dp.ints{ns:-Int}(h:a_ K H a (ns.map V.int)):Dp K H (.ref a) (.tuple (ns.map Nl.int)):=⟨a,ns,Z,Z,h⟩
theorem jZ:∀(ns a:-Int),Nl.eqvAll (ns.map Nl.int) (a.map Nl.int)=decide (ns=a)
 |[],[]=>by simp[Nl.eqvAll]
 |[],_::_=>by simp[Nl.eqvAll]
 |_::_,[]=>by simp[Nl.eqvAll]
 |n::r,m::t=>by
  simp only[JW,Nl.eqvAll,Nl.eqv,jZ r t,List.cons.injEq]
  by_cases h1:n=m<;>by_cases h2:r=t<;>simp[h1,h2]
theorem oj (ns a:-Int):Nl.eqv (.tuple (ns.map Nl.int)) (.tuple (a.map Nl.int))=decide (ns=a):=by simp only[Nl.eqv];show jZ ns a
theorem kg:∀{ds:-Nl},(∀d∈ds,d.depth<=n)->Nl.depthAll ds<=n
 |[],_=>by simp[Nl.depthAll]
 |d::r,h=>by
  simp only[Nl.depthAll]
  show Nat.max_le.mpr ⟨h d JZ,kg λe a=>h e (J0 _ a)⟩
theorem jY (ns:-Int):(Nl.tuple (ns.map Nl.int)).depth<=1:=by
 have:Nl.depthAll (ns.map Nl.int)<=0:=kg λd hd=>by
  let⟨i,_,rfl⟩:=JL.mp hd
  simp[Nl.depth]
 simp only[Nl.depth];lia
theorem a_.kept {c:Hp}{a:N8}{xs:-V}(e:∀b o,H b>o->c b>o)(h:a_ K H a xs):a_ K c a xs:=a_.same e h
theorem aH.laidN(I:aH X O8 σ H s)(k:∀b u,b≠X.env.locals->s.heap.get? b>u->h'.get? b>u)
  (ns:∀m,s.heap.Ns X.env.locals m->h'.Ns X.env.locals m) (h:s.heap.get? a=none) (new:bM X.prog X.w (Ob H a o) h' a o):aH X O8 σ (Ob H a o) {s with heap:=h',toks:=t'}:=by
 let d:H a=none:=I.hok.none_of h
 let yf:∀b u,H b>u->b≠X.env.locals:=λb u e z=>by rw[z,I.free] at e;cases e
 let f:∀b u,s.heap.get? b>u->b≠a:=λb u e z=>by rw[z,h] at e;cases e
 show I.step (g':=s.gens) (d':=s.drawn) (ch:=[]) (λ_ z=>by cases z) (λb u g _ _ e _=>k b u g e) (λb u g _ _ e _=>⟨u.slots,k b u g e⟩) (λb u _ e n=>by rw[aj (f b u e)];show n)
  (λb u _ e=>?_) (λb xs e=>by rw[aj (ai e d)];show e) (λb u xs e=>by rw[aj (ai e d)];show e) (λb ps e=>⟨#[],by rw[aj (ai e d),e];simp⟩) ns (λb u e=>?_) I.bare
 ·by_cases hb:b=X.env.locals
  ·let⟨m,hm,_⟩:=I.loc
   let⟨o',_,_,i,_⟩:=ns m hm
   show⟨o',hb<|i⟩
  ·show⟨u,k b u hb e⟩
 ·by_cases hb:b=a
  ·subst hb;rw[ag] at e;cases e;show new
  ·rw[aj hb] at e
   show(I.hok b u e).stay (λc v hc q=>k c v ?_ q) (λc q=>by rw[aj (ai q d)];show q) λc xs q=>by rw[aj (ai q d)];show q
   rcases hc with rfl|hc
   ·show yf _ _ e
   ·show yf _ _ hc
theorem yr {h:Ng}{a:N8}{m m':Nh->Option N7}(x:h.Ns a m)(y:h.Ns a m'):m=m':=by
 let⟨o,es,ep,g,hd,_,f⟩:=x
 let⟨o',d,e,b,c,_,f'⟩:=y
 rw[g] at b;cases b
 rw[hd] at c;cases c
 funext n
 rw[<-f,<-f']
theorem ja:∀cs:-N8,aZ (cs.map V.ref) (cs.map N7.ref)
 |[]=> .nil
 |_::r=> .cons Z (ja r)
theorem cR:∀a:-Int,HT.lexLt a a=false
 |[]=>rfl
 |x::r=>by rw[HT.lexLt_cons,N1 Z];show cR r
theorem fw:∀a b:-Int,HT.lexLt a b=false->HT.lexLt b a=false->a=b
 |[],[],_,_=>rfl
 |[],_::_,h,_=>by rw[HT.lexLt_nil_cons] at h;cases h
 |_::_,[],_,h=>by rw[HT.lexLt_nil_cons] at h;cases h
 |x::r,y::t,h1,h2=>by
  rw[HT.lexLt_cons] at h1 h2
  by_cases e:x=y
  ·subst e
   rw[N1 Z] at h1 h2
   rw[fw r t h1 h2]
  ·rw[N0 e] at h1
   rw[N0 (JH e)] at h2
   have:=N6 h1
   have:=N6 h2
   lia
theorem gi:∀a b c:-Int,HT.lexLt a b=true->HT.lexLt b c=true->HT.lexLt a c=true
 |[],_,[],_,h=>by
  rename_i b _
  cases b with
  |nil=>rw[HT.lexLt_nil_nil] at h;cases h
  |cons y t=>rw[HT.lexLt_cons_nil] at h;cases h
 |[],_,_::_,_,_=>rfl
 |_::_,[],_,h,_=>by rw[HT.lexLt_cons_nil] at h;cases h
 |_::_,_::_,[],_,h=>by rw[HT.lexLt_cons_nil] at h;cases h
 |x::r,y::t,z::u,h1,h2=>by
  rw[HT.lexLt_cons] at h1 h2|-
  by_cases e1:x=y<;>by_cases e2:y=z
  ·subst e1;subst e2
   rw[N1 Z] at h1 h2|-
   show gi r t u h1 h2
  ·subst e1
   rw[N0 e2] at h2|-
   show h2
  ·subst e2
   rw[N0 e1] at h1|-
   show h1
  ·rw[N0 e1] at h1
   rw[N0 e2] at h2
   have:=N4 h1
   have:=N4 h2
   rw[N0 ()]
   show N3 ()
theorem Dz (a b c:-Int)(h:HT.lexLt a c=true):HT.lexLt a b=true\/HT.lexLt b c=true:=by
 cases h1:HT.lexLt a b with
 |true=>show .inl Z
 |false=>
  show .inr ?_
  cases h2:HT.lexLt b a with
  |true=>show gi b a c h2 h
  |false=>rw[<-fw a b h1 h2];show h
noncomputable def Cq:O5:=⟨-Int,HT.lexLt,cR,gi,Dz,fw⟩
abbrev bH (H:Hp) (as:-N8) (cs:-(-Int)):Prop:=Nb (λa (c:-Int)=>H a>.tup (c.map V.int)) as cs
theorem bH.at {as:-N8}{b:-(-Int)}{i:Nat}{a:N8}(h:bH H as b)(e:as[i]?>a):∃c,b[i]?>c/\H a>.tup (c.map V.int):=uH h e
theorem bH.same{cs:-(-Int)}(h:bH H as cs)(e:aw H H'):bH H' as cs:=Nb.mapP h λ_ _ z=>e _ _ z
open PySem.W in
theorem jW{Q:Bool->N_->Prop}:∀(d c:-N7) (ns a:-Int) (i:Nat),aZ (ns.map V.int) d->aZ (a.map V.int) c->fin=decide (ns.length<↑a)->
  Q (HT.lexLt ns a) s->KatLex prog w A b fin Q (d.zip c) i s
 |[],c,ns,a,i,r1,r2,hf,h=>by
  cases ns with
  |cons n r=>cases r1
  |nil=>
   rw[hf]
   cases a with
   |nil=>show h
   |cons m t=>show h
 |u::d,[],ns,a,i,r1,r2,hf,h=>by
  cases a with
  |cons m t=>cases r2
  |nil=>
   show kat_nil ?_
   rw[hf]
   cases ns with
   |nil=>show h
   |cons m t=>show h
 |u::d,v::c,ns,a,i,r1,r2,hf,h=>by
  cases ns with
  |nil=>cases r1
  |cons n r=>
   cases a with
   |nil=>cases r2
   |cons m t=>
    cases r1 with
    |cons q1 r1=>
     cases r2 with
     |cons q2 r2=>
      let⟨g,rfl⟩:=q1
      let⟨j,rfl⟩:=q2
      show kat_cons (wpAny_eqBool_int ?_)
      rw[HT.lexLt_cons] at h
      show kat_go (λe=>?_) (λe=>?_)
      ·let f:n=m:=by simpa using e
       rw[N1 f] at h
       show kat_yes (jW d c r t (i+1) r1 r2 (by rw[hf];simp) h)
      ·let f:¬n=m:=by simpa using e
       rw[N0 f] at h
       show kat_no ?_
       cases(b&&i==0) with
       |true=>show oneLt_int h
       |false=>show kat_one _ _ (lt_int h)
theorem Ai(I:aH X O8 σ H s)(k:∀b u,b≠X.env.locals->s.heap.get? b>u->h'.get? b>u){as:-N8}{j:-(-Int)}(g:bH H as j)(f:∀c∈j,c≠[]):
  ∃fs:-N7,LW h' (as.map N7.ref) fs/\↑fs=↑as/\∀v∈fs,∃i t,v=N7.int i t:=by
 induction g with
 |nil=>show⟨[],LW.nil,Z,λ_ h=>by cases h⟩
 | @cons a c as j h t ih=>
  let⟨fs,h1,h2,x⟩:=ih λd hd=>f d (J0 _ hd)
  let⟨_,e,m,o,p,y,n,hd⟩:=(show bM X.prog X.w H s.heap a (.tup (c.map V.int)) from I.hok a _ h)
  let ha:a≠X.env.locals:=λz=>by rw[z,I.free] at h;cases h
  cases c with
  |nil=>show absurd Z (f _ JZ)
  |cons i r=>
   cases m with
   |cons q m=>
    let⟨l,rfl⟩:=q
    show⟨.int i l::fs,LW.cons (k a o ha p) y hd (by simp) h1,by simp[h2],λv hv=>?_⟩
    rcases JO.mp hv with rfl|hv
    ·show⟨i,l,Z⟩
    ·show x v hv
theorem Nb.pick {e f:Type}{F:e->f->Prop}(k:e)(g:f):∀{l₁:-e} {c:-f},Nb F l₁ c->∀(ix:-Nat),(∀i∈ix,i<↑l₁)->Nb F (ix.map λi=>l₁.getD i k) (ix.map λi=>c.getD i g)
 |l₁,c,h,[],_=> .nil
 |l₁,c,h,i::ix,hi=>by
  show .cons ?_ (Nb.pick k g h ix λj l=>hi j (J0 _ l))
  let d:=hi i JZ
  clear hi
  induction h generalizing i with
  |nil=>show absurd d (KJ _)
  | @cons a b l₁ c q t ih=>
   cases i with
   |zero=>show q
   |succ j=>show ih (i:=j) (by simpa using d)
theorem wC {a:Type}(d:a)(l:-a){p:Array Nat}(b:dM ↑l p):(p.toList.map λi=>l.getD i d).Perm l:=by
 let h:p.toList.Perm (List.range ↑l):=by
  have:=Array.perm_iff_toList_perm.mp b
  simpa using this
 show(h.map _).trans ?_
 let e:(List.range ↑l).map (λi=>l.getD i d)=l:=by
  apply Mi
  intro i
  by_cases hi:i<↑l
  ·simp[hi]
  ·simp[hi]
 rw[e]
theorem zy{P:Fin->N_->Prop}(g:s.heap.get? l>O7 "list" vs.toArray c)(few:↑vs<2)(b:P (.done (.ret .none)) {s with heap:=sortedHeap s.heap l vs vs.toArray}):
  Na (Nd prog w) A (Nc.«list.sort» ⟨[.ref l],[]⟩) P E s:=by
 let lt:l<~~~s:=JN g
 rw[list_sort_plain]
 apply JD
 show listItems_at g Z ?_
 apply JD
 show listUpdate_at g Z ?_
 obtain⟨d,e⟩:∃d,(s.heap.update l (Nv.mapSeq λ_=> #[])).get? l>(O7 "list" #[] d):=⟨_,get?_update_seq g (λ_=> #[])⟩
 apply JD
 show seqEpoch_at e Z ?_
 apply JD
 show wpAny_newTuple ?_ (by rw[NO];simp;lia)
 apply JD
 show wpAny_newList ?_ (by decide)
 apply J_
 let f:(((s.heap.update l (Nv.mapSeq λ_=> #[])).push (O7 "tuple" vs.toArray 0)).push (O7 "list" #[] 0)).get? l>(O7 "list" #[] d):=by
  rw[Ng.get?_push_ne _ _ _ (JP (size_push'<|Ng.size_update<|K4 lt))]
  rw[Ng.get?_push_ne _ _ _ (JP (Ng.size_update<|lt))]
  show e
 change Na (Nd prog w) A _ P E ({s with heap:=((s.heap.update l (Nv.mapSeq λ_=> #[])).push (O7 "tuple" vs.toArray 0)).push (O7 "list" #[] 0)}:N_)
 dsimp only
 let a:vs.toArray.size<2:=by simpa using few
 rw[N1 a,N1 a]
 apply JD
 apply JE
 rw[StateT.run_pure]
 apply JD
 apply JE
 dsimp only
 apply JD
 show seqEpoch_at f Z ?_
 let h:(arrOf (SortSt.mk' general' (vs.toArray.zip vs.toArray) #[] 7 none)).map (·.2)=vs.toArray:=by
  change(vs.toArray.zip vs.toArray).map (·.2)=vs.toArray
  rcases vs with _|⟨x,_|⟨y,r⟩⟩
  ·simp
  ·simp
  ·show absurd few (by simp)
 rw[h]
 apply JD
 show listUpdate_at f Z ?_ (hsz2:=by rw[J8,NO];lia)
 simp only[bne_self_eq_false,LF]
 show JE b
theorem t9(g:s.heap.IsList l vs.toArray)(few:↑vs<2)(h:Q (.ref (~~~s+1)) {s with heap:=sortedAll s.heap vs vs.toArray}):
  Na (Nd prog w) A (call (.builtin "sorted") [.ref l]) Q E s:=by
 apply Calls.call_function_entry kind_sorted plain_sorted entry_sorted (args_sorted1 _)
 unfold Nc.«sorted»
 show JD (m:=checkCount "sorted" 1 1 _) ?_
 apply JE
 apply JD
 show collect_list g ?_ (by rw[NO];lia)
 apply JD
 show wpAny_newList ?_ (by rw[NO];lia)
 let z:((s.heap.push (O7 "list" #[] 0)).update (~~~s) (Nv.mapSeq (· ++vs.toArray))).objs.size= ~~~s+1:=(Ng.size_update ..).trans (size_push' ..)
 let a:(((s.heap.push (O7 "list" #[] 0)).update (~~~s) (Nv.mapSeq (· ++vs.toArray))).push (O7 "list" vs.toArray 0)).get? (~~~s+1)>O7 "list" vs.toArray 0:=z▸JT _ Z
 change Na _ _ _ _ _ ({s with heap:=((s.heap.push (O7 "list" #[] 0)).update (~~~s) (Nv.mapSeq (· ++vs.toArray))).push (O7 "list" vs.toArray 0)}:N_)
 rw[z]
 apply JD
 apply J_
 show Ka slot_list_sort ⟨_,a,Z⟩ entry_list_sort ?_ (args_list_sort _)
 show zy a few ⟨_,Z,?_⟩
 show JE ⟨_,Z,h⟩
theorem pT:cy X (.builtin "sorted") (λxs H Q=>∃(p:N8) (ys:-V),xs=[.ref p]/\aN X.K H p ys/\↑ys<2/\∀l,H l=none->Q (.ref l) (Ob H l (.lst ys))):=by
 intro O8 s σ H xs w Q I r h
 let⟨p,ys,rfl,hp,h2,q⟩:=h
 let⟨u,rfl,j⟩:=dO r
 cases j
 let⟨c,d,k,i⟩:=I.list hp
 let v:=↑d
 show t9 k.isList () ?_
 let⟨e,n⟩:=sortedAll_at s.heap c c.toArray
 let f:s.heap.get? (~~~s+1)=none:=K2 (Nat.le_succ _)
 show⟨.ref _,_,I.laidN (t':=s.toks) (a:= ~~~s+1) (o:=.lst ys) (λb u _ e=>sortedAll_old e) (λm hm=>?_) f ⟨i,c,e,d,n⟩,Z,q _ (I.hok.none_of f)⟩
 let⟨o,es,ep,g,r⟩:=hm
 show⟨o,es,ep,sortedAll_old g,r⟩
theorem iP {J:Type}{R:Hp->N8->J->Prop}{G:J->Prop}(Y:J)(key:J->-Int){T:N7}{b:Bool}(hT:(T==T)=true)(S:(T !=N7.type "tuple")=b)(hm:∀{H:Hp} {D x:N8} {c:J},H D=none->R H x c->R (Ob H D (.lst [])) x c)
  (hk:∀{O8:-(N8×Nv)} {σ:St} {H:Hp} {s:N_} {h':Ng},aH X O8 σ H s->(∀b u,b≠X.env.locals->s.heap.get? b>u->h'.get? b>u)->∀{as:-N8} {cs:-J},Nb (R H) as cs->(∀c∈cs,G c)->∃fs:-N7,LW h' (as.map N7.ref) fs/\↑fs=↑as/\∀v∈fs,Md (Nd X.prog X.w) h' (typeOf v) T)
  (hl:∀{O8:-(N8×Nv)} {σ:St} {H:Hp} {s:N_} {x y:N8} {c d:J} {C:Bool->N_->Prop},aH X O8 σ H s->R H x c->R H y d->G c->G d->C (HT.lexLt (key c) (key d)) s->Na (Nd X.prog X.w) X.A.in1.in1 (PyProof.Rows.keyLt' (PyProof.Rows.tuples' b) (.ref x) (.ref y)) C (λ_ _=>False) s):
  cy X (.builtin "sorted") (λxs H Q=>∃(p:N8) (as:-N8) (cs:-J),xs=[.ref p]/\aN X.K H p (as.map V.ref)/\Nb (R H) as cs/\(∀c∈cs,G c)/\↑as<64/\
   ∀l bs ds,H l=none->Nb (R H) bs ds->ds.Perm cs->ds.Pairwise (λc d=>HT.lexLt (key d) (key c)=false)->Q (.ref l) (Ob H l (.lst (bs.map V.ref)))):=by
 intro O8 s σ H xs us Q I r h
 let⟨p,as,cs,rfl,hp,ht,k,o,q⟩:=h
 let w:↑as=↑cs:=Nb.length ht
 by_cases h2:↑as<2
 ·show pT O8 s σ H _ us Q I r ⟨p,_,Z,hp,by rw[JF];lia,λl hl=>q l as cs hl ht (List.Perm.refl _) ?_⟩
  rcases cs with _|⟨c,_|⟨d,r⟩⟩
  ·show .nil
  ·show List.pairwise_singleton _ _
  ·show absurd w (by simp;lia)
 replace h2:2<=↑as:=by lia
 let⟨u,rfl,rx⟩:=dO r
 cases rx
 let⟨E,rv,pl,hz⟩:=I.list hp
 cases fz rv
 let⟨m,n,_⟩:=id I.loc
 show PySem.W.kat_sorted (h₀:=Att.noObjs s.heap) (L:=X.env.locals) (m:=m) (news:=iO (Att.noObjs s.heap) s.heap X.env.locals) (Att.fr_all n) A2 pl.isList (by simpa using h2) (by simpa using o) λD e1 h' F' N' hD=>?_
 let k0:∀b u,b≠X.env.locals->s.heap.get? b>u->h'.get? b>u:=λb u S e=>(N' (b,u) (J0 _ (gQ S (Att.noObjs_get _ _) e))).1
 let f:s.heap.get? D=none:=by
  cases e:s.heap.get? D with
  |none=>rfl
  |some u=>show absurd (hD (D,u) (gQ (N' (D,_) JZ).2.1 (Att.noObjs_get _ _) e)) (Ku _)
 let I1:aH X O8 σ (Ob H D (.lst [])) {s with heap:=h',toks:=s.toks}:=by
  show I.laidN k0 (λm' M=>?_) f ⟨J4 _,[],_,.nil,(N' (D,_) JZ).1⟩
  have:m'=m:=yr M n
  rw[this];show F'.ns
 let z:H D=none:=I.hok.none_of f
 let⟨fs,kt,F,A⟩:=hk I k0 ht k
 show PySem.W.kat_kind (s:={s with heap:=h'}) kt () A hT ?_
 rw[S]
 let B:↑(as.map N7.ref)=↑as:=JF ..
 let⟨s1,Z0,s3⟩:=B9 (O:=Cq) (key:=λi=>key (cs.getD i Y)) (N:=↑as) ()
 rw[B]
 show Fn (lt:=dU (O:=Cq) λi=>key (cs.getD i Y)) (I:=λs'=>s'={s with heap:=h'}) (λi j C s' hi U hs hC=>?_) s1 Z λs' hs=>?_
 ·subst hs
  let⟨ci,e1,g1⟩:=uH ht (i:=i) (a:=as[i]) (by simp[hi])
  let⟨cj,e2,g2⟩:=uH ht (i:=j) (a:=as[j]) (by simp[U])
  let v1:(as.map N7.ref).getD i N7.none=.ref as[i]:=by simp[hi]
  let v2:(as.map N7.ref).getD j N7.none=.ref as[j]:=by simp[U]
  unfold PySem.W.kas_ask
  rw[v1,v2]
  have:=hC _ Z
  simp only[dU,JS,e1,e2,Option.getD_some] at this
  show hl I1 (hm z g1) (hm z g2) (k ci (JY e1)) (k cj (JY e2)) this
 ·subst hs
  show PySem.W.KasFin.intro (s:={s with heap:=h'}) F' N' (.head λp hp=>JP (hD p hp)) λaa c F2 N2=>?_
  let g:∀i∈(fR (dU (O:=Cq) λi=>key (cs.getD i Y)) (PySem.W.kas_sort ↑as)).toList,i<↑as:=λi hi=>by
   have:=(Array.perm_iff_toList_perm.mp Z0).mem_iff.mp hi
   simpa using this
  generalize hE:fR (dU (O:=Cq) λi=>key (cs.getD i Y)) (PySem.W.kas_sort ↑as)=P at Z0 s3 g N2
  let S:(P.toList.map λi=>(as.map N7.ref).getD i N7.none)=(P.toList.map λi=>as.getD i 0).map N7.ref:=by
   rw[Ki]
   show La λi hi=>?_
   have:=g i hi
   simp[this]
  let I':aH X O8 σ (Ob H D (.lst ((P.toList.map λi=>as.getD i 0).map V.ref))) {s with heap:=aa,toks:=s.toks}:=by
   show I.laidN (λb u S e=>?_) (λm' M=>?_) f ?_
   ·show(N2 (b,u) (J0 _ (gQ S (Att.noObjs_get _ _) e))).1
   ·have:m'=m:=yr M n
    rw[this];show F2.ns
   ·let e:=(N2 (D,_) JZ).1
    rw[S] at e
    show⟨?_,_,_,ja _,e⟩
    rw[JF,JF,Ko,Z0.size]
    show J1 (Kh o) (by decide)
  show⟨.ref D,_,I',Z,q D _ _ (I.hok.none_of f) (Nb.pick 0 Y ht _ g) (wC Y cs (by rw[<-w];show Z0)) ?_⟩
  rw[List.pairwise_iff_getElem]
  intro i j hi U ad
  simp only[JF,Ko] at hi U
  have:=s3 i j (Kh ad) (by rw[Z0.size] at U;show U)
  simp only[List.getElem_map,Array.getElem_toList]
  unfold kA at this
  simp only[Lo,KM hi,KM U,Option.getD_some] at this
  show this
theorem iT(N:aT k X.A):cy X (.builtin "sorted") (λxs H Q=>∃(p:N8) (as:-N8) (cs:-(-Int)),xs=[.ref p]/\aN X.K H p (as.map V.ref)/\bH H as cs/\(∀c∈cs,c≠[])/\↑as<64/\
  ∀l bs ds,H l=none->bH H bs ds->ds.Perm cs->ds.Pairwise (λc d=>HT.lexLt d c=false)->Q (.ref l) (Ob H l (.lst (bs.map V.ref)))):=by
 show iP (R:=λH a c=>H a>.tup (c.map V.int)) (G:=(· ≠[])) [] (λc=>c) (T:=.type "int") Z Z (λD e=>by rw[aj (ai e D)];show e) (λI k as cs ht q=>?_) (fun{O8 σ H s x y c d C} I r E _ _ z=>?_)
 ·let⟨fs,h1,h2,u⟩:=Ai I k ht q
  show⟨fs,h1,h2,λv B=>by let⟨i,t,rfl⟩:=u v B;show .now⟩
 ·let⟨_,g,b,J,j,_,M,h⟩:=(show bM X.prog X.w H s.heap x (.tup (c.map V.int)) from I.hok _ _ r)
  let⟨_,n,f,L,o,_,F,m⟩:=(show bM X.prog X.w H s.heap y (.tup (d.map V.int)) from I.hok _ _ E)
  let l1:=↑b
  let l2:=↑f
  rw[JF] at l1 l2
  show PySem.W.kat_lt j h o m (jW g n c d 0 b f (by simp[l1,l2]) z)
abbrev cp (z:Nh):-Nat:=z.cps.toList
theorem FH (z:Nh):↑(cp z)=↑z:=by simp[Nh.length]
noncomputable def Il (z:Nh):It:=⟨λi _=>i<z.cps.size,λi H x H'=>H'=H/\∃c,(cp z)[i]?>c/\x=.str ⟨#[c]⟩,λi _=>z.cps.size<=i⟩
theorem FT{it:N8}{Q:Unit->N_->Prop}(a:Q Unit.unit s):Na M A (letOwnedTupleGo tg (.ref it) (.str x t)) Q E s:=by
 cases tg<;>show JE a
theorem zk {P:Ni}{A:Nw}(z:Nh)(t:Tok)(it:N8):md P w K A (Il z) [it] it (λi h=>h.IsStrIter it "str_ascii_iterator" z t i) where
 mem:=by simp
 obj:=λi h st b hb=>by
  let e:b=it:=by simpa using hb
  subst e
  let⟨o,e,c,d⟩:=st
  show⟨o,e,λv z=>by rw[d] at z;cases z⟩
 keep:=λi h h' st k=>by
  let⟨o,e,r⟩:=st
  show⟨o,k it (by simp) o e,r⟩
 item:=by
  intro X m l j f i O8 s σ H E I hf a hg
  subst m l j
  let W:=Walks.strAscii (prog:=X.prog) (w:=X.w) (I.ok.hd f) it z t
  show W.item i s _ _ hg a λv h' tk y g q=>?_
  let⟨c,u,n,rfl⟩:=y
  let x:aH X O8 σ H {s with heap:=h',toks:=tk}:=I.turned hf (λb o hb e=>q b o (by simpa using hb) e)
  show⟨_,Z,FT ⟨.str ⟨#[c]⟩,H,x,⟨u,Z⟩,⟨Z,c,by rw[<-n];simp,Z⟩,g,λb hb=>(hf b hb).1⟩⟩
 done:=by
  intro X m l j f i O8 s σ H E I hf a hg
  show wpAny_pyNext_ascii_end (I.ok.hd f) a (by have:z.cps.size<=i:=hg;simp[this]) λh' p=>⟨Z,I.turned (t':=s.toks) hf (λb o hb e=>p b o hb e)⟩
 self:=λ_ _ _ _ _ st h=>wpAny_pyIter_striter_ascii st h
def HU (a:TE):TI:=λσ H R=>a σ H λx H1=>∃z,x=.str z/\z.cps.all (· <128)=true/\R (Il z) H1
section
variable {tg:Nw}
theorem EV(d:PE X l tl):PI X tg l (HU tl):=by
 intro O8 s σ H R I h
 show bS (d O8 s σ H _ I h) λv s1 a=>?_
 let⟨x,H1,I1,c,f⟩:=a
 let⟨z,e,ha,q⟩:=f
 subst e
 let⟨t,rfl⟩:=c
 show wpAny_pyIter_ascii ha ?_
 show⟨~~~s1,[~~~s1],_,_,H1,Z,I1.kept (t':=s1.toks) λb o e=>JK _ e,zk z t _,⟨_,JT _ Z,Z,Z⟩,λb hb=>?_,q⟩
 let e:b= ~~~s1:=by simpa using hb
 subst e
 show I1.fpOk (JG _) (I1.hok.fresh (JG _))
theorem F6{S:SV}(a:Nat->St->Hp->Prop)(h0:a 0 σ H)(b:∀i c σ H,(cp z)[i]?>c->a i σ H->S (a (i+1)) (.str ⟨#[c]⟩) σ H)(hd:∀σ H,a ↑z σ H->F σ H):xZ (Il z) σ H S F:=by
 show gp ↑z a h0 (λi σ H hi p=>⟨hi,?_⟩) λσ H p=>⟨JG _,hd σ H p⟩
 rintro x _ ⟨rfl,c,d,rfl⟩
 show b i c σ _ d p
theorem wu {a:-Bool}{us:-N7}(h:aZ (a.map V.bl) us):us=a.map N7.bool:=by
 induction a generalizing us with
 |nil=>
  cases h
  rfl
 |cons c a ih=>
  cases h with
  |cons r t=>rw[ih t];cases(show _=N7.bool _ from r);rfl
theorem xW (bs:-Bool):(List.range ↑bs).all (λi=>bs.getD i false)=bs.all id:=by
 let e:(List.range ↑bs).map (λi=>bs.getD i false)=bs:=by
  apply Mi
  intro i
  by_cases hi:i<↑bs
  ·simp[hi]
  ·simp[hi]
 conv=>rhs;rw[<-e]
 rw[List.all_map]
 rfl
theorem zm (g:X.calm=true):cy X (.builtin "all") (λxs H Q=>∃(p:N8) (bs:-Bool),xs=[.ref p]/\aN X.K H p (bs.map V.bl)/\Q (.bl (bs.all id)) H):=by
 intro O8 s σ H xs x Q I r h
 let⟨p,bs,rfl,hp,q⟩:=h
 let⟨u,rfl,n⟩:=dO r
 cases n
 let⟨c,k,d,y⟩:=I.list hp
 cases wu k
 let l:(bs.map N7.bool).toArray.size=↑bs:=by simp
 show call_all_walk (L4 d.isList ?_)
 let a:p≠~~~s:=by
  let⟨o,m,_⟩:=d.isList
  show JP (JN m)
 show⟨~~~s,_,_,_,_,_,λi=>bs.getD i false,Z,Walks.list (A:=X.A.in1) (prog:=X.prog) (w:=X.w) (show X.A.in1.handled=none from I.ok.hd g) (~~~s) p a (bs.map N7.bool).toArray,⟨⟨_,JT _ Z,Z,Z⟩,?_⟩,λi v s' Q' E' j hq=>?_,λh' tk f=>?_⟩
 ·show d.isList.at λo e=>JK _ e
 ·let hi:(bs.map N7.bool).toArray[i]?>v:=j
  rw[List.getElem?_toArray,JV] at hi
  cases e:bs[i]? with
  |none=>rw[e] at hi;cases hi
  |some b=>
   rw[e] at hi
   cases hi
   show K8 ?_
   have:bs.getD i false=b:=by simp[JS,e]
   rw[<-this];show hq
 ·rw[l,xW]
  show⟨.bl _,H,I.kept (t':=tk) λb o e=>f b o ?_ (JK _ e),Z,q⟩
  intro hb
  have:b= ~~~s:=by simpa using hb
  show absurd (JN e) (this<|Ku _)
theorem eG(a:Gl X x)(h:∃u,X.mg x>u/\a8 v u)(hd:(x==("__debug__" :Nh))=false:=by decide):PE X (.Name x pos) (tC v):=by
 let⟨u,hm,r⟩:=h
 show uO a hm r hd
end
section
variable {ta tb:TE} {x y:Nh} {a b:Bool}
theorem xT(a:Ev ta σ H (.str ⟨#[c]⟩))(b:Ev tb σ H (.str y)):Ev (e9 (λx y H Q=>∃i j,x=.str i/\y=.str j/\Q (.bl (!(!(Nc.Str.occurrences j i 0 ↑j 1).isEmpty))) H) ta tb) σ H (.bl (!decide (c∈cp y))):=λQ q=>a _ (b _ ⟨_,y,Z,Z,PySem.StrLaws.found_one<|q⟩)
theorem yC(a:Ev ta σ H (.str ⟨#[c]⟩))(b:Ev tb σ H (.str y)):Ev (e9 (λx y H Q=>∃i j,x=.str i/\y=.str j/\Q (.bl (!(Nc.Str.occurrences j i 0 ↑j 1).isEmpty)) H) ta tb) σ H (.bl (decide (c∈cp y))):=λQ q=>a _ (b _ ⟨_,y,Z,Z,PySem.StrLaws.found_one<|q⟩)
theorem FW(d:Ev ta σ H (.str x))(b:Ev tb σ H (.int i))(hz:↑x<=N9)(a:jT (cp x) i>c):Ev (e9 Hf ta tb) σ H (.str ⟨#[c]⟩):=λ_ q=>d _ (b _ ⟨x,i,c,Z,Z,hz,a,q⟩)
theorem C9 (a:Ev ta σ H (.str x))(hz:↑x<=N9):Ev (zf (λxs H Q=>∃x n,xs=[x]/\CI K x H n/\Q (.int n) H) (cz ta e8)) σ H (.int (↑x:Nat)):=λ_ q=>a _ ⟨_,_,Z,⟨hz,Z⟩,q⟩
end
noncomputable def jl (c:Nat):-(-Nat)->-Nat
 |[]=>[]
 |[p]=>p
 |p::q::r=>p++c::jl c (q::r)
section
open AutoSeq1 (wpAny_loadPart')
theorem zC (c:Nat){it:N8}{fp:-N8}{n:Nat}{P:Nat->N7->Prop}{St:Nat->Ng->Prop}(D:Draws prog w A it fp n P St):
  Draws prog w A it fp (n+c) (λj v=>∃i,j=i+c/\P i v) (λj h=>∃i,j=i+c/\St i h) where
 live:=λj h b=>by let⟨i,_,st⟩:=b;show D.live i h st
 frame:=λj h h' ⟨i,e,st⟩ k=>⟨i,e,D.frame i h h' st k⟩
 item:=λj s Q E l ⟨i,e,st⟩ f=>by
  subst e
  show D.item i s Q E () st λx h' tk p a sb=>f x h' tk ⟨i,Z,p⟩ ⟨i+1,(),a⟩ sb
 done:=λs Q E ⟨i,e,st⟩ d=>by
  let g:n=i:=by lia
  subst g
  show D.done s Q E st d
theorem aH.turnedLaid {h':Ng}{t':Nat}{a:N8}{o:HO}{fp:-N8}(I:aH X O8 σ H s)(hf:∀b∈fp,iu X O8 H b)
  (k:∀b u,b∉fp->s.heap.get? b>u->h'.get? b>u) (g:s.heap.get? a=none) (new:bM X.prog X.w (Ob H a o) h' a o):aH X O8 σ (Ob H a o) {s with heap:=h',toks:=t'}:=by
 let d:H a=none:=I.hok.none_of g
 let yf:∀b u,H b>u->b∉fp:=λb u e z=>by rw[(hf b z).1] at e;cases e
 let f:∀b u,s.heap.get? b>u->b≠a:=λb u e z=>by rw[z,g] at e;cases e
 show I.step (g':=s.gens) (d':=s.drawn) (ch:=fp) (λb hb=>⟨(hf b hb).2.2.2.1,(hf b hb).2.1,(hf b hb).2.2.2.2.1,(hf b hb).2.2.2.2.2⟩) (λb u _ _ hc e _=>k b u hc e) (λb u _ _ hc e _=>⟨u.slots,k b u hc e⟩) (λb u _ e n=>by rw[aj (f b u e)];show n)
  (λb u hc e=>⟨u,k b u hc e⟩) (λb xs e=>by rw[aj (ai e d)];show e) (λb u xs e=>by rw[aj (ai e d)];show e) (λb ps e=>⟨#[],by rw[aj (ai e d),e];simp⟩) (λm hm=>?_) (λb u e=>?_) I.bare
 ·let⟨o',es,ep,h,r⟩:=hm
  show⟨o',es,ep,k _ o' (λz=>(hf _ z).2.1 Z) h,r⟩
 ·by_cases hb:b=a
  ·subst hb;rw[ag] at e;cases e;show new
  ·rw[aj hb] at e
   show(I.hok b u e).stay (λc v hc q=>k c v ?_ q) (λc q=>by rw[aj (ai q d)];show q) λc xs q=>by rw[aj (ai q d)];show q
   rcases hc with rfl|hc
   ·show yf _ _ e
   ·show yf _ _ hc
noncomputable def HW (c:Nat) (K:JI) (a:N8):It:=
 ⟨λi H=>∃xs x,aN K H a xs/\xs[i]?>x,λi H x H'=>∃p y,H p=none/\x=.ref p/\H'=Ob H p (.tup [.int ((i+c:Nat):Int),y])/\∀xs,aN K H a xs->xs[i]?>y,λi H=>∃xs,aN K H a xs/\↑xs<=i⟩
theorem xc (c:Nat){P:Ni}{ah:-Nw}{x1:Nat}{av:O1}(a e it:N8)(ab:e≠it):md P w K (.Tuple ah x1 av) (HW c K a) [e,it] e (λi h=>(∃Z0,IsEnum h e it ((i+c:Nat):Int) Z0)/\h.IsListIter it a i) where
 mem:=by simp
 obj:=λi h st b hb=>by
  let⟨⟨Z0,he⟩,o,ho,hc,hd⟩:=st
  rcases JO.mp hb with rfl|hb
  ·show⟨_,he,λv z=>by
    let z':Data.fields _=Data.cell v:=z
    cases z'⟩
  ·rw[JJ.mp hb]
   show⟨o,ho,λv z=>by rw[hd] at z;cases z⟩
 keep:=λi h h' ⟨⟨Z0,he⟩,st⟩ k=>⟨⟨Z0,k e (by simp) _ he⟩,st.at λo q=>k it (by simp) o q⟩
 item:=by
  intro X hP hw hK hc i O8 s σ H E I hf st hg
  subst hP hw hK
  let⟨xs,x,hq,hx⟩:=hg
  let⟨⟨Z0,he⟩,g⟩:=st
  let⟨d,rv,p,hz⟩:=I.list hq
  let⟨u,hu,ru⟩:=rv.get hx
  let hl:s.heap.IsList a d.toArray:=p.isList
  let⟨ol,f,l,_⟩:=id hl
  let⟨oi,n,L,_⟩:=id g
  let U:a≠it:=λz=>by
   rw[z,n] at f;cases f
   rw[L] at l;show absurd l (by decide)
  let N:a≠e:=λz=>by
   rw[z,he] at f;cases f
   show absurd (show N7.type "enumerate" =N7.type "list" from l) (by decide)
  let D:=zC c (Draws.list (prog:=X.prog) (w:=X.w) (A:=X.A.in1) (I.ok.hd hc) it a U d.toArray)
  let Y:i<↑d:=(JX.mp hu).1
  let B:e<~~~s:=JN he
  let C:it<~~~s:=JN n
  let nT:s.heap.get? (~~~s)=none:=K2 (JG _)
  show wpAny_pyNext_enum_itemD D he ⟨i,Z,g,hl⟩ (by simp;lia) ab (by simp[ab,JH N]) λx' h' tk hP ho a4 hT bl hk=>⟨_,Z,?_⟩
  show wpAny_letOwnedTupleGo_enum (s:={s with heap:=h',toks:=tk+1}) ho λh2 a6 sb=>?_
  let⟨i',ei,m⟩:=hP
  let J:i'=i:=by lia
  subst J
  let eu:x'=u:=by
   have:d.toArray[i']?>u:=by simpa using hu
   rw[this] at m;show(Option.some.inj m).symm
  subst eu
  let⟨j,ej,S⟩:=a4
  let O:j=i'+1:=by lia
  subst O
  let Q:h2.get? (~~~s)=some {cls:=.type "tuple",data:=.seq #[.int ((i'+c:Nat):Int) tk,x']}:=(sb.2 _ (Kx B)).trans hT
  show⟨.ref (~~~s),Ob H (~~~s) (.tup [.int ((i'+c:Nat):Int),x]),aH.turnedLaid (s:=s) (h':=h2) (fp:=[e,it]) (t':=tk+1) I hf (λb v hb q=>?_) nT ?_,Z,⟨_,x,I.hok.none_of nT,Z,Z,λys hy=>by rw[I.list_inj hy hq];show hx⟩,⟨⟨x',?_⟩,?_⟩,λb hb=>?_⟩
  ·let r:b≠e:=λz=>hb (by simp[z])
   show(sb.2 b r).trans (hk b v r (λz=>hb (by simp[z])) q)
  ·show⟨by change 2<=N9;decide,_,.cons ⟨tk,Z⟩ (.cons ru .nil),_,Q,Z,_,Z⟩
  ·have:((i'+1+c:Nat):Int)=((i'+c:Nat):Int)+1:=by lia
   rw[this];show a6
  ·show S.1.at λo q=>(sb.2 it (JH ab)).trans q
  ·let R:b<~~~s:=by
    rcases JO.mp hb with rfl|hb
    ·show B
    ·rw[JJ.mp hb];show C
   rw[aj (JP R)];show(hf b hb).1
 done:=by
  intro X hP hw hK hc i O8 s σ H E I hf st hg
  subst hP hw hK
  let⟨xs,hq,hx⟩:=hg
  let⟨⟨Z0,he⟩,g⟩:=st
  let⟨d,rv,p,hz⟩:=I.list hq
  let W:=↑rv
  let hl:s.heap.IsList a d.toArray:=p.isList
  let hT:s.TypeIs (.ref e) "enumerate" :=⟨_,he,Z⟩
  show JD (KA (KB (name:=Nh.ofString "__next__") hT F.slot_enumerate_next
   (Ka F.slot_enumerate_next hT F.entry_enumerate_next ?_ (F.args_enumerate_next_1 _))))
  change Na _ _ (field (.ref e) 2>>=_) _ _ _
  show JD (Ke he Z (x:=.ref it) Z ?_)
  show JD (wpAny_nextOf_list_end (I.ok.hd hc) g hl (by simp;lia) λh' y eb hy=>?_)
  let⟨o,ho,M⟩:=hy
  show JD (KW (T:= "StopIteration") (b:=true) ⟨o,ho,M⟩ isSubtype_stop ?_)
  show JE ⟨Z,I.turned (t':=s.toks) (λb hb=>hf b (J0 _ hb)) (λb o hb e=>eb b o hb e)⟩
 self:=λ_ _ _ _ _ ⟨⟨_,he⟩,_⟩ h=>wpAny_pyIter_enum he h
theorem mL{c:-(Bool×Sem N7)}{b:-(Option Nh×Sem N7)}
  (d:c.any (·.1)=false) (g:b.any (·.1.isNone)=false)
  (h:Na M A (evalArgs (.type T) true c b) (λa e=>Na M A (call (.type T) a.pos a.kw) Q E e) E s):
  Na M A (callWith pos (.type T) [] c b) Q E s:=by
 show JD (J_ (Km h (λa e f=>JD (wpAny_standAt ?_)) λ_ _ x=>x))
 simp only[d,g,Bool.or_false]
 show JD (JE ?_)
 show JD (Km f (λr i hr=>JD (J_ (wpAny_point (JE hr)))) λ_ _ x=>x)
theorem ie {c:O1}{a:-Nw}{k:Nat}{t:Gg}{n:Nat}(d:X.calm=true)(e:X.K=K)(h:GE X a t)
  (f:↑(NY a X.env)=n) (b:(NY a X.env).findIdx? (·.1)=none):PG X (.Tuple a k c) (Ga K n t):=by subst e;show cq d h f b
end
inductive Cs (A:Nu) (s:N_) (op:CmpOp):-N7->-N7->-(Bool×Bool)->Prop
 |nil:Cs A s op [] [] []
 |cons {v w:N7} {e b:Bool} {vs ws:-N7} {cs:-(Bool×Bool)} (he:SeqAt.EqAt A s v w e)
   (hb:e=false->∀(prog:Ni) (w':Nr) (E:N7->N_->Prop) (Q:N7->N_->Prop),Q (.bool b) s->Na (Nd prog w') A (NP op v w) Q E s) (t:Cs A s op vs ws cs):Cs A s op (v::vs) (w::ws) ((e,b)::cs)
noncomputable def res:-(Bool×Bool)->Bool->Bool
 |[],z=>z
 |(true,_)::r,z=>res r z
 |(false,b)::_,_=>b
theorem Cs.len{a:-(Bool×Bool)}(h:Cs A s op vs ws a):↑vs=↑ws:=by
 induction h with
 |nil=>rfl
 |cons _ _ t ih=>rw[J9,J9,ih]
theorem Bw (i j:Int):(!decide (j<i))=decide (i<=j):=by
 by_cases h2:j<i
 ·rw[N3 h2,N5 ()];rfl
 ·rw[N5 h2,N3 ()];rfl
theorem DN (A:Nu)(s:N_)(p:Int)(b:Tok)(a:Int)(t2:Tok):SeqAt.EqAt A s (.int p b) (.int a t2) (decide (p=a)):=by
 have:=SeqAt.EqAt.int_int (A:=A) (s:=s) p b a t2
 rw[show(p==a)=decide (p=a) from by simp[Bool.beq_eq_decide_eq]] at this
 show this
theorem je {b:Type}(f:b->Int)(c:Int):∀(l:-b),(l.map f).Nodup->↑(l.filter λx=>f x==c)<=1
 |[],_=>by simp
 |a::r,h=>by
  rw[JW,Kj] at h
  let g:=je f c r h.2
  by_cases e:f a=c
  ·let z:(r.filter λx=>f x==c)=[]:=by
    show List.filter_eq_nil_iff.mpr λx d q=>h.1 ?_
    rw[e]
    show JL.mpr ⟨x,d,by simpa using q⟩
   rw[LG (p:=λx=>f x==c) (by simpa using e),z]
   show JG _
  ·rw[LH (p:=λx=>f x==c) (by simpa using e)]
   show g
theorem xo{Q:Bool->N_->Prop}(a:s.TypeIs (.ref b) "tuple")(h:Q false s):Na (Nd prog w) A (Nc.Dict.quietEq (.ref b)) Q E s:=by
 show JD (LB a F.slot_tuple_eq.lookup (JE ?_))
 show h
theorem rT {id:String}{d:N8}{o:Nv}{c:Array ND}{j:Nat}{Q:Array ND->N_->Prop}(f:s.heap.get? d>o)(hd:o.data=.dict c j)
  (i:∀e∈c,∃b,e.key=.ref b/\s.TypeIs (.ref b) "tuple") (n:(c.toList.map (·.hash)).Nodup) (h:Q c s):Na (Nd prog w) A (Nc.Dict.entriesForEmpty id d) Q E s:=by
 show JD (Kn f hd (JD ?_))
 rw[<-Mz]
 show wpAny_forIn_list _ (λrest _ s'=>s'=s/\∀e∈rest,e∈c) _ ?_ ?_ _ _ ⟨Z,λe m=>Li.mp m⟩
 ·rintro e rest u s' ⟨rfl,a⟩
  let⟨b,l,k⟩:=i e (a e JZ)
  rw[l]
  show JD (xo k ?_)
  let one:¬GT.gt (c.filter (·.hash==e.hash)).size 1:=by
   have:=je (λx:ND=>x.hash) e.hash c.toList n
   rw[<-Ko,Array.toList_filter]
   omega
  rw[N0 one]
  show JE ⟨Z,λx g=>a x (J0 _ g)⟩
 ·rintro u s' ⟨rfl,_⟩
  show JE h
theorem xn{nm:String}{Q:Unit->N_->Prop}(i:d≠o)(j:(o==NQ)=false)
  (hd:s.heap.get? d>od) (f:od.ExactDict) (a:od.data=.dict #[] ep') (h:s.heap.get? o>oo) (c:oo.data=.dict es ep)
  (k:∀e∈es,∃b,e.key=.ref b/\s.TypeIs (.ref b) "tuple") (p:(es.toList.map (·.hash)).Nodup) (hz:es.size<=N9)
  (l:∀h',(∃o' g,h'.get? d>o'/\o'.ExactDict/\o'.data=.dict es g)->Ng.SameBut d s.heap h'->Q Unit.unit {s with heap:=h'}):
  Na (Nd prog w) A (Nc.Dict.mergeDict nm d o) Q E s:=by
 unfold Nc.Dict.mergeDict
 rw[N0 (by simpa using i)]
 unfold Nc.Dict.showsAll
 rw[N0 (j<|JR)]
 show JD (JE (JD (Kn h c ?_)))
 by_cases he:es= #[]
 ·subst he
  rw[N0 (by simp)]
  show JD (K5 h c (JD (Kn h c (JD ?_))))
  rw[Std.Legacy.Range.forIn_eq_forIn_range']
  show JE (JE (l s.heap ⟨od,ep',hd,f,a⟩ (Ng.SameBut.refl _ _)))
 ·let few:(decide (es.size<=8)&&es.all λe=>(keyPart e.key).isSome)=false:=by
   rw[Bool.and_eq_false_iff]
   show .inr (Bool.eq_false_iff.mpr λz=>he ?_)
   rw[<-Array.all_toList,LD] at z
   show Array.eq_empty_of_size_eq_zero (Nat.eq_zero_of_not_pos λm=>?_)
   let hm:es[0]∈es:=Array.getElem_mem m
   let⟨b,n,_⟩:=k _ hm
   let y:=z _ (Li.mpr hm)
   rw[n] at y
   show absurd y JR
  rw[few]
  show JD (Kn hd a ?_)
  show JD (rT h c k p ?_)
  rw[N1 (by simpa using he)]
  show JD (wpAny_updateDictKeysTo hd a (JE (l _ ⟨_,ep'+1,Kr _ hd (Nv.isFreed_of_dict (Nv.data_mapDictKeys a _)),f.mapDictKeys _,Nv.data_mapDictKeys a _⟩ (Ng.SameBut.update ..))) ())
theorem mR(k:(o==NQ)=false)(f:s.heap.get? o>oo)(i:oo.ExactDict)(j:oo.data=.dict es ep)
  (m:∀e∈es,∃b,e.key=.ref b/\s.TypeIs (.ref b) "tuple") (z:(es.toList.map (·.hash)).Nodup) (hz:es.size<=N9)
  (h:∀h',(∃o' d,h'.get? (~~~s)>o'/\o'.ExactDict/\o'.data=.dict es d)->(∀b u,s.heap.get? b>u->h'.get? b>u)->Q (.ref (~~~s)) {s with heap:=h'}):
  Na (Nd prog w) A (call (.type "dict") [.ref o]) Q E s:=by
 show callType_codes (Q₁:=λv c=>v=.ref (~~~s)/\c={s with heap:=s.heap.push {cls:=.type "dict",data:=.dict #[]}}) F.kt_called_dict (F.kt_typeCall_dict_1 _) F.entry_dict_init (kt_code_dict_new _ ⟨Z,Z⟩) ?_
 rintro v c ⟨rfl,rfl⟩
 let keep:∀b u,s.heap.get? b>u->(s.heap.push {cls:=.type "dict",data:=.dict #[]}).get? b>u:=λb u x=>JK _ x
 let l:N_.TypeIs {s with heap:=s.heap.push {cls:=.type "dict",data:=.dict #[]}} (.ref (~~~s)) "dict" :=⟨_,JT _ Z,Z⟩
 let g:N_.TypeIs {s with heap:=s.heap.push {cls:=.type "dict",data:=.dict #[]}} (.ref o) "dict" :=⟨oo,keep _ _ f,i.1⟩
 let a:o<~~~s:=JN f
 show⟨l,F.args_dict_init_2 _ _,?_⟩
 show JD ?_
 show JD (LI l ?_)
 show JE ?_
 change Na _ _ (Nc.Dict.updateFrom "dict.__init__" (~~~s) (.ref o) [] .none) _ _ _
 show JD (LX g ?_)
 show JD ?_
 show JD ?_
 show JD (KW g isSubtype_dict_dict ?_)
 show JD (LB g F.slot_dict_iter.lookup (JE ?_))
 show xn (Kx a) k (JT _ Z) ⟨Z,Z,Z⟩ Z (keep _ _ f) j (λe y=>?_) z hz λh' new sb=>?_
 ·let⟨b,r,p,n,q⟩:=m e y
  show⟨b,r,p,keep _ _ n,q⟩
 ·show JD (JE (JE ⟨Z,h h' new λb u x=>sb.extBut b u (JP (JN x)) (keep _ _ x)⟩))
def oZ (P:Ni) (w:Nr) (a:-(-cP×V)):Prop:=(a.map λp=>Np (aX P w) p.1).Nodup
theorem KT.keys {a:-(-cP×V)}{xs:-(-cP×N8×N7)}(r:KT H a xs):a.map (·.1)=xs.map (·.1):=by
 induction r with
 |nil=>rfl
 |cons h _ ih=>rw[JW,JW,ih,h.1]
section
variable {a:N8}
theorem B_ {j:-(-cP×V)}(I:aH X O8 σ H s)(e:Rd H a (.dT j))(r:oZ X.prog X.w j)(h:∀p s',H p=none->aH X O8 σ (Ob H p (.dT j)) s'->Q (.ref p) s'):Na (Nd X.prog X.w) A (call (.type "dict") [.ref a]) Q E s:=by
 let⟨z,hd,xs,c,o,es,ep,C,v,d,k,f,B⟩:=gI I.hok e
 let J:es.size=↑xs:=size_of_entries k
 let i:↑j=↑xs:=Nb.length c
 show mR hd C v d (λx n=>?_) ?_ () λh' new keep=>?_
 ·let hm:x∈xs.map (entryOfKey (Nm (aX X.prog X.w))):=k▸Li.mpr n
  let⟨y,m,rfl⟩:=JL.mp hm
  let⟨F,_,_,h1,h2,_⟩:=f y m
  show⟨y.2.1,Z,F,h1,h2⟩
 ·rw[k,Ki]
  have:xs.map ((λx:ND=>x.hash)∘entryOfKey (Nm (aX X.prog X.w)))=j.map λp=>Np (aX X.prog X.w) p.1:=by
   let D:xs.map ((λx:ND=>x.hash)∘entryOfKey (Nm (aX X.prog X.w)))=(xs.map (·.1)).map (Np (aX X.prog X.w)):=by rw[Ki];rfl
   rw[D,<-c.keys,Ki];rfl
  rw[this];show r
 ·let⟨o',g,h1,h2,u⟩:=new
  let l:H (~~~s)=none:=I.hok.fresh (JG _)
  show h _ _ l (I.laid (a:= ~~~s) (o:=.dT j) (t':=s.toks) keep (JG _) ⟨z,beq_eq_false_iff_ne.mpr (JH (JP I.big)),xs,c.keeps λb ys q=>?_,o',es,g,h1,h2,u,k,B⟩)
  rw[aj (ai q l)];show q
end
noncomputable def DQ (P:Ni) (w:Nr):-V->Hp->VK->Prop:=λxs H Q=>∃a,xs=[.ref a]/\
 (False\/∃b,Rd H a (.dT b)/\oZ P w b/\∀p,H p=none->Q (.ref p) (Ob H p (.dT b)))
theorem ip:cy X (.type "dict") (DQ X.prog X.w):=by
 intro O8 s σ H xs f Q I r h
 let⟨a,rfl,h⟩:=h
 let⟨u,rfl,d⟩:=dO r
 cases d
 let⟨b,e,c,q⟩:=h.resolve_left id
 show B_ I e c λp s' hp I'=>⟨.ref p,_,I',Z,q p hp⟩
def CO:V->Bool
 | .flt _=>false
 | .byt _=>false
 |_=>true
theorem B6(hf:CO v=true)(r:a8 v u)(c:a8 v u'):SeqAt.EqAt A s u u' true:=by
 cases v with
 |non=>cases(show u=N7.none from r);cases(show u'=N7.none from c);show SeqAt.EqAt.same _
 |bl b=>cases(show u=N7.bool b from r);cases(show u'=N7.bool b from c);show SeqAt.EqAt.same _
 |int i=>let⟨t,rfl⟩:=r;let⟨d,rfl⟩:=c;let h:=SeqAt.EqAt.int_int (A:=A) (s:=s) i t i d;rwa [beq_self_eq_true] at h
 |str x=>let⟨t,rfl⟩:=r;let⟨d,rfl⟩:=c;let h:=SeqAt.EqAt.str_str (A:=A) (s:=s) x t x d;simpa using h
 |byt b=>show absurd hf (by simp[CO])
 |flt b=>show absurd hf (by simp[CO])
 |ref a=>cases(show u=N7.ref a from r);cases(show u'=N7.ref a from c);show SeqAt.EqAt.same _
 |ty n=>cases(show u=N7.type n from r);cases(show u'=N7.type n from c);show SeqAt.EqAt.same _
def Hk (K:JI) (H:Hp) (v a:V):Prop:=(v=a/\CO v=true)\/∃d e,Dp K H v d/\Dp K H a e/\d.depth<=60/\Nl.eqv d e=true
theorem Hk.at(I:aH X O8 σ H s)(h:Hk X.K H v v')(r:a8 v u)(a:a8 v' u')(g:A.units+60<NE):SeqAt.EqAt A s u u' true:=by
 rcases h with ⟨rfl,h⟩|⟨d,e,h1,h2,hd,c⟩
 ·show B6 h r a
 ·let⟨as,b⟩:=h1.reads I r
  let⟨bs,f⟩:=h2.reads I a
  have:=SeqAt.eqAt_reads d e A s u u' as bs b f h1.lay h2.lay ()
  rwa [c] at this
inductive gF {K:Type} (A:Nu) (s:N_) (xb:-(K×N8×N7)):-(K×N8×N7)->Bool->Prop
 |nil:gF A s xb [] true
 |hit {k:K} {a:N8} {v:N7} {p:N8×N7} {r:-(K×N8×N7)} {e b:Bool}:(k,p)∈xb->SeqAt.EqAt A s v p.2 e->gF A s xb r b->gF A s xb ((k,a,v)::r) (e&&b)
theorem gF.inv {K:Type}{a:-(K×N8×N7)}{x:K×N8×N7}{r:-(K×N8×N7)}(h:gF A s a (x::r) c):∃(p:N8×N7) (e b:Bool),(x.1,p)∈a/\SeqAt.EqAt A s x.2.2 p.2 e/\gF A s a r b/\c=(e&&b):=by
 cases h with
 |hit hp he hr=>show⟨_,_,_,hp,he,hr,Z⟩
theorem gF.all {K:Type}{b a:-(K×N8×N7)}(h:∀x∈a,∃p,(x.1,p)∈b/\SeqAt.EqAt A s x.2.2 p.2 true):gF A s b a true:=by
 induction a with
 |nil=>show .nil
 |cons x r ih=>
  let⟨_,h1,h2⟩:=h _ JZ
  show .hit (e:=true) h1 h2 (ih λx c=>h x (J0 _ c))
section
variable {K:Type} [DecidableEq K] {knd:HeapKind prog w K}
theorem nC{nm:String}{O P:-(K×N8×N7)}{Q:Bool->N_->Prop}(X:knd.room A)(ha:(a==NQ)=false)(Z0:(b==NQ)=false)
  (da:s.heap.DictOfH knd a O) (db:s.heap.DictOfH knd b P) (T:↑O=↑P->gF A s P O r) (h:Q (↑O==↑P&&r) s):
  Na (Nd prog w) A (Nc.Dict.samePairs nm a b) Q E s:=by
 let⟨oa,es,ep,f,_,d,y,I,M⟩:=da
 let⟨ob,v,N,k,_,o,l,J,B⟩:=db
 let g:es.size=↑O:=size_of_entries y
 let z:v.size=↑P:=size_of_entries l
 unfold Nc.Dict.samePairs Nc.Dict.showsAll
 rw[N0 (show¬(a==NQ)=true by rw[ha];show JR),N0 (show¬(b==NQ)=true by rw[Z0];show JR)]
 show JD (JE (JD (JE (JD (Kn f d ?_)))))
 dsimp only
 show JD (Kn k o ?_)
 by_cases hsz:es.size=v.size
 case neg=>
  rw[N1 (by simpa using hsz)]
  let F:(↑O==↑P)=false:=by rw[<-g,<-z];simpa using hsz
  rw[F,Bool.false_and] at h
  show JD (Lp (JE h))
 case pos=>
  let C:↑O=↑P:=by rw[<-g,<-z];show hsz
  let h':Q r s:=by rw[C] at h;simpa using h
  let u:=T C
  rw[N0 (by rw[hsz];simp)]
  show JD (K5 f d (JD ?_))
  rw[Std.Legacy.Range.forIn_eq_forIn_range']
  simp only[Std.Legacy.Range.size,Nat.sub_zero,Nat.add_sub_cancel,Nat.div_one]
  show wpAny_forIn_list _ (λrest q s'=>s'=s/\q=(none,Unit.unit)/\∃i,rest=List.range' i (es.size - i)/\i<=es.size/\gF A s P (O.drop i) r) _ ?_ ?_ _ _ ⟨Z,Z,0,by simp,J4 _,u⟩
  ·rintro x rest q s' ⟨rfl,rfl,i,hr,hi,c⟩
   let L:i<es.size:=by
    rcases Nat.lt_or_ge i es.size with h|h
    ·show h
    ·rw[Nat.sub_eq_zero_of_le h] at hr;simp at hr
   obtain⟨rfl,R⟩:x=i/\rest=List.range' (i+1) (es.size - (i+1)):=by
    let e:es.size - i=(es.size - (i+1))+1:=by lia
    rw[e,List.range'_succ] at hr
    injection hr with h1 h2
    show⟨h1,h2⟩
   let m:x<↑O:=by lia
   show JD (Kn f d ?_)
   rw[entry_at y x,JU m]
   rw[MA m] at c
   let⟨p,e,b',hp,he,D,U⟩:=c.inv
   let Y:knd.is s'.heap O[x].1 O[x].2.1:=I _ (LK m)
   change Na _ _ (holding _ _>>=_) _ _ _
   show JD (J_ (JD ?_))
   show wpAny_dictFind_heap (a:=O[x].2.1) X Y k o l J B (λno=>?_) λj p' S=>?_
   ·let⟨j,S⟩:=List.getElem?_of_mem hp
    show absurd S (no j p)
   ·let⟨j',n⟩:=List.getElem?_of_mem hp
    let W:j=j':=idxH_unique B S n
    rw[W,n] at S
    obtain rfl:p=p':=by cases S;rfl
    rw[W]
    show JD (Kn k o ?_)
    rw[entry_at l j',n]
    show J_ (he prog w _ _ ?_)
    cases e with
    |false=>
     rw[U,Bool.false_and] at h'
     change Na _ _ (if (!false)=true then _ else _) _ _ _
     rw[N1 (by decide)]
     show JE (JE h')
    |true=>
     rw[Bool.true_and] at U
     rw[<-U] at D
     change Na _ _ (if (!true)=true then _ else _) _ _ _
     rw[N0 (by decide)]
     show JD (K5 f d ?_)
     rw[N0 (by simp)]
     show JE ⟨Z,Z,x+1,R,L,D⟩
  ·rintro q s' ⟨rfl,rfl,i,hr,hi,c⟩
   let H:i=es.size:=by
    rcases Nat.lt_or_ge i es.size with h|h
    ·let e:es.size - i=(es.size - (i+1))+1:=by lia
     rw[e,List.range'_succ] at hr;cases hr
    ·show Nat.le_antisymm hi h
   rw[H,g,List.drop_length] at c
   cases c
   show JE h'
theorem EK{f g:-(K×N8×N7)}(l:knd.room A.in1)(i:A.units<NE)(m:(a==NQ)=false)(j:(b==NQ)=false)
  (d:s.heap.DictOfH knd a f) (e:s.heap.DictOfH knd b g) (k:↑f=↑g) (c:∀x∈f,∃p,(x.1,p)∈g/\SeqAt.EqAt A.in1 s x.2.2 p.2 true) (h:Q (.bool true) s):
  Na (Nd prog w) A (Nk .Eq (.ref a) (.ref b)) Q E s:=by
 show wpAny_richCompare_same_room (op:=.Eq) d.typeIs e.typeIs PySem.F.slot_dict_eq (Ka PySem.F.slot_dict_eq d.typeIs PySem.F.entry_dict_eq ?_ (PySem.F.args_dict_eq_2 _ _)) i
 change Na _ _ (Nc.Dict.dictSlotArgs "__eq__" ⟨[.ref a,.ref b],[]⟩>>=_) _ _ s
 show JD ?_
 unfold Nc.Dict.dictSlotArgs
 show JD (LI d.typeIs ?_)
 change Na _ _ (pure (N7.ref a,N7.ref b)) _ _ s
 show JE (JD (KW (T:= "dict") e.typeIs PySem.F.sub_dict_dict ?_))
 simp only[Bool.not_true,LF,if_false]
 show JD (JE (JD (JE (JD (nC l m j d e (λ_=> .all c) ?_)))))
 rw[k,beq_self_eq_true,Bool.true_and]
 show JE ⟨_,Z,(λx=>by cases x),h⟩
end
theorem lN {a:Type} [DecidableEq a]{kvs:-(a×V)}{k:a}{v:V}(h:aE kvs k>v):(k,v)∈kvs:=by
 unfold aE at h
 let⟨p,hp,rfl⟩:=Kc.mp h
 have:=List.find?_some hp
 let e:p.1=k:=N4 this
 rw[<-e]
 show List.mem_of_find?_eq_some hp
theorem rM {a b:Type}{R:a->b->Prop}{xs:-a}{ys:-b}(g:Nb R xs ys):∀y∈ys,∃x∈xs,R x y:=by
 induction g with
 |nil=>show λ_ h=>by cases h
 |cons r t ih=>
  intro q h
  rcases JO.mp h with rfl|h
  ·show⟨_,JZ,r⟩
  ·let⟨x,c,q⟩:=ih q h
   show⟨x,J0 _ c,q⟩
theorem nM {a b:Type}{R:a->b->Prop}{xs:-a}{ys:-b}(g:Nb R xs ys):∀x∈xs,∃y∈ys,R x y:=by
 induction g with
 |nil=>show λ_ h=>by cases h
 |cons r t ih=>
  intro q h
  rcases JO.mp h with rfl|h
  ·show⟨_,JZ,r⟩
  ·let⟨x,c,q⟩:=ih q h
   show⟨x,J0 _ c,q⟩
theorem EH {a kb:-(-cP×V)}{b vb:-(-cP×N8×N7)}(I:aH X O8 σ H s)(f:KT H a b)(i:KT H kb vb)(g:A.units+60<NE)
  (h:∀p∈a,∃v,aE kb p.1>v/\Hk X.K H p.2 v):∀x∈b,∃p,(x.1,p)∈vb/\SeqAt.EqAt A s x.2.2 p.2 true:=by
 intro x e
 let⟨p,hp,l,_,c⟩:=rM f x e
 let⟨v,k,m⟩:=h p hp
 let⟨y,d,j,_,n⟩:=nM i _ (lN k)
 show⟨y.2,?_,m.at I c n g⟩
 rw[<-l,show p.1=y.1 from j]
 show d
theorem xY:NW (.type "list_reverseiterator") "__len__" =pure none:=by rw[NL,NC];kernel_rfl
theorem zh:NW (.type "list_reverseiterator") "__length_hint__" =pure (some (.builtin "list_reverseiterator.__length_hint__")):=by rw[NL,NC];kernel_rfl
section
variable {I:N8} {fp wr:-N8} {G:Array NT->Array NT->Prop} {n:Nat} {P:Nat->N7->Prop} {St:Nat->N_->Prop}
theorem tG(W:WalksS prog w A.in1 I fp wr G n P St)(m:∀i s,St i s->s.TypeIs (.ref I) "list_reverseiterator")(S:N8)(res:N7)(l:Nat)(d:St 0 s)(j:S∉fp)(v:I∈fp)
  (r:s.heap.get? S=some {cls:=.type "list",data:=.seq #[] l}) (x:n<=N9)
  (u:∀s' c g,Moved (S::wr) G s s'->s'.heap.get? S=some {cls:=.type "list",dict:=none,data:=.seq c g,slots:= #[]}->ItemsOf P c n->R (.ok (.ret res)) s'):
  Na (Nd prog w) A.in1 (Nc.List.listExtendWith (.ref S) (.ref I) res)
   (λq s'=>match q with| .done f=>R (.ok f) s'| .again g=>g.quiet=true/\NK (Nd prog w) A g R s') (λe s'=>R (.error e) s') s:=by
 let a:S≠I:=λe=>j (e▸v)
 unfold Nc.List.listExtendWith
 show JD (LX (m 0 _ d) ?_)
 let h1:Nc.List.listSameRef (.ref S) (.ref I)=false:=by simp[Nc.List.listSameRef,a]
 rw[N0 (by rw[h1];decide)]
 show JD (W.self 0 _ _ _ d (JD (J_ ?_)))
 unfold Nc.List.listLengthHint
 show JD (LB (m 0 _ d) xY ?_)
 change Na _ A.in1 (specialOf (N7.ref I) (Nh.ofString "__length_hint__")>>=_) _ _ _
 show JD (LB (m 0 _ d) zh ?_)
 generalize h:("list_reverseiterator.__length_hint__" :String)=o
 wp_delta
 rw[show splitId o>("list_reverseiterator", "__length_hint__") from by subst h;decide+kernel]
 subst h
 show JD (KW (b:=true) (m 0 _ d) (by rw[isSubtype_type];kernel_rfl) (JE ?_))
 rw[N0 (by decide)]
 show JE ⟨Ny F.plain_extend_loop _,codeAny_extend_loopS W x _ j _ n 0 _ _ _ Z (J4 _) d r (ItemsOf.nil P) λs' c g hm p k=>u s' c g hm p k⟩
theorem mJ(W:WalksS prog w A.in1.in1 I fp wr G n P St)(B:∀i s,St i s->s.TypeIs (.ref I) "list_reverseiterator")(p:St 0 s)(u:∀b∈fp,b<~~~s)(z:I∈fp)(C:n<=N9)
  (y:∀s' g q,Moved (~~~s::wr) G {s with heap:=s.heap.push {cls:=.type "list",data:=.seq #[]}} s'->
   s'.heap.get? (~~~s)=some {cls:=.type "list",dict:=none,data:=.seq g q,slots:= #[]}->ItemsOf P g n->Q (.ref (~~~s)) s'):
  Na (Nd prog w) A (call (.type "list") [.ref I]) Q E s:=by
 let a: ~~~s∉fp:=λhm=>Ku _ (u _ hm)
 show callType_codes (Q₁:=λv j=>v=.ref (~~~s)/\j={s with heap:=s.heap.push {cls:=.type "list",data:=.seq #[]}}) F.called_list (F.typeCall_list_1 _) F.entry_list_init
  (code_list_new _ ⟨Z,Z⟩) λv j l=>?_
 let⟨rfl,rfl⟩:=l
 let m:(s.heap.push {cls:=.type "list",data:=.seq #[]}).get? (~~~s)=some {cls:=.type "list",data:=.seq #[]}:=JT _ Z
 show⟨⟨_,m,Z⟩,F.args_list_init_2 _ _,?_⟩
 let d:=W.frame 0 s _ s.toks p (JG _) λb _ o e=>JK {cls:=.type "list",data:=.seq #[]} e
 change Na _ A.in1.in1 (do let x<-Nc.List.listItems (.ref (~~~s));Nc.List.listUpdate (.ref (~~~s)) (λ_=> #[]);letGo x.toList.reverse;Nc.List.listExtendWith (.ref (~~~s)) (.ref I) .none) _ _ _
 show JD ?_
 unfold Nc.List.listItems
 show JD (KC m Z (JE ?_))
 change Na _ A.in1.in1 (updateSeq (~~~s) (λ_=> #[])>>=λ_=>letGo (#[]:Array N7).toList.reverse>>=λ_=>Nc.List.listExtendWith (.ref (~~~s)) (.ref I) .none) _ _ _
 show JD (Lq m Z ?_)
 let f:=Kr (Nv.mapSeq (λ_=>(#[]:Array N7))) m Z
 let c:∀b o,b≠~~~s->(s.heap.push {cls:=.type "list",data:=.seq #[]}).get? b>o->((s.heap.push {cls:=.type "list",data:=.seq #[]}).update (~~~s) (Nv.mapSeq (λ_=>(#[]:Array N7)))).get? b>o:=
  λb o hb e=>(KS _ _ (JH hb)).trans e
 show JD (Lb ?_)
 show tG W B _ .none _ (W.frame 0 _ _ s.toks d (JG _) λb hb o e=>c b o (λh=>a (h▸hb)) e) a z f C λs' g q hm r k=>?_
 show⟨Z,y s' g q (Moved.trans W.gtrans ((Moved.refl W.grefl).then_heap (JG _) λb o hb e=>c b o (λh=>hb (h▸JZ)) e) hm) r k⟩
end
def A4 (K:JI) (te:TE):TE:=λσ H Q=>te σ H λx H1=>∃l ys,x=.ref l/\aN K H1 l ys/\∀p,H1 p=none->Q (.ref p) (Ob H1 p (.lst ys.reverse))
theorem tE(U:X.calm=true)(hg:Gl X "list")(T:X.mg "list" =none)(F:Gl X "reversed")(D:X.mg "reversed" =none)(he:PE X e te)
  (N:Nf [Nw.Call (.Name "reversed" p2) [e] [] pos2] X.env=[(false,eval (.Call (.Name "reversed" p2) [e] [] pos2) X.env)]:=by rfl) (B:Nf [e] X.env=[(false,eval e X.env)]:=by rfl):
  PE X (.Call (.Name "list" p1) [.Call (.Name "reversed" p2) [e] [] pos2] [] pos1) (A4 X.K te):=by
 intro O8 s σ H Q I h
 show KQ (fW I hg T pB ?_ (by decide) (by decide))
 show PyProof.Rows.callWith_type1 ?_ N Z
 rw[N]
 change Na _ _ (spliced [(false,eval (.Call (.Name "reversed" p2) [e] [] pos2) X.env)]) _ _ s
 show Calls.spliced_cons ?_
 show KQ (fW I F D qe ?_ (by decide) (by decide))
 show PyProof.Rows.callWith_type1 ?_ B Z
 rw[B]
 change Na _ _ (spliced [(false,eval e X.env)]) _ _ s
 show Calls.spliced_cons (bS (he O8 s σ H _ I h) λu s1 E=>?_)
 let⟨x,H1,I1,ru,l,ys,ex,hq,q⟩:=E
 show Calls.spliced_nil ?_
 subst ex
 cases(show u=N7.ref l from ru)
 let⟨d,R,M,P⟩:=I1.list hq
 let g:l<~~~s1:=by let⟨o,Z0,_⟩:=M.isList;show JN Z0
 show call_reversed_list M.isList (Calls.spliced_nil ?_)
 let O:∀b o,s1.heap.get? b>o->(s1.heap.push (revObj l ((d.toArray.size:Int) - 1))).get? b>o:=λb o z=>JK _ z
 let I2:=I1.kept (t':=s1.toks) O
 let Y:(s1.heap.push (revObj l ((d.toArray.size:Int) - 1))).IsRevIter (~~~s1) l ((d.toArray.size:Int) - 1):=⟨_,JT _ Z,Z,Z⟩
 let m:(s1.heap.push (revObj l ((d.toArray.size:Int) - 1))).IsList l d.toArray:=M.isList.at λo z=>O _ _ z
 let W:=(Walks.listRev (prog:=X.prog) (w:=X.w) (A:=X.A.in1.in1) (I1.ok.hd U) (~~~s1) l (JP g) d.toArray).toS
 let f:(s1.heap.push (revObj l ((d.toArray.size:Int) - 1))).objs.size= ~~~s1+1:=Kq ..
 let p:d.toArray.size<=N9:=by rw[J8,<-↑R];show P
 show mJ W (λi s' st=>st.2.1.typeIs) ⟨J4 _,by simpa using Y,m⟩ (λb hb=>?_) (by simp) p λs' v c y S ⟨C,L⟩=>?_
 ·change b<(s1.heap.push _).objs.size
  rw[f]
  rcases JO.mp hb with rfl|hb
  ·show Lz _
  ·rw[JJ.mp hb];show K4 g
 ·let es:=Moved.eq_with y
  let r:H1 (~~~s1+1)=none:=I1.hok.fresh (Nat.le_succ _)
  let hv:aZ ys.reverse v.toList:=by
   let e:v.toList=d.reverse:=by
    show Mi λj=>?_
    rcases Nat.lt_or_ge j ↑d with hj|hj
    ·let k:j<v.size:=by rw[C];simpa using hj
     have:=L j v[j] (KM k)
     rw[List.getElem?_reverse hj,Array.getElem?_toList,KM k,<-this]
     simp
    ·rw[Mj (by rw[Ko,C];simpa using hj),Mj (by simpa using hj)]
   rw[e];show R.reverse
  let n:s'.heap.get? (~~~s1+1)=some {cls:=.type "list",dict:=none,data:=.seq v c,slots:= #[]}:=by rw[<-f];show S
  let J:=aH.turnedLaid (a:= ~~~s1+1) (o:=.lst ys.reverse) (h':=s'.heap) (t':=s'.toks) (fp:=[~~~s1]) I2 (λb hb=>?_) (λb o hb z=>?_) (K2 (by change(s1.heap.push _).objs.size<=_;rw[f];show JG _))
   (show bM X.prog X.w _ s'.heap _ (.lst ys.reverse) from⟨List.length_reverse<|P,v.toList,c,hv,by simpa using n⟩)
  ·rw[es]
   show⟨.ref (~~~s1+1),_,J,?_,q _ r⟩
   change N7.ref (s1.heap.push _).objs.size=_
   rw[f]
  ·rw[JJ.mp hb];show I1.fpOk (JG _) (I1.hok.fresh (JG _))
  ·show y.heap b o (λhx=>?_) (JK _ z)
   rcases JO.mp hx with e|hx
   ·have:=JN z;rw[e] at this;show Ku _ this
   ·show hb hx
theorem aT.one(r:aT k A):A.units+1<NE:=by have:=r.un;lia
theorem dG(c:Ev td σ H (.ref a))(b:Ev ty σ H y)(g:fX H a y (some v)):Ev (Ei td ty) σ H v:=λ_ q=>c _ (b _ ⟨a,v,Z,g,q⟩)
section
variable {d:N8} {u:HO} {o:Nv}
theorem bM.upd(ok:bM P w H h b x)(e:∀xs,H d≠some (.tup xs))(a:∀y,H d≠some (.own y)):bM P w (L2.Ob H d v) h b x:=
 ok.stay (λ_ _ _ q=>q) (λc q=>by rw[aj (λz=>by rw[z] at q;show a _ q)];show q) λc xs q=>by rw[aj (λz=>by rw[z] at q;show e _ q)];show q
theorem aH.freeze (I:aH X O8 σ H s)(e:H d>u)(f:C4 (some u)):∃o,aH X O8 σ (Ob H d (.frz o u)) s/\s.heap.get? d>o:=by
 let ok:=I.hok d u e
 let⟨o,c⟩:=ok.there
 let a:C4 (H d):=e<|f
 show⟨o,I.write (t':=s.toks) (h':=s.heap) (x:=d) (e:=d) (o:=.frz o u) a (.inl Z) (λb v _ q=>q) ⟨o,c⟩ ⟨c,?_⟩,c⟩
 show ok.upd (λxs z=>by rw[z] at a;show a) (λy z=>by rw[z] at a;show a)
theorem aH.thaw (I:aH X O8 σ H s)(e:H d>.frz o u)(j:∀o' k,X.H₀ d≠some (.frz o' k)):aH X O8 σ (Ob H d u) s:=by
 let a:∀b,H b=none->b≠d:=λb n z=>by rw[z,e] at n;cases n
 let f:∀xs,H d≠some (.tup xs):=λxs z=>by rw[e] at z;cases z
 let g:∀y,H d≠some (.own y):=λy z=>by rw[e] at z;cases z
 let B:=I.O_
 show⟨I.ok,I.os,I.bare,⟨B.keep,B.slot,λb v q n h=>?_,B.there,λb xs q=>?_,λb v w q=>?_,λb ps q=>?_⟩,I.loc,I.cell,?_,λx c q=>?_,λp hp=>?_,λb v q=>?_,I.len⟩
 ·have:=B.free b v q n h
  rw[aj (a b this)];show this
 ·have:=B.tups b xs q
  rw[aj (λz=>by rw[z] at this;show f _ this)];show this
 ·have:=B.frzs b v w q
  rw[aj (λz=>by rw[z] at q;show j _ _ q)];show this
 ·let⟨more,this⟩:=B.tbls b ps q
  show⟨more,aj (λz=>by rw[z,e] at this;cases this)<|this⟩
 ·rw[aj (a _ I.free)];show I.free
 ·rw[aj (a _ (I.freeC x c q))];show I.freeC x c q
 ·let⟨h1,h2,i⟩:=I.pin p hp
  show⟨h1,aj (a _ h2)<|h2,i⟩
 ·by_cases hb:b=d
  ·subst hb
   rw[ag] at q;cases q
   let⟨_,z⟩:=I.hok b _ e
   show z.upd f g
  ·rw[aj hb] at q
   show(I.hok b v q).upd f g
end
noncomputable def IJ (D:gV) (d:N8) (o:Nv) (u:HO):gV:=
 ⟨λa H1=>H1 d>.frz o u/\D.nx a (Ob H1 d u),λv H1=>H1 d>.frz o u/\D.rt v (Ob H1 d u),λa H1=>H1 d>.frz o u/\D.bk a (Ob H1 d u),λa H1=>H1 d>.frz o u/\D.ct a (Ob H1 d u)⟩
def IK (t:TS):TS:=λD σ H=>∃d u,H d>u/\C4 (some u)/\∀o,t (IJ D d o u) σ (Ob H d (.frz o u))
theorem jM(h:PS X a t):PS X a (IK t):=by
 intro O8 s σ H D I ht
 let⟨d,u,e,j,q⟩:=ht
 let g:∀o' i,X.H₀ d≠some (.frz o' i):=λo' i z=>by
  have:=I.O_.frzs d o' i z
  rw[e] at this;cases this;show j
 let⟨o,I1,_⟩:=I.freeze e j
 show bS (h O8 s σ _ _ I1 (q o)) λf s' hf=>?_
 cases f with
 |next=>let⟨b,H',I',c,k⟩:=hf;show⟨b,_,I'.thaw c g,k⟩
 |brk=>let⟨b,H',I',c,k⟩:=hf;show⟨b,_,I'.thaw c g,k⟩
 |cont=>let⟨b,H',I',c,k⟩:=hf;show⟨b,_,I'.thaw c g,k⟩
 |ret v=>let⟨x,b,H',I',r,c,k⟩:=hf;show⟨x,b,_,I'.thaw c g,r,k⟩
def GD (te:TE):TE:=λσ H Q=>∃d u,H d>u/\C4 (some u)/\∀o,te σ (Ob H d (.frz o u)) λv H'=>H' d>.frz o u/\Q v (Ob H' d u)
theorem Fd(h:PE X a te):PE X a (GD te):=by
 intro O8 s σ H Q I ht
 let⟨d,u,e,f,q⟩:=ht
 let i:∀o' b,X.H₀ d≠some (.frz o' b):=λo' b z=>by
  have:=I.O_.frzs d o' b z
  rw[e] at this;cases this;show f
 let⟨o,I1,_⟩:=I.freeze e f
 show bS (h O8 s σ _ _ I1 (q o)) λv s' c=>by let⟨x,H',I',r,g,k⟩:=c;show⟨x,_,I'.thaw g i,r,k⟩
def ko:HO->Nat
 | .dT kvs=>↑kvs
 |_=>0
def ml:HO->Prop
 | .dT _=>True
 |_=>False
noncomputable def j8 (H:Hp):HO->Nat->V->V->Prop
 | .dT kvs,i,x,v=>∃k b,kvs[i]?>(k,v)/\x=.ref b/\H b>.tup (k.map kV)
 |_,_,_,_=>False
theorem mf {a c:Type}{R:a->c->Prop}{xs:-a}{ys:-c}(h:Nb R xs ys)(i:Nat)(b:i<↑ys):∃x,xs[i]?>x/\R x ys[i]:=by
 induction h generalizing i with
 |nil=>show absurd b (KJ _)
 |cons r t ih=>
  cases i with
  |zero=>show⟨_,Z,r⟩
  |succ i=>
   let⟨x,h1,h2⟩:=ih i (by simpa using b)
   show⟨x,by simpa using h1,by simpa using h2⟩
theorem gC(ok:gO P w H h)(e:H d>.frz o u)(m:ml u):(d==NQ)=false/\h.get? d>o/\o.ExactDict/\
  ∃es ep,o.data=.dict es ep/\es.size=ko u/\∀i (hi:i<es.size),∃x v,j8 H u i x v/\a8 x es[i].key/\a8 v es[i].val:=by
 let⟨b,k⟩:=ok d _ e
 cases u with
 |dT kvs=>
  let⟨z,l,xs,a,o',es,ep,h1,h2,q,f,r⟩:=k
  rw[b] at h1;cases h1
  let j:es.size=↑xs:=size_of_entries f
  show⟨l,b,h2,es,ep,q,by rw[j,<-Nb.length a];rfl,λi hi=>?_⟩
  let⟨p,hp,s,n,g⟩:=mf a i (by omega)
  let c:es[i]=entryOfKey (Nm (aX P w)) xs[i]:=by
   have:=entry_at f i
   rw[JU (by omega),KM hi] at this
   show Option.some.inj this
  show⟨.ref xs[i].2.1,p.2,⟨p.1,_,hp,Z,n⟩,?_,?_⟩
  ·rw[c];rfl
  ·rw[c];show g
 |_=>show m.elim
section
variable {d it:N8} {o:Nv} {es:Array ND} {i ep:Nat}
theorem BH(hd:(d==NQ)=false)(b:s.heap.get? d>o)(e:o.ExactDict)(a:o.data=.dict es ep)
  (f:Q (.ref (~~~s)) {s with heap:=s.heap.push {cls:=.type "dict_keyiterator",data:=.fields #[.ref d,.int 0 0,.int es.size 0,.int ep 0]}}):Na (Nd prog w) A (pyIter (.ref d)) Q E s:=by
 let c:s.TypeIs (.ref d) "dict" :=⟨o,b,e.1⟩
 show L5 c F.slot_dict_iter (Ka F.slot_dict_iter c F.entry_dict_iter ?_ (F.args_dict_iter_1 _))
 show JD (JD (LI c ?_))
 show JE ?_
 change Na _ _ (Nc.Dict.showsAll d>>=_) _ _ s
 unfold Nc.Dict.showsAll
 rw[N0 (hd<|JR)]
 show JD (JE (JD (Kn b a (JD (K5 b a ?_)))))
 show JD (KL (JE ⟨_,Z, "dict_keyiterator",_,⟨_,JT _ Z,Z⟩,F.slot_dict_keyiterator_next.lookup,?_⟩))
 simpa[NI] using f
theorem Ca(hit:s.heap.IsKeyIter it d i es.size ep)(b:s.heap.get? d>o)(a:o.data=.dict es ep)(f:i<es.size)
  (g:∀h',h'.IsKeyIter it d (i+1) es.size ep->Ng.SameBut it s.heap h'->Q (some es[i].key) {s with heap:=h'}):Na (Nd prog w) A (NG (.ref it)) Q E s:=by
 let⟨h,c,e,hd⟩:=id hit
 show JD (KA (KB (name:=Nh.ofString "__next__") hit.typeIs F.slot_dict_keyiterator_next
  (Ka F.slot_dict_keyiterator_next hit.typeIs F.entry_dict_keyiterator_next ?_ (F.args_dict_keyiterator_next_1 _))))
 show JD (JE (JD (JD ?_)))
 show JD (MC hit.typeIs (JE ?_))
 show JD (wpAny_fieldsOf c hd ?_)
 change Na _ _ (if (N7.ref d==N7.none)=true then _ else _) _ _ s
 show JD (JE (JD (Kn b a ?_)))
 rw[N0 (by simp)]
 show JD (JE (JD (K5 b a ?_)))
 rw[N0 (by simp)]
 show JE ?_
 simp only[show¬((i:Int)<0) from by lia,if_false,Kv,KM f]
 show JD ?_
 show JD (MC hit.typeIs (JE ?_))
 show JD (wpAny_isOneOf_keyiter hit.typeIs ?_)
 change Na _ _ (setField (.ref it) 1 (NI ((i:Int)+1))>>=_) _ _ s
 show JD (L6 c hd (by simp) ?_)
 let new:(s.heap.update it (Nv.mapFields (·.setIfInBounds 1 (NI ((i:Int)+1))))).IsKeyIter it d (i+1) es.size ep:=
  ⟨_,Kr _ c (Nv.isFreed_of_fields (Nv.data_mapFields hd _)),(Nv.cls_mapFields ..).trans e,by rw[Nv.data_mapFields hd];simp[NI]⟩
 show JD (J_ (JD (wpAny_isOneOf_keyiter (s:={s with heap:=s.heap.update it (Nv.mapFields (·.setIfInBounds 1 (NI ((i:Int)+1))))}) new.typeIs ?_)))
 show JE (JE ⟨_,Z,JE (g _ new (Ng.SameBut.update ..))⟩)
theorem vB(j:A.handled=none)(f:s.heap.get? d>o)(e:o.data=.dict es ep)(h:es.size<=i)
  (k:∀h',L7 it s.heap h'->Q none {s with heap:=h'}):(s.heap.IsKeyIter it d i es.size ep->Na (Nd prog w) A (NG (.ref it)) Q E s)/\(s.heap.IsValIter it d i es.size ep->Na (Nd prog w) A (NG (.ref it)) Q E s):=by
 constructor
 all_goals
  intro c
  let⟨l,g,n,hd⟩:=id c
  first|show JD (KA (KB (name:=Nh.ofString "__next__") c.typeIs F.slot_dict_keyiterator_next (Ka F.slot_dict_keyiterator_next c.typeIs F.entry_dict_keyiterator_next ?_ (F.args_dict_keyiterator_next_1 _))))|show JD (KA (KB (name:=Nh.ofString "__next__") c.typeIs F.slot_dict_valueiterator_next (Ka F.slot_dict_valueiterator_next c.typeIs F.entry_dict_valueiterator_next ?_ (F.args_dict_valueiterator_next_1 _))))
  show JD (JE (JD (JD ?_)))
  first|show JD (MC c.typeIs (JE ?_))|show JD (MD c.typeIs (JE ?_))
  show JD (wpAny_fieldsOf g hd ?_)
  change Na _ _ (if (N7.ref d==N7.none)=true then _ else _) _ _ s
  show JD (JE (JD (Kn f e ?_)))
  rw[N0 (by simp)]
  show JD (JE (JD (K5 f e ?_)))
  rw[N0 (by simp)]
  show JE ?_
  simp only[show¬((i:Int)<0) from by lia,if_false,Kv,LY h]
  show JD ?_
  first|show JD (MC c.typeIs (JE ?_))|show JD (MD c.typeIs (JE ?_))
  change Na _ _ (setField (.ref it) 0 .none>>=_) _ _ s
  show JD (L6 g hd (by simp) ?_)
  show JD ?_
  show JD (m:=firstArgMember _ _) (wpAny_of_eq (a:=N7.none) (by first|rfl|(simp only[firstArgMember];rfl)) (KL ?_ (by size_fits)))
  show JD (wpAny_handled ?_)
  rw[show A.in1.handled=none from j]
  show JD (JE (wpAny_throw ?_))
  show JD (KW (T:= "StopIteration") (b:=true) ⟨_,JT _ Z,Z⟩ isSubtype_stop ?_)
  show JE (k _ (((Ng.SameBut.update ..).extBut.push _).push _))
theorem E7(e:A.handled=none)(hit:s.heap.IsKeyIter it d i es.size ep)(a:s.heap.get? d>o)(b:o.data=.dict es ep)(c:es.size<=i)(f:∀h',L7 it s.heap h'->Q none {s with heap:=h'}):Na (Nd prog w) A (NG (.ref it)) Q E s:=(vB e a b c f).1 hit
end
noncomputable def Iz (d:N8) (o:Nv) (u:HO):It:=
 ⟨λi H=>H d>.frz o u/\i<ko u,λi H x H'=>H'=H/\∃v,j8 H u i x v,λi H=>H d>.frz o u/\ko u<=i⟩
theorem uj {h h':Ng}{it d:N8}{i n ep:Nat}(x:h.IsKeyIter it d i n ep)(k:∀o,h.get? it>o->h'.get? it>o):h'.IsKeyIter it d i n ep:=let ⟨o,ho,r⟩:=x;⟨o,k _ ho,r⟩
theorem xP {P:Ni}{W:Nw}(d it:N8)(o:Nv)(u:HO)(B:ml u)(r:Array ND)(D:Nat)(hd:o.data=.dict r D):
  md P w K W (Iz d o u) [it] it (λi h=>h.IsKeyIter it d i r.size D) where
 mem:=by simp
 obj:=λi h st b hb=>by
  rw[JJ.mp hb]
  let⟨p,e,c,q⟩:=st
  show⟨p,e,λv z=>by rw[q] at z;cases z⟩
 keep:=λi h h' st k=>uj st λp e=>k it (by simp) p e
 item:=by
  intro X S O N C i O8 s σ H E I hf st hg
  let⟨y,hi⟩:=hg
  let⟨_,g,_,l,m,a,U,f⟩:=gC I.hok y B
  rw[hd] at a;cases a
  let j:i<r.size:=by lia
  let⟨x,v,M,L,Y⟩:=f i j
  show Ca st g hd j λh' n sb=>?_
  let T:aH X O8 σ H {s with heap:=h'}:=I.turned (t':=s.toks) hf (λb J hb e=>(sb.2 b hb).trans e)
  let⟨p,e,c,q⟩:=id n
  show⟨_,Z,rG (s:={s with heap:=h'}) e c q (by decide) ⟨x,H,T,L,⟨Z,v,M⟩,n,λb hb=>(hf b hb).1⟩⟩
 done:=by
  intro X S O N C i O8 s σ H E I hf st hg
  let⟨y,hi⟩:=hg
  let⟨_,g,_,l,m,a,U,f⟩:=gC I.hok y B
  rw[hd] at a;cases a
  show E7 (I.ok.hd C) st g hd () λh' R=>⟨Z,I.turned (t':=s.toks) hf (λb J hb e=>R b J hb e)⟩
 self:=λA i s Q E st h=>by
  show L5 st.typeIs F.slot_dict_keyiterator_iter (Ka F.slot_dict_keyiterator_iter st.typeIs F.entry_dict_keyiterator_iter ?_ (F.args_dict_keyiterator_iter_1 _))
  show JE ⟨_,Z, "dict_keyiterator",_,st.typeIs,F.slot_dict_keyiterator_next.lookup,h⟩
def Ha (te:TE):TI:=λσ H R=>te σ H λx H1=>∃d o u,x=.ref d/\H1 d>.frz o u/\ml u/\R (Iz d o u) H1
theorem kK(k:PE X e te):PI X tg e (Ha te):=by
 intro O8 s σ H R I h
 show bS (k O8 s σ H _ I h) λv s1 f=>?_
 let⟨x,H1,I1,r,d,o,u,ex,hd,g,q⟩:=f
 subst ex
 cases(show v=N7.ref d from r)
 let⟨j,c,l,es,ep,a,m,_⟩:=gC I1.hok hd g
 show BH j c l a ?_
 let i:∀b ob,s1.heap.get? b>ob->(s1.heap.push {cls:=.type "dict_keyiterator",data:=.fields #[.ref d,.int 0 0,.int es.size 0,.int ep 0]}).get? b>ob:=λb ob z=>JK _ z
 show⟨~~~s1,[~~~s1],_,_,H1,Z,I1.kept (t':=s1.toks) i,xP d _ o u g es ep a,⟨_,JT _ Z,Z,Z⟩,λb hb=>?_,q⟩
 rw[JJ.mp hb]
 show I1.fpOk (JG _) (I1.hok.fresh (JG _))
section
variable {d it v:N8} {o:Nv} {es:Array ND} {i ep:Nat} {ok ov:N7}
theorem BX(hd:(d==NQ)=false)(b:s.heap.get? d>o)(c:o.ExactDict)
  (h:Q (.ref (~~~s)) {s with heap:=s.heap.push {cls:=.type "dict_items",data:=.fields #[.ref d]}}):Na (Nd prog w) A (call (.builtin "dict.items") [.ref d]) Q E s:=by
 let a:s.TypeIs (.ref d) "dict" :=⟨o,b,c.1⟩
 show Ka F.slot_dict_items a F.entry_dict_items ?_ (F.args_dict_items_1 _)
 unfold Nc.«dict.items» Nc.Dict.noArgs
 show JD (JD (LI a ?_))
 change Na _ _ (pure d) _ _ s
 show JE ?_
 change Na _ _ (Nc.Dict.showsAll d>>=_) _ _ s
 unfold Nc.Dict.showsAll
 rw[N0 (hd<|JR)]
 show JD (JE (JD (KL (JE ⟨_,Z,h⟩))))
theorem CQ(f:s.heap.IsItemsView v d)(g:s.heap.get? d>o)(e:o.data=.dict es ep)
  (h:Q (.ref (~~~s)) {s with heap:=s.heap.push {cls:=.type "dict_itemiterator",data:=.fields #[.none,.bool false,.ref d,.int 0 0,.int es.size 0,.int ep 0,.none,.none]}}):Na (Nd prog w) A (pyIter (.ref v)) Q E s:=by
 let⟨i,b,c,a⟩:=id f
 show L5 f.typeIs F.slot_dict_items_iter (Ka F.slot_dict_items_iter f.typeIs F.entry_dict_items_iter ?_ (F.args_dict_items_iter_1 _))
 unfold Nc.«dict_items.__iter__»
 show JD (JE (JD ?_))
 unfold Nc.Dict_items.dictOf
 show JD (Ke b a (x:=.ref d) Z (JE (JD ?_)))
 unfold Nc.Dict_items.newIterator
 show JD (Kn g e (JD (K5 g e ?_)))
 simp only[show Nc.Dict_items.ownsTuple "dict_itemiterator" =true by decide,if_true]
 show KL (JE ⟨_,Z, "dict_itemiterator",_,⟨_,JT _ Z,Z⟩,F.slot_dict_itemiterator_next.lookup,?_⟩)
  (by simp only[sizeOk,Nc.Dict_items.ownedTupleFields,J8,JQ,J9,Ln,NO];lia)
 simpa[NI,Nc.Dict_items.ownedTupleFields] using h
theorem Dx(hit:NX s.heap it d i es.size ep ok ov)(k:s.heap.get? d>o)(h:o.data=.dict es ep)(L:i<es.size)
  (J:∀h',IsItemIterOut h' it d (i+1) es.size ep es[i].key es[i].val (~~~s)->h'.get? (~~~s)=some {cls:=.type "tuple",data:=.seq #[es[i].key,es[i].val]}->h'.objs.size= ~~~s+1->
   (∀b u,b≠it->s.heap.get? b>u->h'.get? b>u)->Q (some (.ref (~~~s))) {s with heap:=h'}):Na (Nd prog w) A (NG (.ref it)) Q E s:=by
 let⟨hp,g,j,tk,os⟩:=s
 let f:N_.TypeIs ⟨hp,g,j,tk,os⟩ (.ref it) "dict_itemiterator" :=⟨_,hit,Z⟩
 unfold NG
 show JD (KA (KB (name:=Nh.ofString "__next__") f F.slot_dict_itemiterator_next
  (Ka F.slot_dict_itemiterator_next f F.entry_dict_itemiterator_next ?_ (F.args_dict_itemiterator_next_1 _))))
 show JD (JE (JD (JD ?_)))
 first|show JD (ME f (JE ?_))|show JD (MF f (JE ?_))
 show JD (wpAny_fieldsOf hit Z ?_)
 simp only[show Nc.Dict_items.ownsTuple "dict_itemiterator" =true by decide,if_true]
 change Na _ _ (if (N7.ref d==N7.none)=true then _ else _) _ _ _
 rw[N0 (show¬((N7.ref d==N7.none)=true) from JR)]
 show JD (JE (JD (Kn k h ?_)))
 rw[N0 (by simp)]
 show JD (JE (JD (K5 k h ?_)))
 rw[N0 (by simp)]
 show JE ?_
 simp only[show¬((i:Int)<0) from by lia,if_false,Kv,KM L]
 show JD ?_
 first|show JD (ME f (JE ?_))|show JD (MF f (JE ?_))
 show JD (wpAny_isOneOf_itemiter f ?_)
 change Na _ _ (setField (.ref it) 3 (NI ((i:Int)+1))>>=_) _ _ ⟨hp,g,j,tk,os⟩
 show JD (KY hit (by simp) λh1 l s1=>?_)
 replace s1:Ng.SameBut it hp h1:=s1
 replace l:NX h1 it d (i+1) es.size ep ok ov:=by
  let e:((i+1:Nat):Int)=(i:Int)+1:=by lia
  unfold NX;rw[e];simpa[NI] using l
 let c:N_.TypeIs ⟨h1,g,j,tk,os⟩ (.ref it) "dict_itemiterator" :=⟨_,l,Z⟩
 show JD (J_ (JD (wpAny_isOneOf_itemiter c (JD (wpAny_isOneOf_itemiter c ?_)))))
 change Na _ _ (Nc.Dict_items.pairFromOwner (.ref it) 6 es[i].key es[i].val) _ _ ⟨h1,g,j,tk,os⟩
 unfold Nc.Dict_items.pairFromOwner
 show JD (wpAny_newTuple ?_)
 let v:h1.objs.size=hp.objs.size:=s1.1
 let hil:it<hp.objs.size:=JN hit
 obtain⟨h2,a⟩:∃h2,h1.push {cls:=.type "tuple",data:=.seq #[es[i].key,es[i].val]}=h2:=⟨_,Z⟩
 let r:NX h2 it d (i+1) es.size ep ok ov:=by rw[<-a];show JK _ l
 let H:h2.get? hp.objs.size=some {cls:=.type "tuple",data:=.seq #[es[i].key,es[i].val]}:=by rw[<-a,<-v];show JT _ Z
 let K:h2.objs.size=hp.objs.size+1:=by rw[<-a,Kq,v]
 let I:∀b u,b≠it->hp.get? b>u->h2.get? b>u:=λb u hb e=>by rw[<-a];show JK _ (s1.extBut b u hb e)
 rw[a,v]
 change Na _ _ (Nc.Dict_items.ownedTupleIsFree (.ref it)>>=_) _ _ ⟨h2,g,j,tk,os⟩
 clear a l s1 c v h1
 show JD ?_
 unfold Nc.Dict_items.ownedTupleIsFree
 show JD (Ke r Z (x:=.none) Z (JE ?_))
 simp only[if_true]
 show JD (Ke r Z (x:=ok) Z (JD (Ke r Z (x:=ov) Z ?_)))
 show JD (KY r (by simp) λh3 z m=>?_)
 replace m:Ng.SameBut it h2 h3:=m
 replace z:NX h3 it d (i+1) es.size ep es[i].key ov:=z
 show JD (KY z (by simp) λh4 B p=>?_)
 replace p:Ng.SameBut it h3 h4:=p
 replace B:NX h4 it d (i+1) es.size ep es[i].key es[i].val:=B
 show JD (KY B (by simp) λh5 y q=>?_)
 replace q:Ng.SameBut it h4 h5:=q
 replace y:IsItemIterOut h5 it d (i+1) es.size ep es[i].key es[i].val hp.objs.size:=y
 show JD (KY y (by simp) λh6 C n=>?_)
 replace n:Ng.SameBut it h5 h6:=n
 replace C:IsItemIterOut h6 it d (i+1) es.size ep es[i].key es[i].val hp.objs.size:=C
 let D:∀b u,b≠it->h2.get? b>u->h6.get? b>u:=λb u hb e=>n.extBut b u hb (q.extBut b u hb (p.extBut b u hb (m.extBut b u hb e)))
 show JD (Lb (JE (JE ⟨_,Z,JE (J h6 C (D _ _ (Kx hil) H) ?_ λb u hb e=>D b u hb (I b u hb e))⟩)))
 change h6.objs.size=hp.objs.size+1
 rw[n.1,q.1,p.1,m.1,K]
theorem EN(h:A.handled=none)(hit:NX s.heap it d i es.size ep ok ov)(e:s.heap.get? d>o)(f:o.data=.dict es ep)(g:es.size<=i)
  (j:∀h',L7 it s.heap h'->Q none {s with heap:=h'}):Na (Nd prog w) A (NG (.ref it)) Q E s:=by
 let c:s.TypeIs (.ref it) "dict_itemiterator" :=⟨_,hit,Z⟩
 unfold NG
 show JD (KA (KB (name:=Nh.ofString "__next__") c F.slot_dict_itemiterator_next
  (Ka F.slot_dict_itemiterator_next c F.entry_dict_itemiterator_next ?_ (F.args_dict_itemiterator_next_1 _))))
 show JD (JE (JD (JD ?_)))
 first|show JD (ME c (JE ?_))|show JD (MF c (JE ?_))
 show JD (wpAny_fieldsOf hit Z ?_)
 simp only[show Nc.Dict_items.ownsTuple "dict_itemiterator" =true by decide,if_true]
 change Na _ _ (if (N7.ref d==N7.none)=true then _ else _) _ _ s
 rw[N0 (show¬((N7.ref d==N7.none)=true) from JR)]
 show JD (JE (JD (Kn e f ?_)))
 rw[N0 (by simp)]
 show JD (JE (JD (K5 e f ?_)))
 rw[N0 (by simp)]
 show JE ?_
 simp only[show¬((i:Int)<0) from by lia,if_false,Kv,LY g]
 show JD ?_
 first|show JD (ME c (JE ?_))|show JD (MF c (JE ?_))
 change Na _ _ (setField (.ref it) 2 .none>>=_) _ _ s
 show JD (L6 hit Z (by simp) ?_)
 change Na _ _ (newExc (.type "StopIteration") []>>=_) _ _ _
 show JD ?_
 simp only[newExc,newTuple]
 show JD (KL ?_ (by size_fits))
 show JD (m:=firstArgMember _ _) (wpAny_of_eq (a:=N7.none) (by first|rfl|(simp only[firstArgMember];rfl)) (KL ?_ (by size_fits)))
 simp only[raiseNew]
 show JD (wpAny_handled ?_)
 rw[show A.in1.handled=none from h]
 show JD (JE (wpAny_throw ?_))
 show JD (KW (T:= "StopIteration") (b:=true) ⟨_,JT _ Z,Z⟩ isSubtype_stop ?_)
 show JE (j _ (((Ng.SameBut.update ..).extBut.push _).push _))
end
theorem lU:entryFor table "dict_itemiterator.__iter__" >Nc.«dict_keyiterator.__iter__»:=
 entryFor_alias (id':= "dict_keyiterator.__iter__") (by kernel_rfl) (by first|rfl|decide+kernel|(unfold String.splitOn;simp+decide [String.splitOnAux])) (by decide+kernel) (by kernel_rfl)
noncomputable def Iy (d:N8) (o:Nv) (u:HO):It:=
 ⟨λi H=>H d>.frz o u/\i<ko u,λi H x H'=>∃p y v,H p=none/\x=.ref p/\H'=Ob H p (.tup [y,v])/\j8 H u i y v,λi H=>H d>.frz o u/\ko u<=i⟩
theorem sM {P:Ni}{B:-Nw}{x1:Nat}{C:O1}(d it:N8)(o:Nv)(u:HO)(S:ml u)(y:Array ND)(W:Nat)(hd:o.data=.dict y W):
  md P w K (.Tuple B x1 C) (Iy d o u) [it] it (λi h=>∃ok ov,NX h it d i y.size W ok ov) where
 mem:=by simp
 obj:=λi h st b hb=>by
  rw[JJ.mp hb]
  let⟨ok,ov,e⟩:=st
  show⟨_,e,λv z=>by
   let z':Data.fields _=Data.cell v:=z
   cases z'⟩
 keep:=λi h h' ⟨ok,ov,e⟩ k=>⟨ok,ov,k it (by simp) _ e⟩
 item:=by
  intro X M J D U i O8 s σ H E I hf st hg
  subst M J D
  let⟨R,hi⟩:=hg
  let⟨ok,ov,r⟩:=st
  let⟨_,f,_,m,n,a,hz,c⟩:=gC I.hok R S
  rw[hd] at a;cases a
  let l:i<y.size:=by lia
  let⟨x,v,Z0,Y,r2⟩:=c i l
  let j:it<~~~s:=JN r
  let T:s.heap.get? (~~~s)=none:=K2 (JG _)
  show Dx r f hd l λh' ho ht ad L=>⟨_,Z,?_⟩
  show wpAny_letOwnedTupleGo_items (s:={s with heap:=h'}) ho λh2 O sb=>?_
  replace sb:Ng.SameBut it h' h2:=sb
  let p:h2.get? (~~~s)=some {cls:=.type "tuple",data:=.seq #[y[i].key,y[i].val]}:=(sb.2 _ (Kx j)).trans ht
  show⟨.ref (~~~s),Ob H (~~~s) (.tup [x,v]),aH.turnedLaid (s:=s) (h':=h2) (fp:=[it]) (t':=s.toks) I hf (λb q hb e=>?_) T ?_,Z,⟨_,x,v,I.hok.none_of T,Z,Z,Z0⟩,⟨_,_,O⟩,λb hb=>?_⟩
  ·let g:b≠it:=λz=>hb (by simp[z])
   show(sb.2 b g).trans (L b q g e)
  ·show⟨by change 2<=N9;decide,_,.cons Y (.cons r2 .nil),_,p,Z,_,Z⟩
  ·rw[JJ.mp hb,aj (JP j)];show(hf it (by simp)).1
 done:=by
  intro X M J D U i O8 s σ H E I hf st hg
  subst M J D
  let⟨R,hi⟩:=hg
  let⟨ok,ov,r⟩:=st
  let⟨_,f,_,m,n,a,hz,c⟩:=gC I.hok R S
  rw[hd] at a;cases a
  show EN (I.ok.hd U) r f hd () λh' eb=>⟨Z,I.turned (t':=s.toks) hf (λb ob hb e=>eb b ob hb e)⟩
 self:=λA i s Q E ⟨ok,ov,r⟩ h=>by
  let N:s.TypeIs (.ref it) "dict_itemiterator" :=⟨_,r,Z⟩
  show L5 N F.slot_dict_itemiterator_iter (Ka F.slot_dict_itemiterator_iter N lU ?_ (F.args_dict_itemiterator_iter_1 _))
  change Na _ _ (ret (.ref it)) _ _ s
  show JE ⟨_,Z, "dict_itemiterator",_,N,F.slot_dict_itemiterator_next.lookup,h⟩
def EI (te:TE):TI:=λσ H R=>te σ H λx H1=>∃d o u,x=.ref d/\H1 d>.frz o u/\ml u/\R (Iy d o u) H1
theorem qZ(y:PE X e te)
  (i:NU e "items" X.env (eval e X.env)=eval e X.env:=by rfl) (g:(apos.endLine==cpos.line)=true:=by rfl):
  PI X (.Tuple elts x1 pt) (.Call (.Attribute e "items" apos) [] [] cpos) (EI te):=by
 intro O8 s σ H R I h
 show wpAny_Call_method0_late i g (bS (y O8 s σ H _ I h) λv s1 k=>?_)
 let⟨x,H1,I1,r,d,o,u,ex,hd,n,q⟩:=k
 subst ex
 cases(show v=N7.ref d from r)
 let⟨p,c,j,es,ep,f,A,_⟩:=gC I1.hok hd n
 show⟨"dict", "dict.items",F.plainAttrs_dict,F.slot_dict_items,F.type_dict_items,⟨o,c,j.1⟩,λa w=>by cases w;show⟨o,c,j.2.1⟩,Calls.callWith_builtin Z (PySem.evalArgs_none ?_)⟩
 show BX p c j ?_
 let m:∀b ob,s1.heap.get? b>ob->(s1.heap.push {cls:=.type "dict_items",data:=.fields #[.ref d]}).get? b>ob:=λb ob z=>JK _ z
 show CQ (s:={s1 with heap:=s1.heap.push {cls:=.type "dict_items",data:=.fields #[.ref d]}}) ⟨_,JT _ Z,Z,Z⟩ (m _ _ c) f ?_
 let l:=I1.kept (t':=s1.toks) m
 show⟨_,[(s1.heap.push {cls:=.type "dict_items",data:=.fields #[.ref d]}).objs.size],_,_,H1,Z,l.kept (t':=s1.toks) (λb ob z=>JK _ z),sM d _ o u n es ep f,⟨_,_,JT _ Z⟩,λb hb=>?_,q⟩
 rw[JJ.mp hb]
 show l.fpOk (JG _) (l.hok.fresh (JG _))
theorem jd {d:N8}{o:Nv}{u:HO}{S:SV}{F:St->Hp->Prop}(a:Nat->St->Hp->Prop)(h0:a 0 σ H)(b:∀i σ H,i<=ko u->a i σ H->H d>.frz o u)(c:∀i x v σ H,j8 H u i x v->i<ko u->a i σ H->S (a (i+1)) x σ H)(hd:∀σ H,a (ko u) σ H->F σ H):xZ (Iz d o u) σ H S F:=by
 show gp (ko u) a h0 (λi σ H hi p=>⟨⟨b i σ H (Kh hi) p,hi⟩,?_⟩) λσ H p=>⟨⟨b _ σ H (JG _) p,JG _⟩,hd σ H p⟩
 rintro x _ ⟨rfl,v,k⟩
 show c i x v σ _ k hi p
theorem nR {d:N8}{o:Nv}{u:HO}{S:SV}{F:St->Hp->Prop}(a:Nat->St->Hp->Prop)(h0:a 0 σ H)(b:∀i σ H,i<=ko u->a i σ H->H d>.frz o u)(c:∀i x v p σ H,j8 H u i x v->i<ko u->H p=none->a i σ H->S (a (i+1)) (.ref p) σ (Ob H p (.tup [x,v])))(hd:∀σ H,a (ko u) σ H->F σ H):xZ (Iy d o u) σ H S F:=by
 show gp (ko u) a h0 (λi σ H hi p=>⟨⟨b i σ H (Kh hi) p,hi⟩,?_⟩) λσ H p=>⟨⟨b _ σ H (JG _) p,JG _⟩,hd σ H p⟩
 rintro _ _ ⟨e,z,v,f,rfl,rfl,k⟩
 show c i z v e σ _ k hi f p
theorem xf (l:X.calm=true):cy X (.builtin "min") (λxs H Q=>∃(p:N8) (ns:-Int),xs=[.ref p]/\aN X.K H p (ns.map V.int)/\0<ns.length/\∀M:Int,M∈ns->(∀a∈ns,M<=a)->Q (.int M) H):=by
 intro O8 s σ H xs y Q I r h
 let⟨p,ns,rfl,hp,d,q⟩:=h
 let⟨u,rfl,o⟩:=dO r
 cases o
 let⟨c,x,w,z⟩:=I.list hp
 let hi:O6 c ns:=by simpa using gm x
 let⟨zs,e⟩:=hi.allInts.items
 let b:ns=zs.toList.map (·.1):=by rw[<-hi.numsOf,<-nums_intItems,<-e]
 let f:0<zs.size:=by
  let i:=d;rw[b,JF,Ko] at i;show i
 let g:=w.isList
 rw[e] at g
 show min_intList (I.ok.hd l) g f λv h' tk n k=>?_
 let⟨t,rfl⟩:=intItems_at n
 let⟨h1,h2⟩:=argBest_lt (numAt zs) (zs.size - 1)
 show⟨.int _,H,I.kept k,⟨t,Z⟩,q _ ?_ λa ha=>?_⟩
 ·rw[b,numAt_eq];show getD_mem (by rw[JF,Ko];omega)
 ·rw[b] at ha
  let⟨j,m,rfl⟩:=mem_getD ha
  rw[JF,Ko] at m
  rw[<-numAt_eq];show h2 j (by omega)
section
variable {d:N8} {o:Nv} {es:Array ND} {ep:Nat}
theorem BA(hd:(d==NQ)=false)(c:s.heap.get? d>o)(f:o.ExactDict)(b:o.data=.dict es ep)(hz:es.size<=N9)
  (h:Q (.int es.size (s.toks+1)) {s with toks:=s.toks+1+1}):Na (Nd prog w) A (call (.builtin "len") [.ref d]) Q E s:=by
 let e:s.TypeIs (.ref d) "dict" :=⟨o,c,f.1⟩
 let a:N9=2^24:=rfl
 show PyProof.Rows.call_len_slot (n:=es.size) e F.slot_dict_len (λQ' hq=>Ka F.slot_dict_len e F.entry_dict_len ?_ (F.args_dict_len_1 _)) () () h
 change Na _ _ (dictSize d>>=_) _ _ s
 unfold dictSize
 show JD (JD (Kn c b (JE ?_)))
 change Na _ _ (Nc.Dict.pendingCount d>>=_) _ _ s
 show JD (wpAny_pendingCount_other hd (wpAny_ret_mkInt ?_))
 simpa using hq
end
theorem iD:cy X (.builtin "len") (λxs H Q=>∃a d,xs=[V.ref a]/\Rd H a (.dT d)/\Q (.int ↑d) H):=by
 intro O8 s σ H xs l Q I r h
 let⟨a,d,rfl,ha,q⟩:=h
 let⟨u,rfl,g⟩:=dO r
 cases g
 let⟨z,hd,xs,c,o,es,ep,e,k,b,j,_⟩:=gI I.hok ha
 let i:=size_of_entries j
 let f:=Nb.length c
 show BA hd e k b () ⟨.int ↑d,H,I.tok _,⟨s.toks+1,?_⟩,q⟩
 rw[i,f]
def BG (a:-(-cP×V)):Prop:=∀p∈a,∃ns:-Int,p.1=ns.map Sum.inl
theorem w_(h:ItemsAre (aX P w) ks us):ItemsAre (aX P' w') ks us:=by
 induction h with
 |nil=>show .nil
 |cons a _ ih=>show .cons a ih
theorem As{ns:-Int}:Np (aX P w) (ns.map Sum.inl)=Np (aX P' w') (ns.map Sum.inl):=by
 unfold Np
 let e:∀(P:Ni) (w:Nr),(ns.map (Sum.inl:Int->cP)).map (aX P w).hash=ns.map hashInt:=λP w=>by rw[Ki];rfl
 rw[e,e]
theorem m9 {P P':Ni}{w':Nr}{h:Ng}{a:N8}{xs:-(-cP×N8×N7)}(d:h.DictOfH (Nm (aX P w)) a xs)(q:∀x∈xs,∃ns:-Int,x.1=ns.map Sum.inl):h.DictOfH (Nm (aX P' w')) a xs:=by
 let⟨o,es,ep,h1,h2,m,g,l,j⟩:=d
 show⟨o,es,ep,h1,h2,m,?_,λx c=>?_,j⟩
 ·rw[g]
  show La λx c=>?_
  let⟨ns,e⟩:=q x c
  change(⟨Np (aX P w) x.1,_,_⟩:ND)=⟨Np (aX P' w') x.1,_,_⟩
  rw[e,As (P':=P') (w':=w')]
 ·let⟨o',b,n,k,p,i,f⟩:=l x c
  show⟨o',b,n,k,p,i,w_ f⟩
def Ji (K:JI) (H:Hp) (v d:V):Prop:=∃a b c kb,v=.ref a/\d=.ref b/\a≠b/\Rd H a (.dT c)/\Rd H b (.dT kb)/\BG c/\BG kb/\↑c=kb.length/\∀p∈c,∃v,aE kb p.1>v/\Hk K H p.2 v
theorem C0(I:aH X O8 σ H s)(h:Ji X.K H v v')(r:a8 v u)(y:a8 v' u')(J:A.units+62<NE):SeqAt.EqAt A s u u' true:=by
 let⟨a,b,L,kb,rfl,rfl,o,ha,hb,D,C,k,m⟩:=h
 cases(show u=N7.ref a from r)
 cases(show u'=N7.ref b from y)
 let⟨_,F,M,d,n⟩:=gI I.hok ha
 let⟨_,j,vb,f,B⟩:=gI I.hok hb
 let g:∀{ks:-(-cP×V)} {vs:-(-cP×N8×N7)},KT H ks vs->BG ks->∀x∈vs,∃ns:-Int,x.1=ns.map Sum.inl:=λc i x l=>by
  let⟨p,hp,e,_⟩:=rM c x l
  let⟨ns,z⟩:=i p hp
  show⟨ns,by rw[<-e,z]⟩
 show SeqAt.EqAt.of_refs o λprog w E Q q=>?_
 show EK (prog:=prog) (w:=w) (knd:=Nm (aX prog w)) (NA ()) () F j (m9 n (g d D)) (m9 B (g f C)) (by rw[<-Nb.length d,<-Nb.length f,k])
  (EH I d f (show A.units+1+60<NE by lia) m) q
noncomputable def I_ (a:Array (Int×N7)) (i:Nat):Int:=(a[i]?.map (·.1)).getD 0
theorem AX{Q:Bool->N_->Prop}(a:s.heap.get? b>o)(f:o.cls=.type "tuple")(hd:o.data=.seq items n)(g:∀v∈items,∃i t,v=N7.int i t)(h:Q true s):
  Na (Nd prog w) A (hashByValue 8 (.ref b)) Q E s:=by
 let j:s.TypeIs (.ref b) "tuple" :=⟨o,a,f⟩
 show JD (LB j F.slot_tuple_hash.lookup ?_)
 show JD ?_
 show JD (wpAny_load a ?_)
 rw[hd]
 show JE (JD ?_)
 rw[<-Mz]
 show wpAny_forIn_list _ (λrest q s'=>s'=s/\q=(none,Unit.unit)/\∀v∈rest,∃i t,v=N7.int i t) _ ?_ ?_ _ _ ⟨Z,Z,λv d=>g v (Li.mp d)⟩
 ·rintro v rest q s' ⟨rfl,rfl,hr⟩
  let⟨i,t,rfl⟩:=hr v JZ
  let e:hashByValue 7 (.int i t)=pure true:=by simp[hashByValue]
  show JD (JE (by
   show JE ⟨Z,Z,λx c=>hr x (J0 _ c)⟩))
 ·rintro q s' ⟨rfl,rfl,_⟩
  show JE h
section
variable {R:Result->N_->Prop} {I:N8} {fp wr:-N8} {G:Array NT->Array NT->Prop} {n:Nat} {P:Nat->N7->Prop} {St:Nat->N_->Prop}
def pH (h:Ng) (k:-Int) (b:N8):Prop:=∃o a c,h.get? b>o/\o.cls=.type "tuple" /\o.data=.seq a c/\O6 a.toList k
end
abbrev pK (led:Bool):Nv:={cls:=.type "set",dict:=none,data:=.set #[] 0 (.fresh 0 0 led)}
noncomputable def dY (k:-Int):Int:=reduceHash (Nc.Tuple.tupleHashOf (k.map hashInt))
theorem Ds(t:pH h k b):(Nm (NV prog w)).is h k b:=by
 let⟨o,a,c,h1,h2,d,e⟩:=t
 show⟨o,a,c,h1,h2,d,?_⟩
 let all:∀{us:-N7} {ns:-Int},O6 us ns->PySem.ItemsAre (NV prog w) ns us:=by
  intro us ns z
  induction z with
  |nil=>show .nil
  |cons n t _ ih=>show .cons (intKind_is _ _ _ _) ih
 show all e
noncomputable def HZ (a:N8) (n:Nat):HO:=.ext λh=>∃o es ep t,h.get? a>o/\o.ExactSet/\o.data=.set es ep t/\Nq.fits t es.size=true/\es.size=n
theorem yp(ok:gO P w H h)(e:H b>.tup (c.map V.int)):pH h c b:=by
 let⟨_,a,g,o,d,f,n,hd⟩:=ok b _ e
 show⟨o,a.toArray,n,d,f,hd,by simpa using gm g⟩
theorem ug:cy X (.builtin "len") (λxs H Q=>∃a n,xs=[V.ref a]/\H a>HZ a n/\n<1000/\Q (.int n) H):=by
 intro O8 s σ H xs f Q I r h
 let⟨a,n,rfl,ha,g,q⟩:=h
 let⟨u,rfl,d⟩:=dO r
 cases d
 let⟨⟨o,es,ep,t,h1,h2,e,b,c⟩,_⟩:=I.hok a _ ha
 subst c
 show call_len_set h1 h2 e b () ⟨.int es.size,H,I.tok _,⟨_,Z⟩,q⟩
structure Iu (K:JI) (C:N8) (m:Nh) (f:N8):Prop where
 ex:∃mc,PySem.W.readsIn K C mc=true/\PySem.W.findCls K (.ref C) mc m>.val (.ref f)
 hh:PySem.W.handedIn (.ref f)=true
 hg:PySem.W.specialIn K (.ref C) "__getattribute__" >some (.builtin "type.__getattribute__")
 kp:Ky K (.ref f)=true
structure jG (P:Ni) (w:Nr) (K:JI) (mg:Nh->Option N7) (O_:Ng) (C:N8) (m:Nh) (k:Nat) (ps:-Nh) (sp:Sp):Prop where
 ex:∃f fd,eL P w K mg O_ jH k f fd ps sp/\Iu K C m f/\cA K fd ps []
section
variable {C:N8} {k:Nat} {ps:-Nh} {sp:Sp} {m:Nh} {pos apos:O1} {e o:Nw} {es:-Nw} {t:TA}
theorem BF {pl:Sem Bool}(p:PE X o (tC (.ref C)))(G:jG X.prog X.w X.K X.mg X.O_ C m k ps sp)(g:aT k X.A)(i:PA X (e::es) t)
  (b:Nf (e::es) X.env=(false,eval e X.env)::Nf es X.env:=by rfl) (c:(NF pos (Nf es X.env)).any (·.1)=false:=by rfl)
  (ht:eval (.Call (.Attribute o m apos) (e::es) [] pos) X.env=(do
   let ov<-eval o X.env
   standAt apos.atName
   let (f,first)<-holding [ov] (getMethod ov m pl)
   callWith pos f first (NF pos (Nf (e::es) X.env)) (backToKw pos (keywordEach [] X.env))):=by rfl):
  PE X (.Call (.Attribute o m apos) (e::es) [] pos) (fS sp [] E0 t):=by
 let⟨f,fd,F,hm,hb⟩:=G.ex
 let⟨z,h1,h2⟩:=hm.ex
 intro O8 s σ H Q I h
 show PySem.W.methodCall_KW (pl:=pl) (bS (p O8 s σ H (λv H1=>v=.ref C/\H1=H) I ⟨Z,Z⟩) λu s1 a=>?_) ht
 let⟨x,H1,I1,l,ex,j⟩:=a
 subst ex j
 cases(show u=N7.ref C from l)
 show PySem.W.method_cls I1.kIn hm.hg (PySem.W.cls_value I1.kIn h1 h2 hm.hh ?_)
 let n:=I1.tok (s1.toks+1)
 show Mu (first:=[]) (h₀:=X.O_) I.ok.mod.kin hm.kp (bS (i pos O8 _ σ _ _ n h) λy q a=>?_) b c
 let⟨vs,H2,I3,r,d⟩:=a
 show⟨I3.kIn,?_⟩
 show pW F g hb .nil lG I3 r d
end
structure z_ (K:JI) (x qual:Nh) (st:Nn) (f:N8) (fd:NM):Prop where
 ex:∃(oc:N7) (od:Option N8) (dV kV doc pm:N7) (an:Option N8) (cdv ct:N7) (osl:Array (Option N7)),
  fd=Kf x qual (bX st) (bK st) (aM st) dV kV doc pm an cdv ct/\K.lookup f>⟨oc,od,.func fd,osl⟩/\KR K cdv qual=true
section
variable {P:Ni}
theorem z_.ok {x qual:Nh}{st:Nn}{f:N8}{j:NM}{N ps:-Nh}{k:Nat}{sp:Sp}(F:z_ K x qual st f j)(S:eF N ps (aM st))(len:∀vs H Q E,sp vs H Q E->↑vs=↑ps)
  (g:∀(e:N7) (A:Nu) (d:-O0) (s:N_) (H:Hp) (vs:-V) (Q:VK) (E:XK),aT k (A.deeper (envOfC qual (aM st) (~~~s) f e))->sp vs H Q E->
   ∃t,qN (mq jH P w K mg O_ N qual (aM st) f e A d s H E).nox (bK st) t/\t {nx:=λ_ H'=>Q .non H',rt:=Q} (start N vs) H):eL P w K mg O_ jH (k+1) f j ps sp:=by
 let⟨u,r,o,kV,c,n,m,e,p,b,rfl,l,a⟩:=F.ex
 show DH l a S len λA d s H vs Q E hr i=>?_
 let⟨t,h,q⟩:=g e A d s H vs Q E hr i
 show⟨t,h.nox,q⟩
theorem vF{st:Nn}{a:Array (Option N7)}{kV:N7}(l:K.lookup f>⟨oc,od,.func (Kf x qual (bX st) (bK st) (aM st) dV kV doc pm an cdv ct),a⟩)
  (c:KR K cdv qual=true):z_ K x qual st f (Kf x qual (bX st) (bK st) (aM st) dV kV doc pm an cdv ct):=⟨⟨oc,od,dV,kV,doc,pm,an,cdv,ct,a,Z,l,c⟩⟩
theorem E5{e:Array (Option N7)}(hd:fd.defaults=.ref T)(c:K.lookup T>⟨oc,od,.seq items n,e⟩)
  (h:∀a:-N7,↑a=↑ps->∃k,bindArgs fd ⟨a,[]⟩=(seqItems? fd.defaults>>=k)/\k (some items)=pure (ps.zip a)):cA K fd ps []:=λs a d b=>by
 rw[J6] at b|-
 let⟨k,h1,h2⟩:=h a b
 show PySem.W.binds_K d hd c Z h1 h2
end
theorem lx:isSubtype (.type "AttributeError") (.type "AttributeError")=pure true:=by rw[isSubtype_type];kernel_rfl
section
variable {h:Ng} {g:Array NT} {d:Drawn} {t:Nat} {os:OsState} {a:N8}
abbrev HN (T:N8):Nv:={cls:=.type "AttributeError",data:=.fields #[.ref T,.none,.none,.none,.bool false,.none,unsetMember,unsetMember]}
theorem wx{nm:N7}{Q:Unit->N_->Prop}(hx:h.get? e>HN T)
  (c:∀h',Ng.SameBut e h h'->N_.TypeIs ⟨h',g,d,t,os⟩ (.ref e) "AttributeError" ->Q Unit.unit ⟨h',g,d,t,os⟩):Na (Nd prog w) A (noteAttr (.ref e) (.ref a) nm) Q E ⟨h,g,d,t,os⟩:=by
 let b:(⟨h,g,d,t,os⟩:N_).TypeIs (.ref e) "AttributeError" :=⟨_,hx,Z⟩
 show JD (JD (KW b lx ?_))
 show JD (wpAny_load hx ?_)
 dsimp only
 show JE ?_
 show JD (Lp (JD (LX b ?_)))
 show JD (wpAny_load hx ?_)
 show wpAny_update hx ?_
 show c _ (Ng.SameBut.update ..) ⟨_,Kr _ hx (by rfl),by rfl⟩
theorem tx {l:Type}{Q:l->N_->Prop}(n:A.handled=none)(k:↑msg<=N9)
  (j:∀e h' tk,(∀b u,h.get? b>u->h'.get? b>u)->N_.TypeIs ⟨h',g,d,tk,os⟩ (.ref e) "AttributeError" ->E (.ref e) ⟨h',g,d,tk,os⟩):
  Na (Nd prog w) A (raiseAttrError (.ref a) name msg) Q E ⟨h,g,d,t,os⟩:=by
 show JD (wpAny_mkStr (hx:=k) ?_)
 show JD ?_
 show JD (m:=firstArgMember _ _) (wpAny_of_eq (a:=N7.none) (by first|rfl|(simp only[firstArgMember];rfl)) ?_)
 show KL ?_ (by first|size_fits|decide)
 show JD (wpAny_mkText (JD ?_))
 let f:h.objs.size<(h.push {cls:=.type "tuple",data:=.seq #[N7.str msg t]}).objs.size:=Kq<|Lz _
 let c:∀b u,h.get? b>u->(h.push {cls:=.type "tuple",data:=.seq #[N7.str msg t]}).get? b>u:=λb u z=>JK _ z
 revert f c
 intro f c
 show wx (JT _ Z) λh' sb o=>?_
 show JD (wpAny_handled ?_)
 rw[n]
 show JD (JE (wpAny_throw ?_))
 show j _ h' _ (λb u z=>by
  let i:=c b u z
  rw[sb.2 b (JP (JN i))]
  show JK _ i) o
theorem DD{Q:Fin->N_->Prop}(f:A.handled=none)(hx:h.get? a=some {cls:=.type "list",data:=.seq items n})
  (c:∀e h' tk,(∀b u,h.get? b>u->h'.get? b>u)->N_.TypeIs ⟨h',g,d,tk,os⟩ (.ref e) "AttributeError" ->E' (.ref e) ⟨h',g,d,tk,os⟩):
  Na (Nd prog w) A (Nc.«object.__getattribute__» ⟨[.ref a,.str "keys" tk],[]⟩) Q E' ⟨h,g,d,t,os⟩:=by
 let j:(⟨h,g,d,t,os⟩:N_).TypeIs (.ref a) "list" :=⟨_,hx,Z⟩
 let i:NW (.type "list") "keys" =pure none:=by rw[NL,NC];kernel_rfl
 repeat (any_goals (first|assumption|wp_step))
 show tx f (by decide+kernel) c
theorem Cj(j:A.handled=none)(hx:h.get? a=some {cls:=.type "list",data:=.seq items n})
  (k:∀h' tk,(∀b u,h.get? b>u->h'.get? b>u)->Q none ⟨h',g,d,tk,os⟩):Na (Nd prog w) A (getAttr? (.ref a) "keys") Q E ⟨h,g,d,t,os⟩:=by
 let c:(⟨h,g,d,t+1,os⟩:N_).TypeIs (.ref a) "list" :=⟨_,hx,Z⟩
 let i:=F.slot_list_getattribute.lookup
 let l:=F.slot_list_getattribute.bind (.ref a)
 let m:NW (.type "list") "__getattr__" =pure none:=by rw[NL,NC];kernel_rfl
 show JD (wpAny_mkText (JD (KA ?_)))
 show J_ (JD (LX c ?_))
 rw[i]
 show JD (JE ?_)
 dsimp only
 unfold getAttrByItsOwn hookBefore
 show JD (JE (JD (KA (J_ ?_))))
 unfold callGetattribute
 unfold boundAndCalled
 show wpAny_call (codeAny_call_builtin F.slot_list_getattribute.plain F.entry_list_ga (F.slot_list_getattribute.check _ _ _ _ _ _ _ _ c (F.args_list_getattribute_2 _ _) (DD (show A.in1.handled=none from j) hx λe h' tk keep f=>?_)))
 unfold getattributeRaised hookBehind
 show JD (KW f lx ?_)
 change Na _ _ (attributeErrorLeaves (.ref a) (.str "keys" t) (.ref e) false false) _ _ _
 unfold attributeErrorLeaves
 show JD (wpAny_throw (JD (KW f lx ?_)))
 show JE (k _ _ keep)
end
theorem oG:entryFor table "dict.update.loop" >Nc.«dict.update.loop»:=entryFor_of_tree (by kernel_rfl)
theorem nJ:plainId "dict.update.loop" =true:=by decide+kernel
def vP (h:Ng) (p:N8) (k v:N7):Prop:=∃o c,h.get? p>o/\o.cls=.type "tuple" /\o.data=.seq #[k,v] c
abbrev zM (h:Ng) (p k:N8) (v:N7):Prop:=vP h p (.ref k) v
section
variable {R:Result->N_->Prop} {I:N8} {fp wr:-N8} {G:Array NT->Array NT->Prop} {n:Nat} {P:Nat->N7->Prop} {St:Nat->N_->Prop} {DX KO:Nat->Ng->Prop}
theorem tq (W:WalksS prog w A.in1 I fp wr G n P St)(D:N8)(O:D∉fp)(m:Nat->N8)(M U:Nat->N7)(C:∀i v,P i v->v=.ref (m i))
  (F:∀i,i<n->m i≠D/\m i∉wr) (y:∀i,i<n->∀h h':Ng,(∀b o,b≠D->b∉wr->h.get? b>o->h'.get? b>o)->KO i h->KO i h')
  (r:∀(i:Nat),i<=n->∀(h h':Ng),(∀b o,b∉wr->h.get? b>o->h'.get? b>o)->DX i h->DX i h')
  (p:∀i,i<n->∀(s:N_) (Q:Unit->N_->Prop) (E:N7->N_->Prop),KO i s.heap->DX i s.heap->(∀h' t,s.toks<=t->DX (i+1) h'->Ng.SameBut D s.heap h'->Q Unit.unit {s with heap:=h',toks:=t})->Na (Nd prog w) A.in1 (dictSet D (M i) (U i)) Q E s):
  ∀(k i:Nat) (K:Tok) (s:N_),n - i=k->i<=n->St i s->(∀j,j<n->vP s.heap (m j) (M j) (U j)/\KO j s.heap)->DX i s.heap->
   (∀s',Moved (D::wr) G s s'->DX n s'.heap->R (.ok (.ret .none)) s')->
   NK (Nd prog w) A (.builtin "dict.update.loop" ⟨[.ref D,.ref I,.int (i:Nat) K,.none],[]⟩) R s:=by
 let more:∀b∈wr,b∈D::wr:=λb hb=>J0 _ hb
 intro k
 induction k with
 |zero=>
  intro i K s X hi l ht T S
  obtain rfl:i=n:=by omega
  show Nt oG ?_
  show JD (W.done s _ _ l λs' hm=>?_)
  show JD ?_
  show JE (JE (S s' (hm.mono more) (r _ hi _ _ (λb o hb e=>hm.heap b o hb e) T)))
 |succ k ih=>
  intro i K s X hi l ht T S
  let a:i<n:=by omega
  show Nt oG ?_
  show JD (W.item i s _ _ a l λv s' Z0 B hm=>?_)
  obtain rfl:=C i v Z0
  let d:∀j,j<n->vP s'.heap (m j) (M j) (U j)/\KO j s'.heap:=λj g=>by
   let⟨⟨o,c,h1,h2⟩,J⟩:=ht j g
   show⟨⟨o,c,hm.heap _ o (F j g).2 h1,h2⟩,y j g _ _ (λb o _ hb e=>hm.heap b o hb e) J⟩
  let f:=r i hi _ _ (λb o hb e=>hm.heap b o hb e) T
  let⟨⟨o,c,h1,h2,J⟩,h4⟩:=d i a
  let hT:s'.TypeIs (.ref (m i)) "tuple" :=⟨o,h1,h2⟩
  show JD (J_ (JD (wpAny_tryCatch ?_)))
  show JD (LX hT ?_)
  show JD ?_
  show JD (wpAny_load h1 ?_)
  rw[J]
  show JE (JE ?_)
  show J_ (p i a _ _ _ h4 f λh' t' x N sb=>?_)
  show JE ⟨Ny nJ _,?_⟩
  let e:((i:Nat):Int)+1=((i+1:Nat):Int):=by omega
  show ih (i+1) _ _ (by omega) a (W.frame _ s' _ _ B x λb hb o q=>?_) (λj g=>?_) N λL u H=>?_
  ·rw[sb.2 b (λz=>O (z▸hb))];show q
  ·let⟨⟨o,c,q1,q2⟩,Y⟩:=d j g
   show⟨⟨o,c,?_,q2⟩,y j g _ _ (λb o hb _ q=>?_) Y⟩
   ·rw[sb.2 _ (F j g).1];show q1
   ·rw[sb.2 b hb];show q
  ·show S L (Moved.trans W.gtrans ((hm.mono more).then_heap x λb o hb q=>?_) u) H
   rw[sb.2 b (λz=>hb (z<|JZ))];show q
end
theorem rC {K:Type} [DecidableEq K]{xs:-(K×N8×N7)}{k:K}{a:N8}{v:N7}{P:N8->Prop}(h:∀x∈xs,P x.2.1)(c:P a):∀x∈storedH xs k a v,P x.2.1:=by
 unfold storedH
 split
 ·intro x hx
  let⟨y,b,rfl⟩:=JL.mp hx
  unfold putAt
  split
  ·show h y b
  ·show h y b
 ·intro x hx
  rcases J3.mp hx with hx|hx
  ·show h x hx
  ·rw[JJ.mp hx];show c
theorem q0 {K:Type} [DecidableEq K]{xs:-(K×N8×N7)}{k:K}{a:N8}{v:N7}:↑(storedH xs k a v)<=↑xs+1:=by
 unfold storedH
 split
 ·rw[JF];lia
 ·simp
noncomputable def qI {K:Type} [DecidableEq K] (key:Nat->K) (a:Nat->N8) (b:Nat->N7):Nat->-(K×N8×N7)
 |0=>[]
 |i+1=>storedH (qI key a b i) (key i) (a i) (b i)
theorem nW {K:Type} [DecidableEq K]{key:Nat->K}{a:Nat->N8}{b:Nat->N7}{P:N8->Prop}:∀(i:Nat),(∀j,j<i->P (a j))->∀x∈qI key a b i,P x.2.1
 |0,_=>λ_ h=>by cases h
 |i+1,h=>rC (nW i λj c=>h j ()) (h i (Lz _))
theorem om {K:Type} [DecidableEq K]{key:Nat->K}{a:Nat->N8}{b:Nat->N7}:∀(i:Nat),↑(qI key a b i)<=i
 |0=>JG _
 |i+1=>J1 q0 (LL (om i))
section
variable {DX KO:Nat->Ng->Prop}
theorem kq {l:N8}{as:-N8}{c:Nat}{Q:N7->N_->Prop}(hh:A.handled=none)(N:s.heap.get? l=some {cls:=.type "list",data:=.seq (as.map N7.ref).toArray c})
  (W Y:Nat->N7) (hp:∀j,j<↑as->vP s.heap (as.getD j 0) (W j) (Y j)/\KO j s.heap)
  (L:∀j,j<↑as->∀h h':Ng,(∀b o,b<~~~s->h.get? b>o->h'.get? b>o)->KO j h->KO j h')
  (U:∀i,i<=↑as->∀h h':Ng,(∀b o,b<= ~~~s->h.get? b>o->h'.get? b>o)->DX i h->DX i h')
  (K:∀i,i<↑as->∀(s':N_) (Q:Unit->N_->Prop) (E:N7->N_->Prop),KO i s'.heap->DX i s'.heap->(∀h' t,s'.toks<=t->DX (i+1) h'->Ng.SameBut (~~~s) s'.heap h'->Q Unit.unit {s' with heap:=h',toks:=t})->Na (Nd prog w) A.in1.in1 (dictSet (~~~s) (W i) (Y i)) Q E s')
  (h0:∀h':Ng,h'.get? (~~~s)=some {cls:=.type "dict",data:=.dict #[]}->DX 0 h')
  (h:∀(h':Ng) (tk:Nat),DX ↑as h'->(∀b o,s.heap.get? b>o->h'.get? b>o)->Q (.ref (~~~s)) {s with heap:=h',toks:=tk}):
  Na (Nd prog w) A (call (.type "dict") [.ref l]) Q E s:=by
 show callType_codes (Q₁:=λv J=>v=.ref (~~~s)/\J={s with heap:=s.heap.push {cls:=.type "dict",data:=.dict #[]}}) F.kt_called_dict (F.kt_typeCall_dict_1 _) F.entry_dict_init (kt_code_dict_new _ ⟨Z,Z⟩) ?_
 rintro v J ⟨rfl,rfl⟩
 let a:∀b u,s.heap.get? b>u->(s.heap.push {cls:=.type "dict",data:=.dict #[]}).get? b>u:=λb u x=>JK _ x
 let P:N_.TypeIs {s with heap:=s.heap.push {cls:=.type "dict",data:=.dict #[]}} (.ref (~~~s)) "dict" :=⟨_,JT _ Z,Z⟩
 let S:N_.TypeIs {s with heap:=s.heap.push {cls:=.type "dict",data:=.dict #[]}} (.ref l) "list" :=⟨_,a _ _ N,Z⟩
 let O:(s.heap.push {cls:=.type "dict",data:=.dict #[]}).get? (~~~s)=some {cls:=.type "dict",data:=.dict #[]}:=JT _ Z
 let k:(s.heap.push {cls:=.type "dict",data:=.dict #[]}).objs.size= ~~~s+1:=Kq ..
 revert a P S O k
 intro a P S O k
 show⟨P,F.args_dict_init_2 _ _,?_⟩
 show JD ?_
 show JD (LI P ?_)
 show JE ?_
 change Na _ _ (Nc.Dict.updateFrom "dict.__init__" (~~~s) (.ref l) [] .none) _ _ _
 show JD (LX S ?_)
 show JD (Cj (show A.in1.in1.handled=none from hh) (a _ _ N) λh1 am I=>?_)
 show JD (Lp (JD ?_))
 let n:h1.get? l=some {cls:=.type "list",data:=.seq (as.map N7.ref).toArray c}:=I _ _ (a _ _ N)
 let p:h1.IsList l (as.map N7.ref).toArray:=⟨_,n,Z,c,Z⟩
 show L4 p (JE ⟨Ny nJ _,?_⟩)
 let f: ~~~s+1<=h1.objs.size:=JN (I _ _ O)
 let r:l<~~~s:=JN N
 let H:l≠h1.objs.size:=JP (JN n)
 let nD: ~~~s∉[h1.objs.size,l]:=λz=>by
  rcases JO.mp z with z|z
  ·show absurd z (JP (Nat.lt_of_succ_le f))
  ·show absurd (JJ.mp z) (Kx r)
 let X:∀{b:N8},b<~~~s->b∉[h1.objs.size]:=λhb z=>absurd (JJ.mp z) (JP (Kg hb (Nat.le_of_succ_le f)))
 let d:∀{b:N8} {o:Nv},s.heap.get? b>o->b<~~~s:=λe=>JN e
 let C:A.in1.in1.handled=none:=by simpa using hh
 let sz:(as.map N7.ref).toArray.size=↑as:=by simp
 show tq (A:=A.in1) ((Walks.list C _ l H (as.map N7.ref).toArray).toS) (~~~s) nD (λi=>as.getD i 0) W Y (λi v hv=>?_) (λi hi=>?_) (λi hi g M hg z=>L i (sz▸hi) g M (λb o hb e=>hg b o (JP hb) (X hb) e) z) (λi hi g M hg z=>U i (sz▸hi) g M (λb o hb e=>hg b o (λy=>absurd (JJ.mp y) (JP (Kg (Nat.lt_succ_of_le hb) f))) e) z) (λi hi=>K i (sz▸hi))
  ((as.map N7.ref).toArray.size - 0) 0 0 _ () (J4 _) ⟨⟨_,JT _ Z,Z,Z⟩,p.push _⟩ (λj hj=>?_) (h0 _ (JK _ (I _ _ O))) λs' hm T=>?_
 ·let m:(as.map N7.ref).toArray[i]?>v:=hv
  rw[List.getElem?_toArray,JV] at m
  let⟨x,hx,rfl⟩:=Kc.mp m
  rw[JS,hx];rfl
 ·let⟨⟨o,Z0,R,_⟩,_⟩:=hp i (sz▸hi)
  show⟨JP (d R),X (d R)⟩
 ·let⟨⟨o,Z0,R,q2⟩,q3⟩:=hp j (sz▸hj)
  let up:∀b u,s.heap.get? b>u->(h1.push {cls:=.type "list_iterator",data:=.fields #[.ref l,.int 0 0]}).get? b>u:=λb u z=>JK _ (I _ _ (a _ _ z))
  show⟨⟨o,Z0,up _ _ R,q2⟩,L j (sz▸hj) _ _ (λb o _ q=>up b o q) q3⟩
 ·let⟨h',M,d',D,B⟩:=s'
  obtain rfl:M=s.gens:=hm.gens
  obtain rfl:d'=s.drawn:=hm.drawn
  obtain rfl:B=s.os:=hm.os
  show⟨Z,h h' D (sz▸T) λb o e=>hm.heap b o (λz=>?_) (JK _ (I _ _ (a _ _ e)))⟩
  rcases JO.mp z with z|z
  ·show absurd z (JP (d e))
  ·show X (d e) z
end
abbrev uM (H:Hp) (as:-N8) (kvs:-(-cP×V)):Prop:=Nb (λa (kv:-cP×V)=>∃b,H a>.tup [.ref b,kv.2]/\H b>.tup (kv.1.map kV)) as kvs
noncomputable def Gk {c:Type} [DecidableEq c] (a:-(c×V)):-(c×V):=a.foldl (λb d=>bC b d.1 d.2) []
abbrev Bl (kvs:-(-cP×V)):-(-cP×V):=Gk kvs
theorem qP {b:Type} [DecidableEq b]{a:-(b×V)}{p:b×V}:Gk (a++[p])=bC (Gk a) p.1 p.2:=by unfold Gk;rw[List.foldl_append];rfl
theorem qK {a:-(-cP×V)}{p:-cP×V}:Bl (a++[p])=bC (Bl a) p.1 p.2:=qP
theorem C1 {d:Type} [DecidableEq d]{c:-(d×V)}:↑(Gk c)<=↑c:=by
 let all:∀(l b:-(d×V)),↑(l.foldl (λb e=>bC b e.1 e.2) b)<=↑b+↑l:=by
  intro l
  induction l with
  |nil=>intro b;show JG _
  |cons a r ih=>
   intro b
   let h1:=ih (bC b a.1 a.2)
   let h2:=dZ b a.1 a.2
   rw[List.foldl_cons,J9]
   lia
 let h:=all c []
 unfold Gk
 simpa using h
theorem gR (hc:X.calm=true){k:Nat}(hr:aT k X.A):cy X (.type "dict") (λxs H Q=>∃(l:N8) (as:-N8) (B:-(-cP×V)),xs=[.ref l]/\H l>.lst (as.map V.ref)/\uM H as B/\∀p,H p=none->Q (.ref p) (Ob H p (.dT (Bl B)))):=by
 intro O8 s σ H xs us Q I r h
 let⟨l,as,B,rfl,hl,hp,q⟩:=h
 let⟨u,rfl,ru⟩:=dO r
 cases ru
 let⟨U,y,c,rv,v⟩:=I.hok l _ hl
 obtain rfl:=fz rv
 let hu:=hr.units
 let len:↑as=↑B:=Nb.length hp
 let ex:∀j,∃(b:N8) (u:N7),j<↑as->zM s.heap (as.getD j 0) b u/\H b>.tup ((B.getD j ([],.non)).1.map kV)/\a8 (B.getD j ([],.non)).2 u:=λj=>by
  by_cases F:j<↑as
  ·let f:j<↑B:=by lia
   let⟨a,ha,b,h1,h2⟩:=mf hp j f
   let⟨_,ii,rr,o,ho,w,n,hd⟩:=I.hok a _ h1
   let⟨u1,u2,rfl,W,r2⟩:=fe rr
   cases(show u1=N7.ref b from W)
   show⟨b,u2,λ_=>?_⟩
   let e1:as.getD j 0=a:=by rw[JS,ha];rfl
   let N:B.getD j ([],.non)=B[j]:=by rw[JS,JU f];rfl
   rw[e1,N]
   show⟨⟨o,n,ho,w,hd⟩,h2,r2⟩
  ·show⟨0,.none,λz=>absurd z F⟩
 obtain⟨D,L⟩:∃D:Nat->N8,∀j,∃u:N7,j<↑as->zM s.heap (as.getD j 0) (D j) u/\H (D j)>.tup ((B.getD j ([],.non)).1.map kV)/\a8 (B.getD j ([],.non)).2 u:=⟨λj=>Classical.choose (ex j),λj=>Classical.choose_spec (ex j)⟩
 obtain⟨K,C⟩:∃K:Nat->N7,∀j,j<↑as->zM s.heap (as.getD j 0) (D j) (K j)/\H (D j)>.tup ((B.getD j ([],.non)).1.map kV)/\a8 (B.getD j ([],.non)).2 (K j):=⟨λj=>Classical.choose (L j),λj=>Classical.choose_spec (L j)⟩
 let Z0:∀i,i<=↑as->KT H (Bl (B.take i)) (qI (λj=>(B.getD j ([],.non)).1) D K i):=by
  intro i
  induction i with
  |zero=>intro _;show .nil
  |succ i ih=>
   intro hi
   let⟨_,h2,O⟩:=C i hi
   let m:i<↑B:=by lia
   let N:B[i]?>B.getD i ([],.non):=by rw[JS,JU m];rfl
   let et:B.take (i+1)=B.take i++[B.getD i ([],.non)]:=by rw[K6,N];rfl
   unfold Bl;rw[et,qP]
   show KT.put (ih ()) _ h2 O
 let mono:∀{g M:Ng} {k:-cP} {b:N8},(∀o,g.get? b>o->M.get? b>o)->(Nm (aX X.prog X.w)).is g k b->(Nm (aX X.prog X.w)).is M k b:=λhg J=>by let⟨o,d,n,z1,z2⟩:=J;show⟨o,d,n,hg o z1,z2⟩
 show kq (I.ok.hd hc) v (λj=> .ref (D j)) K (DX:=λi h=>h.DictOfH (Nm (aX X.prog X.w)) (~~~s) (qI (λj=>(B.getD j ([],.non)).1) D K i)) (KO:=λj h=>(Nm (aX X.prog X.w)).is h (B.getD j ([],.non)).1 (D j)) (λj F=>?_) (λj F g M hg z=>mono (λo q=>hg _ o (I.hok.lt (C j F).2.1) q) z) (λi hi g M hg J=>by let⟨o,es,ep,a1,a2,a3,a4,a5,a6⟩:=J;show⟨o,es,ep,hg _ _ (JG _) a1,a2,a3,a4,λx S=>mono (λo q=>hg _ o (Kh (nW (P:=λb=>b<~~~s) i (λj F=>I.hok.lt (C j (Kg F hi)).2.1) x S)) q) (a5 x S),a6⟩) (λi hi s' Q E Y d1 q=>wpAny_dictSet_heap (show X.A.units+1+1<NE by lia) Y d1 (λh' hd sb=>q h' _ (Lr _ _) hd sb) (J1 (om i) (J1 (Kh hi) (by simpa using U)))) (λh' e=>⟨_,#[],0,e,⟨Z,Z,Z⟩,Z,Z,(λ_ z=>by cases z),LC⟩) λh' tk hd hk=>?_
 ·let⟨h1,h2,_⟩:=C j F
  show⟨h1,gy I.hok h2⟩
 ·let R:=Z0 ↑as (JG _)
  rw[len,Kb] at R
  rw[len] at hd
  let⟨o,es,ep,h1,h2,O,h4,h5,h6⟩:=hd
  let T:H (~~~s)=none:=I.hok.fresh (JG _)
  show⟨.ref (~~~s),_,I.laid (a:= ~~~s) (o:=.dT (Bl B)) (t':=tk) hk (JG _) ⟨J1 C1 (by rw[<-len];simpa using U),beq_eq_false_iff_ne.mpr (JH (JP I.big)),_,R.keeps λb ys z=>?_,o,es,ep,h1,h2,O,h4,h6⟩,Z,q _ T⟩
  rw[aj (ai z T)];show z
structure Nx (prog:Ni) (w:Nr) (A:Nu) (it src:N8) (vals:Array N7) (St:Nat->Ng->Prop):Prop where
 obj:∀i h,St i h->∃o vs,h.get? it>o/\o.data=.fields vs/\o.cls≠.type "zip" /\∃o',h.get? src>o'
 keep:∀i h h',St i h->(∀o,h.get? it>o->h'.get? it>o)->(∀o,h.get? src>o->h'.get? src>o)->St i h'
 item:∀(i:Nat) (s:N_) (Q:N7->N_->Prop) (E:N7->N_->Prop) (x:N7),St i s.heap->vals[i]?>x->(∀h',St (i+1) h'->Ng.SameBut it s.heap h'->Q x {s with heap:=h'})->Na (Nd prog w) A (Nc.SmallTypes.nextOf (.ref it)) Q E s
 done:∀(i:Nat) (s:N_) (Q:N7->N_->Prop) (E:N7->N_->Prop),A.handled=none->St i s.heap->vals[i]?=none->
  (∀h' e,L7 it s.heap h'->(∃o,h'.get? e>o/\o.cls=.type "StopIteration")->E (.ref e) {s with heap:=h'})->Na (Nd prog w) A (Nc.SmallTypes.nextOf (.ref it)) Q E s
theorem Nx.list {it l:N8}{items:Array N7}(c:l≠it):Nx prog w A it l items (λi h=>h.IsListIter it l i/\h.IsList l items) where
 obj:=λi h f=>by let⟨⟨o,h1,h2,q⟩,⟨o',k,_⟩⟩:=f;show⟨o,_,h1,q,by rw[h2];decide,o',k⟩
 keep:=λi h h' ⟨x,y⟩ g m=>⟨x.at g,y.at m⟩
 item:=λi s Q E x ⟨h1,h2⟩ d p=>wpAny_nextOf_list_item h1 h2 d λh' a b=>p h' ⟨a,h2.at λo e=>b.extBut _ _ c e⟩ b
 done:=λi s Q E n ⟨h1,h2⟩ d j=>wpAny_nextOf_list_end n h1 h2 d j
theorem qC{it:N8}(hit:IsTupIter s.heap it t i)(ht:IsTup s.heap t items)(hx:items[i]?>x)
  (e:∀h',IsTupIter h' it t (i+1)->Ng.SameBut it s.heap h'->Q x {s with heap:=h'}):Na (Nd prog w) A (Nc.SmallTypes.nextOf (.ref it)) Q E s:=by
 let⟨o,c,d,hd⟩:=id hit
 let⟨g,b,_,f,a⟩:=ht
 show JD (KB (name:=Nh.ofString "__next__") hit.typeIs slot_tupleiter_next (Ka slot_tupleiter_next hit.typeIs entry_tupleiter_next ?_ (args_tupleiter_next _)))
 change Na _ _ (field (.ref it) 0>>=_) _ _ s
 show JD (Ke c hd (x:=.ref t) Z ?_)
 show JD (Ke c hd (x:=.int i 0) Z ?_)
 show JD (KC b a ?_)
 simp only[Kv,hx]
 show JD (L6 c hd (by simp) (JE ⟨x,Z,JE (e _ ?_ (Ng.SameBut.update ..))⟩))
 show⟨_,Kr _ c (Nv.isFreed_of_fields (Nv.data_mapFields hd _)),(Nv.cls_mapFields ..).trans d,by rw[Nv.data_mapFields hd];simp[NI]⟩
theorem uq{it:N8}(f:A.handled=none)(hit:IsTupIter s.heap it t i)(ht:IsTup s.heap t items)(hx:items[i]?=none)
  (g:∀h' e,L7 it s.heap h'->(∃o,h'.get? e>o/\o.cls=.type "StopIteration")->E (.ref e) {s with heap:=h'}):Na (Nd prog w) A (Nc.SmallTypes.nextOf (.ref it)) Q E s:=by
 let⟨o,d,j,hd⟩:=id hit
 let⟨k,c,_,h,b⟩:=ht
 show JD (KB (name:=Nh.ofString "__next__") hit.typeIs slot_tupleiter_next (Ka slot_tupleiter_next hit.typeIs entry_tupleiter_next ?_ (args_tupleiter_next _)))
 change Na _ _ (field (.ref it) 0>>=_) _ _ s
 show JD (Ke d hd (x:=.ref t) Z ?_)
 show JD (Ke d hd (x:=.int i 0) Z ?_)
 show JD (KC c b ?_)
 simp only[Kv,hx]
 show JD (Lp (JD (L6 d hd (by simp) ?_)))
 show JD ?_
 show JD (m:=firstArgMember _ _) (wpAny_of_eq (a:=N7.none) (by first|rfl|(simp only[firstArgMember];rfl)) (KL ?_ (by size_fits)))
 show JD (wpAny_handled ?_)
 first|rw[show A.in1.handled=none from f]|rw[f]
 show JD (JE (wpAny_throw ?_))
 show g _ _ (((Ng.SameBut.update ..).extBut.push _).push _) ⟨_,JT _ Z,Z⟩
theorem Nx.tup {it t:N8}{items:Array N7}(c:t≠it):Nx prog w A it t items (λi h=>IsTupIter h it t i/\IsTup h t items) where
 obj:=λi h f=>by let⟨⟨o,h1,h2,p⟩,⟨o',e,_⟩⟩:=f;show⟨o,_,h1,p,by rw[h2];decide,o',e⟩
 keep:=λi h h' ⟨⟨o,h1,h2⟩,⟨o',e,l⟩⟩ g k=>⟨⟨o,g _ h1,h2⟩,⟨o',k _ e,l⟩⟩
 item:=λi s Q E x ⟨h1,h2⟩ d n=>qC h1 h2 d λh' a b=>n h' ⟨a,h2.extBut b.extBut c⟩ b
 done:=λi s Q E m ⟨h1,h2⟩ d j=>uq m h1 h2 d j
structure ZA (z TI TO i1 i2 s1 s2:N8):Prop where
 TIz:TI≠z
 TOz:TO≠z
 i1z:i1≠z
 i2z:i2≠z
 TITO:TI≠TO
 TIi1:TI≠i1
 TIi2:TI≠i2
 TOi1:TO≠i1
 TOi2:TO≠i2
 i12:i1≠i2
 s1z:s1≠z
 s1TO:s1≠TO
 s1i2:s1≠i2
 s2z:s2≠z
 s2TO:s2≠TO
 s2i1:s2≠i1
theorem vY {z TI TO i1 u Y Z0:N8}{xs ys:Array N7}{P H:Nat->Ng->Prop}{i:Nat}{x y a b:N7}{Q:N7->N_->Prop}(D:ZA z TI TO i1 u Y Z0)(N:Nx prog w A i1 Y xs P)(K:Nx prog w A u Z0 ys H)
  (hz:IsZip s.heap z TI TO .none) (M:NH s.heap TI (.ref i1) (.ref u)) (S:NH s.heap TO a b) (h1:P i s.heap) (h2:H i s.heap) (hx:xs[i]?>x) (hy:ys[i]?>y)
  (hQ:∀h',IsZip h' z TI TO (NI (~~~s))->NH h' TO x y->P (i+1) h'->H (i+1) h'->NH h' (~~~s) x y->h'.objs.size= ~~~s+1->
   (∀c o,c≠z->c≠TO->c≠i1->c≠u->s.heap.get? c>o->h'.get? c>o)->Q (.ref (~~~s)) {s with heap:=h'}):
  Na (Nd prog w) A (Nc.«zip.__next__» ⟨[.ref z],[]⟩) (λR s'=>∃v,R=.done (.ret v)/\Q v s') E s:=by
 change Na _ _ (field (.ref z) 2>>=_) _ _ _
 show JD (Ke hz Z (x:=.bool false) Z ?_)
 show JD (Ke hz Z (x:=.ref TI) Z (JD (KC M Z ?_)))
 show JD ?_
 show JD (Ke hz Z (x:=.none) Z (JE ?_))
 show JD (Lp (JD (Ke hz Z (x:=.ref TO) Z (JD (KY hz (by simp) λg1 z1 m=>?_)))))
 show JD ?_
 show JD (JD (wpAny_onRaise ?_))
 show JD (N.item i {s with heap:=g1} _ _ x (N.keep _ _ _ h1 (λo e=>m.extBut _ _ D.i1z e) (λo e=>m.extBut _ _ D.s1z e)) hx λg2 a1 q=>JE ?_)
 let U:NH g2 TO a b:=q.extBut _ _ D.TOi1 (m.extBut _ _ D.TOz S)
 show JD (KC U Z (JD (wpAny_updateSeq_pair U λg3 t3 l=>?_)))
 show JD (Lb (JE ?_))
 show JD (JD (wpAny_onRaise ?_))
 show JD (K.item i {s with heap:=g3} _ _ y (K.keep _ _ _ h2 (λo e=>l.extBut _ _ D.TOi2.symm (q.extBut _ _ D.i12.symm (m.extBut _ _ D.i2z e))) (λo e=>l.extBut _ _ D.s2TO (q.extBut _ _ D.s2i1 (m.extBut _ _ D.s2z e)))) hy λg4 a2 r=>JE ?_)
 let W:NH g4 TO x b:=r.extBut _ _ D.TOi2 t3
 show JD (KC W Z (JD (wpAny_updateSeq_pair W λk B p=>?_)))
 replace B:NH k TO x y:=B
 show JD (Lb (JE (JE ?_)))
 show JD (KC B Z (JD (wpAny_newTuple ?_)))
 let h:k.objs.size= ~~~s:=by rw[p.1,r.1,l.1,q.1,m.1]
 let X:IsZip k z TI TO .ellipsis:=p.extBut _ _ D.TOz.symm (r.extBut _ _ D.i2z.symm (l.extBut _ _ D.TOz.symm (q.extBut _ _ D.i1z.symm z1)))
 let j:∀c o,c≠z->c≠TO->c≠i1->c≠u->s.heap.get? c>o->k.get? c>o:=λc o n C O L e=>p.extBut _ _ C (r.extBut _ _ L (l.extBut _ _ C (q.extBut _ _ O (m.extBut _ _ n e))))
 let g:z<k.objs.size:=JN X
 show JD ?_
 let z6:IsZip (k.push {cls:=.type "tuple",data:=.seq #[x,y]}) z TI TO .ellipsis:=JK _ X
 show JD (KY z6 (by simp) λg7 z7 J=>?_)
 show KY z7 (by simp) λF T I=>?_
 let up:∀c o,c≠z->k.get? c>o->F.get? c>o:=λc o n e=>I.extBut _ _ n (J.extBut _ _ n (JK _ e))
 let d:NH F k.objs.size x y:=I.extBut _ _ (Kx g) (J.extBut _ _ (Kx g) (JT _ Z))
 let f:F.objs.size=k.objs.size+1:=by rw[I.1,J.1,Kq]
 rw[h] at T d f
 show JE ⟨_,Z,?_⟩
 rw[h]
 show hQ F T (up _ _ D.TOz B)
  (N.keep _ _ _ a1 (λo e=>up _ o D.i1z (p.extBut _ _ D.TOi1.symm (r.extBut _ _ D.i12 (l.extBut _ _ D.TOi1.symm e)))) (λo e=>up _ o D.s1z (p.extBut _ _ D.s1TO (r.extBut _ _ D.s1i2 (l.extBut _ _ D.s1TO e)))))
  (K.keep _ _ _ a2 (λo e=>up _ o D.i2z (p.extBut _ _ D.TOi2.symm e)) (λo e=>up _ o D.s2z (p.extBut _ _ D.s2TO e))) d f λc o n C O L e=>up c o n (j c o n C O L e)
theorem AF{TI TO:N8}{T I:Nat->Ng->Prop}{Q:Fin->N_->Prop}(K:A.handled=none)(D:ZA z TI TO i1 i2 s1 s2)(v:Nx prog w A i1 s1 xs T)(M:Nx prog w A i2 s2 ys I)
  (hz:IsZip s.heap z TI TO .none) (u:NH s.heap TI (.ref i1) (.ref i2)) (C:NH s.heap TO a b) (h1:T i s.heap) (h2:I i s.heap) (p:xs[i]?=none\/ys[i]?=none)
  (R:∀h' e,(∀c o,c≠z->c≠TO->c≠i1->c≠i2->s.heap.get? c>o->h'.get? c>o)->(∃o,h'.get? e>o/\o.cls=.type "StopIteration")->E (.ref e) {s with heap:=h'}):
  Na (Nd prog w) A (Nc.«zip.__next__» ⟨[.ref z],[]⟩) Q E s:=by
 change Na _ _ (field (.ref z) 2>>=_) _ _ _
 show JD (Ke hz Z (x:=.bool false) Z ?_)
 show JD (Ke hz Z (x:=.ref TI) Z (JD (KC u Z ?_)))
 show JD ?_
 show JD (Ke hz Z (x:=.none) Z (JE ?_))
 show JD (Lp (JD (Ke hz Z (x:=.ref TO) Z (JD (KY hz (by simp) λq P m=>?_)))))
 show JD ?_
 show JD (JD (wpAny_onRaise ?_))
 let j:=v.keep _ _ q h1 (λo e=>m.extBut _ _ D.i1z e) (λo e=>m.extBut _ _ D.s1z e)
 cases hx:xs[i]? with
 |none=>
  show JD (v.done i {s with heap:=q} _ _ K j hx λH e k F=>?_)
  let⟨r,d,f⟩:=F
  let N:IsZip H z TI TO .ellipsis:=k _ _ D.i1z.symm P
  let g:e≠z:=λx=>by subst x;rw[N] at d;cases d;simp at f
  show KY N (by simp) λB _ l=>R B e (λc o n _ y _ x=>l.extBut _ _ n (k _ _ y (m.extBut _ _ n x))) ⟨r,l.extBut _ _ g d,f⟩
 |some x=>
  let U:ys[i]?=none:=by rcases p with h|h;rw[hx] at h;cases h;show h
  show JD (v.item i {s with heap:=q} _ _ x j hx λH a1 k=>JE ?_)
  let J:NH H TO a b:=k.extBut _ _ D.TOi1 (m.extBut _ _ D.TOz C)
  show JD (KC J Z (JD (wpAny_updateSeq_pair J λB t3 l=>?_)))
  show JD (Lb (JE ?_))
  show JD (JD (wpAny_onRaise ?_))
  show JD (M.done i {s with heap:=B} _ _ K (M.keep _ _ _ h2 (λo e=>l.extBut _ _ D.TOi2.symm (k.extBut _ _ D.i12.symm (m.extBut _ _ D.i2z e))) (λo e=>l.extBut _ _ D.s2TO (k.extBut _ _ D.s2i1 (m.extBut _ _ D.s2z e)))) U λZ0 e S F=>?_)
  let⟨r,d,f⟩:=F
  let L:IsZip Z0 z TI TO .ellipsis:=S _ _ D.i2z.symm (l.extBut _ _ D.TOz.symm (k.extBut _ _ D.i1z.symm P))
  let g:e≠z:=λx=>by subst x;rw[L] at d;cases d;simp at f
  show KY L (by simp) λX _ O=>R X e (λc o n Y y W x=>O.extBut _ _ n (S _ _ W (l.extBut _ _ Y (k.extBut _ _ y (m.extBut _ _ n x))))) ⟨r,O.extBut _ _ g d,f⟩
theorem jC(I:aH X O8 σ H s)(h:a_ X.K H t xs)(f:iu X O8 H b):t≠b:=λz=>by
 subst z
 let⟨a,j,i,f3,e,g⟩:=f
 rcases h with (h|⟨_,h⟩)|⟨o,d,n,c,_⟩
 ·rw[a] at h;cases h
 ·rw[a] at h;cases h
 ·let hb:=I.ok.mod.kin _ _ c
  rcases f3 with f3|f3
  ·show I.ok.noex _ _ hb f3
  ·show absurd (Kg (JN (I.ok.bs _ _ hb).1) f3) (Ku _)
noncomputable def FN (K:JI) (a t2:N8):It:=
 ⟨λi H=>∃xs ys x y,a_ K H a xs/\a_ K H t2 ys/\xs[i]?>x/\ys[i]?>y,
  λi H x H'=>∃p b c,H p=none/\x=.ref p/\H'=Ob H p (.tup [b,c])/\(∀xs,a_ K H a xs->xs[i]?>b)/\∀ys,a_ K H t2 ys->ys[i]?>c,
  λi H=>∃xs ys,a_ K H a xs/\a_ K H t2 ys/\(↑xs<=i\/↑ys<=i)⟩
def Iq (z TI TO i1 c d t2:N8) (i:Nat) (h:Ng):Prop:=IsZip h z TI TO .none/\NH h TI (.ref i1) (.ref c)/\(∃a b,NH h TO a b)/\IsTupIter h i1 d i/\IsTupIter h c t2 i
theorem Ea{TI TO:N8}(I:aH X O8 σ H s)(hf:∀b∈[z,TI,TO,i1,i2],iu X O8 H b)(e:a_ X.K H t1 xs)(f:a_ X.K H t2 ys)(l:TI≠z/\TO≠z/\i1≠z/\i2≠z/\TI≠TO/\TI≠i1/\TI≠i2/\TO≠i1/\TO≠i2/\i1≠i2):ZA z TI TO i1 i2 t1 t2:=by
 let c:∀b∈[z,TI,TO,i1,i2],t1≠b:=λb hb=>jC I e (hf b hb)
 let a:∀b∈[z,TI,TO,i1,i2],t2≠b:=λb hb=>jC I f (hf b hb)
 let⟨m,o,j,g,h,k,p,n,i,d⟩:=l
 show⟨m,o,j,g,h,k,p,n,i,d,c _ (by simp),c _ (by simp),c _ (by simp),a _ (by simp),a _ (by simp),a _ (by simp)⟩
theorem w8 {P:Ni}{ac:-Nw}{x1:Nat}{an:O1}(z TI TO i1 i2 t1 t2:N8)(D0:TI≠z/\TO≠z/\i1≠z/\i2≠z/\TI≠TO/\TI≠i1/\TI≠i2/\TO≠i1/\TO≠i2/\i1≠i2):
  md P w K (.Tuple ac x1 an) (FN K t1 t2) [z,TI,TO,i1,i2] z (Iq z TI TO i1 i2 t1 t2) where
 mem:=by simp
 obj:=λi h st b hb=>by
  let⟨h1,h2,⟨a,c,h3⟩,⟨o4,h4,_,d4⟩,⟨o5,h5,_,d5⟩⟩:=st
  simp only[JO,KD,or_false] at hb
  rcases hb with rfl|rfl|rfl|rfl|rfl
  ·show⟨_,h1,λv e=>by let e':Data.fields _=Data.cell v:=e;cases e'⟩
  ·show⟨_,h2,λv e=>by let e':Data.seq _ _=Data.cell v:=e;cases e'⟩
  ·show⟨_,h3,λv e=>by let e':Data.seq _ _=Data.cell v:=e;cases e'⟩
  ·show⟨_,h4,λv e=>by rw[d4] at e;cases e⟩
  ·show⟨_,h5,λv e=>by rw[d5] at e;cases e⟩
 keep:=λi h h' Z0 k=>by
  let⟨h1,h2,⟨a,c,h3⟩,⟨o4,h4,c4,d4⟩,⟨o5,h5,c5,d5⟩⟩:=Z0
  show⟨k z (by simp) _ h1,k TI (by simp) _ h2,⟨a,c,k TO (by simp) _ h3⟩,⟨o4,k i1 (by simp) _ h4,c4,d4⟩,⟨o5,k i2 (by simp) _ h5,c5,d5⟩⟩
 item:=by
  intro X hP hw hK hc i O8 s σ H E I hf st hg
  subst hP hw hK
  let⟨xs,ys,x,y,f,d,hx,hy⟩:=hg
  let⟨Z0,g,⟨a,b,C⟩,B,p⟩:=st
  let⟨m,r1,p1,_⟩:=I.tuple f
  let⟨n,r2,p2,_⟩:=I.tuple d
  let⟨u1,S,M⟩:=r1.get hx
  let⟨u2,N,R⟩:=r2.get hy
  let D:=Ea I hf f d D0
  let⟨d1,d2,d3,d4,d5,d6,d7,d8,d9,Y⟩:=D0
  let hT:s.TypeIs (.ref z) "zip" :=⟨_,Z0,Z⟩
  let nT:s.heap.get? (~~~s)=none:=K2 (JG _)
  let J:∀b∈[z,TI,TO,i1,i2],b<~~~s:=λb hb=>by
   let⟨_,e4,_⟩:=B
   let⟨_,e5,_⟩:=p
   simp only[JO,KD,or_false] at hb
   rcases hb with rfl|rfl|rfl|rfl|rfl
   ·show JN Z0
   ·show JN g
   ·show JN C
   ·show JN e4
   ·show JN e5
  show JD (KA (KB (name:=Nh.ofString "__next__") hT F.slot_zip_next (Ka F.slot_zip_next hT F.entry_zip_next
   (vY D (Nx.tup (items:=m.toArray) (jC I f (hf _ (by simp)))) (Nx.tup (items:=n.toArray) (jC I d (hf _ (by simp)))) Z0 g C ⟨B,p1⟩ ⟨p,p2⟩ (by simpa using S) (by simpa using N) λh' a1 a2 a3 a4 a5 a6 hk=>JE ⟨_,Z,?_⟩) (F.args_zip_next_1 _))))
  show wpAny_letOwnedTupleGo_zip (s:={s with heap:=h'}) a1 λh2 bb sb=>?_
  let W:z<~~~s:=J z (by simp)
  let U:h2.get? (~~~s)=some {cls:=.type "tuple",data:=.seq #[u1,u2]}:=(sb.2 _ (Kx W)).trans a5
  show⟨.ref (~~~s),Ob H (~~~s) (.tup [x,y]),aH.turnedLaid (s:=s) (h':=h2) (fp:=[z,TI,TO,i1,i2]) (t':=s.toks) I hf (λb v hb q=>?_) nT ?_,Z,⟨_,x,y,I.hok.none_of nT,Z,Z,λl hl=>by rw[I.tuple_inj hl f];show hx,λl hl=>by rw[I.tuple_inj hl d];show hy⟩,
   ⟨bb,?_,⟨_,_,(sb.2 _ d2).trans a2⟩,?_,?_⟩,λb hb=>?_⟩
  ·let j:b≠z/\b≠TO/\b≠i1/\b≠i2:=⟨λe=>hb (by simp[e]),λe=>hb (by simp[e]),λe=>hb (by simp[e]),λe=>hb (by simp[e])⟩
   show(sb.2 b j.1).trans (hk b v j.1 j.2.1 j.2.2.1 j.2.2.2 q)
  ·show⟨by change 2<=N9;decide,_,.cons M (.cons R .nil),_,U,Z,_,Z⟩
  ·show(sb.2 _ d1).trans (hk _ _ d1 d5 d6 d7 g)
  ·let⟨o,e,r⟩:=a3.1
   show⟨o,(sb.2 _ d3).trans e,r⟩
  ·let⟨o,e,r⟩:=a4.1
   show⟨o,(sb.2 _ d4).trans e,r⟩
  ·rw[aj (JP (J b hb))];show(hf b hb).1
 done:=by
  intro X hP hw hK hc i O8 s σ H E I hf st hg
  subst hP hw hK
  let⟨xs,ys,f,d,L⟩:=hg
  let⟨Z0,g,⟨a,b,C⟩,B,p⟩:=st
  let⟨m,r1,p1,_⟩:=I.tuple f
  let⟨n,r2,p2,_⟩:=I.tuple d
  let e1:=↑r1
  let e2:=↑r2
  let D:=Ea I hf f d D0
  let hT:s.TypeIs (.ref z) "zip" :=⟨_,Z0,Z⟩
  show JD (KA (KB (name:=Nh.ofString "__next__") hT F.slot_zip_next (Ka F.slot_zip_next hT F.entry_zip_next
   (AF (show X.A.in1.handled=none from I.ok.hd hc) D (Nx.tup (items:=m.toArray) (jC I f (hf _ (by simp)))) (Nx.tup (items:=n.toArray) (jC I d (hf _ (by simp)))) Z0 g C ⟨B,p1⟩ ⟨p,p2⟩ ?_ λh' e hk he=>?_) (F.args_zip_next_1 _))))
  ·rcases L with h|h
   ·show .inl (LY (by simp;lia))
   ·show .inr (LY (by simp;lia))
  ·let⟨o,ho,O⟩:=he
   show JD (KW (T:= "StopIteration") (b:=true) ⟨o,ho,O⟩ isSubtype_stop ?_)
   show JE ⟨Z,?_⟩
   show I.turnedFp hf λb u hb q=>hk b u (λe=>hb (by simp[e])) (λe=>hb (by simp[e])) (λe=>hb (by simp[e])) (λe=>hb (by simp[e])) q
 self:=λA i s Q E st h=>wpAny_pyIter_zip st.1 h
def HQ (z TI TO i1 c d t2:N8) (i:Nat) (h:Ng):Prop:=IsZip h z TI TO .none/\NH h TI (.ref i1) (.ref c)/\(∃a b,NH h TO a b)/\h.IsListIter i1 d i/\h.IsListIter c t2 i
abbrev Gh (c:String) (h:Ng) (l1:N8):Ng:=h.push {cls:=.type c,data:=.fields #[.ref l1,.int 0 0]}
abbrev Hv (c:String) (h:Ng) (l1 l2:N8):Ng:=(Gh c h l1).push {cls:=.type c,data:=.fields #[.ref l2,.int 0 0]}
abbrev Hw (c:String) (h:Ng) (l1 l2:N8):Ng:=(Hv c h l1 l2).push {cls:=.type "tuple",data:=.seq #[.ref h.objs.size,.ref (Gh c h l1).objs.size]}
abbrev Hq (c:String) (h:Ng) (l1 l2:N8):Ng:=(Hw c h l1 l2).push {cls:=.type "tuple",data:=.seq #[.none,.none]}
abbrev E_ (c:String) (h:Ng) (l1 l2:N8):Ng:=(Hq c h l1 l2).push {cls:=.type "zip",data:=.fields #[.none,.bool false,.bool false,.ref (Hv c h l1 l2).objs.size,.ref (Hw c h l1 l2).objs.size]}
set_option maxHeartbeats 0 in
theorem BE{J:Ng->N8->Array N7->Prop}(j:c= "tuple_iterator" /\J=IsTup\/c= "list_iterator" /\J=Ng.IsList)(a b:N8)(xs ys:Array N7):Meets (Nc.«zip.__new__» ⟨[.type "zip",.ref a,.ref b],[]⟩) (λ_ R s=>J s.heap a xs/\J s.heap b ys/\R (.ok (.ret (.ref (Hq c s.heap a b).objs.size))) {s with heap:=E_ c s.heap a b}):=
 .of_wp λprog w A R s h=>by
  let⟨hp,g,d,tk,os⟩:=s;let⟨f,i,h⟩:=h
  let sz:=sub_zip
  rcases j with ⟨rfl,rfl⟩|⟨rfl,rfl⟩
  ·let e:IsTup (N_.heap ⟨hp,g,d,tk,os⟩) a xs:=f
   let b2:IsTup (N_.heap ⟨Gh "tuple_iterator" hp a,g,d,tk,os⟩) b ys:=IsTup.push i _
   wp_walk using iter_tuple e,iter_tuple b2
   show⟨_,Z,h⟩
  ·let e:Ng.IsList (N_.heap ⟨hp,g,d,tk,os⟩) a xs:=f
   let b2:Ng.IsList (N_.heap ⟨Gh "list_iterator" hp a,g,d,tk,os⟩) b ys:=Ng.IsList.push i _
   wp_walk using L4 e,L4 b2
   show⟨_,Z,h⟩
def JC (c:String) (z TI TO i1 d e t2:N8) (i:Nat) (h:Ng):Prop:=IsZip h z TI TO .none/\NH h TI (.ref i1) (.ref d)/\(∃a b,NH h TO a b)/\(∃o,h.get? i1>o/\o.cls=.type c/\o.data=.fields #[.ref e,.int i 0])/\∃o,h.get? d>o/\o.cls=.type c/\o.data=.fields #[.ref t2,.int i 0]
theorem rR{J:Ng->N8->Array N7->Prop}(r:c= "tuple_iterator" /\J=IsTup\/c= "list_iterator" /\J=Ng.IsList){a b:N8}{xs ys:Array N7}{Q:N7->N_->Prop}(k:J s.heap a xs)(d:J s.heap b ys)
  (h:∀h',JC c (~~~s+4) (~~~s+2) (~~~s+3) (~~~s) (~~~s+1) a b 0 h'->h'.objs.size= ~~~s+5->(∀c o,s.heap.get? c>o->h'.get? c>o)->Q (.ref (~~~s+4)) {s with heap:=h'}):
  Na (Nd prog w) A (call (.type "zip") [.ref a,.ref b]) Q E s:=by
 show callType_new F.called_zip (by decide) (F.typeCall_zip_2 _ _) (F.newCall_zip_2 _ _) (λl=>F.args_object_init_3 l _ _) F.entry_zip_new (BE r a b xs ys) ⟨k,d,?_⟩
 let i:(Gh c s.heap a).objs.size= ~~~s+1:=Kq ..
 let g:(Hv c s.heap a b).objs.size= ~~~s+2:=by rw[Kq,i]
 let f:(Hw c s.heap a b).objs.size= ~~~s+3:=by rw[Kq,g]
 let e:(Hq c s.heap a b).objs.size= ~~~s+4:=by rw[Kq,f]
 let u:(E_ c s.heap a b).objs.size= ~~~s+5:=by rw[Kq,e]
 let j:(E_ c s.heap a b).get? (Hq c s.heap a b).objs.size>_:=JT _ Z
 let m:(E_ c s.heap a b).get? (Hw c s.heap a b).objs.size>_:=JK _ (JT _ Z)
 let n:(E_ c s.heap a b).get? (Hv c s.heap a b).objs.size>_:=JK _ (JK _ (JT _ Z))
 let p:(E_ c s.heap a b).get? (Gh c s.heap a).objs.size>_:=JK _ (JK _ (JK _ (JT _ Z)))
 let q:(E_ c s.heap a b).get? (~~~s)>_:=JK _ (JK _ (JK _ (JK _ (JT _ Z))))
 rw[g,f,e] at j
 rw[i,g] at n
 rw[f] at m
 rw[i] at p
 rw[e]
 show⟨⟨_,j,Z⟩,h _ ⟨j,n,⟨_,_,m⟩,⟨_,q,Z,Z⟩,⟨_,p,Z,Z⟩⟩ u λc o x=>JK _ (JK _ (JK _ (JK _ (JK _ x))))⟩
def G1 (K:JI) (c:TA):TI:=λσ H R=>c σ H λvs H1=>∃a b,vs=[.ref a,.ref b]/\(∃xs,a_ K H1 a xs)/\(∃ys,a_ K H1 b ys)/\R (FN K a b) H1
theorem DA(D:Gl X "zip")(v:X.mg "zip" =none)(C:PA X [a,b] ta)(E:Nf [a,b] X.env=[(false,eval a X.env),(false,eval b X.env)]:=by rfl)
  (B:Nf [a,b] X.env=(false,eval a X.env)::Nf [b] X.env:=by rfl) (m:(NF pos (Nf [b] X.env)).any (·.1)=false:=by rfl):
  PI X (.Tuple elts x1 pt) (.Call (.Name "zip" p) [a,b] [] pos) (G1 X.K ta):=by
 intro O8 s σ H R I h
 show KQ (fW I D v Ay ?_ (by decide) (by decide))
 show PyProof.Rows.callWith_type1 (bS (C pos O8 s σ H _ I h) λF s1 o=>?_) B m
 let⟨vs,H1,I1,r,l1,l2,u,⟨xs,e⟩,⟨ys,g⟩,q⟩:=o
 subst u
 let⟨A,x,rfl,f,d⟩:=fe r
 cases(show A=N7.ref l1 from f)
 cases(show x=N7.ref l2 from d)
 let⟨i,k,y,_⟩:=I1.tuple e
 let⟨j,l,p2,_⟩:=I1.tuple g
 show rR (.inl ⟨Z,Z⟩) y p2 λh' st sz w=>?_
 show wpAny_pyIter_zip (s:={s1 with heap:=h'}) st.1 ?_
 show⟨~~~s1+4,[~~~s1+4,~~~s1+2,~~~s1+3,~~~s1,~~~s1+1],_,_,H1,Z,I1.kept (t':=s1.toks) w,w8 _ _ _ _ _ l1 l2 ?_,st,λb hb=>?_,q⟩
 ·generalize (~~~s1)=n
  show⟨?_,?_,?_,?_,?_,?_,?_,?_,?_,?_⟩<;>(intro z;let J:(_:Nat)=_:=z;lia)
 ·let c: ~~~s1<=b:=by
   simp only[JO,KD,or_false] at hb
   rcases hb with rfl|rfl|rfl|rfl|rfl
   ·show Lr _ _
   ·show Lr _ _
   ·show Lr _ _
   ·show JG _
   ·show Lr _ _
  show I1.fpOk c (I1.hok.fresh c)
theorem zb {a b:N8}{xs ys:-V}(j:↑xs=↑ys){S:SV}{F:St->Hp->Prop}(c:Nat->St->Hp->Prop)(h0:c 0 σ H)(d:∀i σ H,i<=↑xs->c i σ H->a_ K H a xs/\a_ K H b ys)(g:∀i x y p σ H,xs[i]?>x->ys[i]?>y->H p=none->c i σ H->S (c (i+1)) (.ref p) σ (Ob H p (.tup [x,y])))(hd:∀σ H,c ↑xs σ H->F σ H):xZ (FN K a b) σ H S F:=by
 show gp ↑xs c h0 (λi σ H hi p=>?_) λσ H p=>⟨⟨xs,ys,(d _ σ H (JG _) p).1,(d _ σ H (JG _) p).2,.inl (JG _)⟩,hd σ H p⟩
 let⟨f,e⟩:=d i σ H (Kh hi) p
 show⟨⟨xs,ys,xs[i],ys[i],f,e,by simp[hi],by simp[show i<↑ys by omega]⟩,?_⟩
 rintro _ _ ⟨P,l,n,m,rfl,rfl,k,h⟩
 show g i l n P σ _ (k xs f) (h ys e) m p
section
variable {d it v:N8} {o:Nv} {es:Array ND} {i ep:Nat}
theorem C7(hd:(d==NQ)=false)(b:s.heap.get? d>o)(c:o.ExactDict)
  (h:Q (.ref (~~~s)) {s with heap:=s.heap.push {cls:=.type "dict_values",data:=.fields #[.ref d]}}):Na (Nd prog w) A (call (.builtin "dict.values") [.ref d]) Q E s:=by
 let a:s.TypeIs (.ref d) "dict" :=⟨o,b,c.1⟩
 show Ka F.slot_dict_values a F.entry_dict_values ?_ (F.args_dict_values_1 _)
 show JD ?_
 show JD (LI a ?_)
 show JE ?_
 unfold Nc.Dict.showsAll
 rw[N0 (hd<|JR)]
 show JD (JE (JD (KL (JE ⟨_,Z,h⟩))))
theorem Bv(f:s.heap.IsValuesView v d)(g:s.heap.get? d>o)(e:o.data=.dict es ep)
  (h:Q (.ref (~~~s)) {s with heap:=s.heap.push {cls:=.type "dict_valueiterator",data:=.fields #[.ref d,.int 0 0,.int es.size 0,.int ep 0]}}):Na (Nd prog w) A (pyIter (.ref v)) Q E s:=by
 let⟨i,b,c,a⟩:=id f
 show L5 f.typeIs F.slot_dict_values_iter (Ka F.slot_dict_values_iter f.typeIs F.entry_dict_values_iter ?_ (F.args_dict_values_iter_1 _))
 show JD (JE (JD ?_))
 show JD (Ke b a (x:=.ref d) Z (JE (JD ?_)))
 show JD (Kn g e (JD (K5 g e ?_)))
 simp only[show Nc.Dict_items.ownsTuple "dict_valueiterator" =false by decide,LF,if_false]
 show KL (JE ⟨_,Z, "dict_valueiterator",_,⟨_,JT _ Z,Z⟩,F.slot_dict_valueiterator_next.lookup,?_⟩)
 simpa[NI] using h
theorem Br(hit:s.heap.IsValIter it d i es.size ep)(b:s.heap.get? d>o)(a:o.data=.dict es ep)(f:i<es.size)
  (g:∀h',h'.IsValIter it d (i+1) es.size ep->Ng.SameBut it s.heap h'->Q (some es[i].val) {s with heap:=h'}):Na (Nd prog w) A (NG (.ref it)) Q E s:=by
 let⟨h,c,e,hd⟩:=id hit
 show JD (KA (KB (name:=Nh.ofString "__next__") hit.typeIs F.slot_dict_valueiterator_next
  (Ka F.slot_dict_valueiterator_next hit.typeIs F.entry_dict_valueiterator_next ?_ (F.args_dict_valueiterator_next_1 _))))
 show JD (JE (JD (JD ?_)))
 show JD (MD hit.typeIs (JE ?_))
 show JD (wpAny_fieldsOf c hd ?_)
 change Na _ _ (if (N7.ref d==N7.none)=true then _ else _) _ _ s
 show JD (JE (JD (Kn b a ?_)))
 rw[N0 (by simp)]
 show JD (JE (JD (K5 b a ?_)))
 rw[N0 (by simp)]
 show JE ?_
 simp only[show¬((i:Int)<0) from by lia,if_false,Kv,KM f]
 show JD ?_
 show JD (MD hit.typeIs (JE ?_))
 show JD (wpAny_isOneOf_valiter hit.typeIs ?_)
 change Na _ _ (setField (.ref it) 1 (NI ((i:Int)+1))>>=_) _ _ s
 show JD (L6 c hd (by simp) ?_)
 let new:(s.heap.update it (Nv.mapFields (·.setIfInBounds 1 (NI ((i:Int)+1))))).IsValIter it d (i+1) es.size ep:=
  ⟨_,Kr _ c (Nv.isFreed_of_fields (Nv.data_mapFields hd _)),(Nv.cls_mapFields ..).trans e,by rw[Nv.data_mapFields hd];simp[NI]⟩
 show JD (J_ (JD (wpAny_isOneOf_valiter (s:={s with heap:=s.heap.update it (Nv.mapFields (·.setIfInBounds 1 (NI ((i:Int)+1))))}) new.typeIs ?_)))
 show JD (wpAny_isOneOf_valiter (s:={s with heap:=s.heap.update it (Nv.mapFields (·.setIfInBounds 1 (NI ((i:Int)+1))))}) new.typeIs ?_)
 show JE (JE ⟨_,Z,JE (g _ new (Ng.SameBut.update ..))⟩)
theorem Ew(e:A.handled=none)(hit:s.heap.IsValIter it d i es.size ep)(a:s.heap.get? d>o)(b:o.data=.dict es ep)(c:es.size<=i)(f:∀h',L7 it s.heap h'->Q none {s with heap:=h'}):Na (Nd prog w) A (NG (.ref it)) Q E s:=(vB e a b c f).2 hit
end
noncomputable def II (d:N8) (o:Nv) (u:HO):It:=
 ⟨λi H=>H d>.frz o u/\i<ko u,λi H v H'=>H'=H/\∃x,j8 H u i x v,λi H=>H d>.frz o u/\ko u<=i⟩
theorem wk {P:Ni}{W:Nw}(d it:N8)(o:Nv)(u:HO)(B:ml u)(r:Array ND)(D:Nat)(hd:o.data=.dict r D):
  md P w K W (II d o u) [it] it (λi h=>h.IsValIter it d i r.size D) where
 mem:=by simp
 obj:=λi h st b hb=>by
  rw[JJ.mp hb]
  let⟨p,e,c,q⟩:=st
  show⟨p,e,λv z=>by rw[q] at z;cases z⟩
 keep:=λi h h' st k=>Ng.IsValIter.at st λp e=>k it (by simp) p e
 item:=by
  intro X S N M C i O8 s σ H E I hf st hg
  let⟨y,hi⟩:=hg
  let⟨_,g,_,l,m,a,U,f⟩:=gC I.hok y B
  rw[hd] at a;cases a
  let j:i<r.size:=by omega
  let⟨x,v,L,Y,R⟩:=f i j
  show Br st g hd j λh' n sb=>?_
  let T:aH X O8 σ H {s with heap:=h'}:=I.turned (t':=s.toks) hf (λb J hb e=>(sb.2 b hb).trans e)
  let⟨p,e,c,q⟩:=id n
  show⟨_,Z,rG (s:={s with heap:=h'}) e c q (by decide) ⟨v,H,T,R,⟨Z,x,L⟩,n,λb hb=>(hf b hb).1⟩⟩
 done:=by
  intro X S N M C i O8 s σ H E I hf st hg
  let⟨y,hi⟩:=hg
  let⟨_,g,_,l,m,a,U,f⟩:=gC I.hok y B
  rw[hd] at a;cases a
  show Ew (I.ok.hd C) st g hd (by omega) λh' O=>⟨Z,I.turned (t':=s.toks) hf (λb J hb e=>O b J hb e)⟩
 self:=λA i s Q E st h=>by
  show L5 st.typeIs F.slot_dict_valueiterator_iter (Ka F.slot_dict_valueiterator_iter st.typeIs entry_dict_valueiterator_iter ?_ (F.args_dict_valueiterator_iter_1 _))
  show JE ⟨_,Z, "dict_valueiterator",_,st.typeIs,F.slot_dict_valueiterator_next.lookup,h⟩
def GS (te:TE):TI:=λσ H R=>te σ H λx H1=>∃d o u,x=.ref d/\H1 d>.frz o u/\ml u/\R (II d o u) H1
theorem wG(y:PE X e te)
  (i:NU e "values" X.env (eval e X.env)=eval e X.env:=by rfl) (g:(apos.endLine==cpos.line)=true:=by rfl):
  PI X tg (.Call (.Attribute e "values" apos) [] [] cpos) (GS te):=by
 intro O8 s σ H R I h
 show wpAny_Call_method0_late i g (bS (y O8 s σ H _ I h) λv s1 k=>?_)
 let⟨x,H1,I1,r,d,o,u,ex,hd,n,q⟩:=k
 subst ex
 cases(show v=N7.ref d from r)
 let⟨p,c,j,es,ep,f,A,_⟩:=gC I1.hok hd n
 show⟨"dict", "dict.values",F.plainAttrs_dict,F.slot_dict_values,F.type_dict_values,⟨o,c,j.1⟩,λa w=>by cases w;show⟨o,c,j.2.1⟩,Calls.callWith_builtin Z (PySem.evalArgs_none ?_)⟩
 show C7 p c j ?_
 let m:∀b ob,s1.heap.get? b>ob->(s1.heap.push {cls:=.type "dict_values",data:=.fields #[.ref d]}).get? b>ob:=λb ob z=>JK _ z
 show Bv (s:={s1 with heap:=s1.heap.push {cls:=.type "dict_values",data:=.fields #[.ref d]}}) ⟨_,JT _ Z,Z,Z⟩ (m _ _ c) f ?_
 let l:=I1.kept (t':=s1.toks) m
 show⟨_,[(s1.heap.push {cls:=.type "dict_values",data:=.fields #[.ref d]}).objs.size],_,_,H1,Z,l.kept (t':=s1.toks) (λb ob z=>JK _ z),wk d _ o u n es ep f,⟨_,JT _ Z,Z,Z⟩,λb hb=>?_,q⟩
 rw[JJ.mp hb]
 show l.fpOk (JG _) (l.hok.fresh (JG _))
theorem Bb {d:N8}{o:Nv}{u:HO}{S:SV}{F:St->Hp->Prop}(a:Nat->St->Hp->Prop)(h0:a 0 σ H)(b:∀i σ H,i<=ko u->a i σ H->H d>.frz o u)(c:∀i x v σ H,j8 H u i x v->i<ko u->a i σ H->S (a (i+1)) v σ H)(hd:∀σ H,a (ko u) σ H->F σ H):xZ (II d o u) σ H S F:=by
 show gp (ko u) a h0 (λi σ H hi p=>⟨⟨b i σ H (Kh hi) p,hi⟩,?_⟩) λσ H p=>⟨⟨b _ σ H (JG _) p,JG _⟩,hd σ H p⟩
 rintro v _ ⟨rfl,x,k⟩
 show c i x v σ _ k hi p
theorem g9:∀{c d:-Int},c.map V.int=d.map V.int->c=d
 |[],[],_=>rfl
 |[],_::_,h=>by simp at h
 |_::_,[],h=>by simp at h
 |a::c,b::d,h=>by
  injection h with h1 h2
  injection h1 with h1
  rw[h1,g9 h2]
noncomputable def ya (H:Hp) (c:-Int) (u:N7):Bool:=match u with
 | .ref a=> @decide (H a>.tup (c.map V.int)) (Classical.propDecidable _)
 |_=>false
theorem yK(h:H a>.tup (d.map V.int)):ya H c (.ref a)=decide (d=c):=by
 change @decide (H a>.tup (c.map V.int)) (Classical.propDecidable _)=decide (d=c)
 by_cases e:d=c
 ·subst e
  rw[N3 (rfl:d=d)]
  show @N3 _ (Classical.propDecidable _) h
 ·rw[N5 e]
  show @N5 _ (Classical.propDecidable _) λz=>e ?_
  rw[h] at z
  injection z with z
  injection z with z
  show g9 z
def se (K:JI) (a:Bool):R2:=λx y H Q=>∃(b p:N8) (as:-N8) (c:-Int) (cs:-(-Int)),x=.ref b/\y=.ref p/\H b>.tup (c.map V.int)/\aN K H p (as.map V.ref)/\bH H as cs/\Q (.bl (if a then !decide (c∈cs) else decide (c∈cs))) H
theorem pA{b:-(-Int)}(g:bH H as b):(as.map N7.ref).any (ya H c)=decide (c∈b):=by
 induction g with
 |nil=>simp
 | @cons a d as b r t ih=>
  rw[JW,List.any_cons,yK r,ih]
  by_cases h:d=c
  ·subst h;simp
  ·have:¬c=d:=λz=>h z.symm
   simp[h,this]
theorem pq(i:aT k X.A)(I:aH X O8 σ H s){b:N8}{c:-Int}(e:H b>.tup (c.map V.int)){as:-N8}{f:-(-Int)}(g:bH H as f):∀u∈as.map N7.ref,SeqAt.EqAt X.A.in1 s u (.ref b) (ya H c u):=by
 induction g with
 |nil=>show λu hu=>by simp at hu
 | @cons a d as f r t ih=>
  intro u hu
  rw[JW] at hu
  rcases JO.mp hu with rfl|hu
  ·let⟨l,h⟩:=(Dp.ints (K:=X.K) (ns:=d) (a_.of r)).reads I (u:=.ref a) Z
   let⟨m,j⟩:=(Dp.ints (K:=X.K) (ns:=c) (a_.of e)).reads I (u:=.ref b) Z
   have:=i.units
   let h1:=jY d
   rw[yK r,<-oj]
   show SeqAt.eqAt_reads _ _ _ _ _ _ _ _ h j (Dp.ints (K:=X.K) (H:=H) (a_.of r)).lay (Dp.ints (K:=X.K) (H:=H) (a_.of e)).lay (by change X.A.units+1+_<_;lia)
  ·show ih u hu
theorem yx(i:aT k X.A):gj X (Nk .In) (se X.K false):=by
 intro O8 s σ H x y v u Q I e f h
 let⟨b,p,as,c,cs,rfl,rfl,hb,hp,ht,q⟩:=h
 cases e
 cases f
 let⟨a,j,g,l⟩:=I.list hp
 cases fz j
 show SeqAt.in_listAt (ya H c) g.isList (λw d=>pq i I hb ht w (by simpa using d)) ⟨.bl _,H,I,Z,?_⟩
 rw[show(as.map N7.ref).toArray.any (ya H c)=(as.map N7.ref).any (ya H c) by simp,pA ht]
 show q
theorem ng(i:aT k X.A):gj X (Nk .NotIn) (se X.K true):=by
 intro O8 s σ H x y v u Q I e f h
 let⟨b,p,as,c,cs,rfl,rfl,hb,hp,ht,q⟩:=h
 cases e
 cases f
 let⟨a,j,g,l⟩:=I.list hp
 cases fz j
 show SeqAt.notIn_listAt (ya H c) g.isList (λw d=>pq i I hb ht w (by simpa using d)) ⟨.bl _,H,I,Z,?_⟩
 rw[show(as.map N7.ref).toArray.any (ya H c)=(as.map N7.ref).any (ya H c) by simp,pA ht]
 show q
theorem zN{a:-(-Int)}(f:Ev ta σ H (.ref b))(d:Ev tb σ H (.ref p))(h1:H b>.tup (c.map V.int))(g:aN K H p (as.map V.ref))(e:bH H as a):Ev (e9 (se K false) ta tb) σ H (.bl (decide (c∈a))):=
 λ_ q=>f _ (d _ ⟨b,p,as,c,a,Z,Z,h1,g,e,q⟩)
theorem mW{a:-(-Int)}(f:Ev ta σ H (.ref b))(d:Ev tb σ H (.ref p))(h1:H b>.tup (c.map V.int))(g:aN K H p (as.map V.ref))(e:bH H as a):Ev (e9 (se K true) ta tb) σ H (.bl (!decide (c∈a))):=
 λ_ q=>f _ (d _ ⟨b,p,as,c,a,Z,Z,h1,g,e,q⟩)
noncomputable def pE (f:Nat->Nat):Nat->Nat->Bool
 |0,_=>true
 |n+1,acc=>!(acc.testBit (f n))&&pE f n (acc|||(1<<<f n))
theorem nP {f:Nat->Nat}:∀{n a:Nat},pE f n a=true->∀i<n,a.testBit (f i)=false/\∀j<n,f j=f i->j=i
 |0,_,_,i,hi=>absurd hi (KJ _)
 |n+1,a,h,i,hi=>by
  unfold pE at h
  rw[Kd] at h
  let⟨h1,h2⟩:=h
  let h1:a.testBit (f n)=false:=by simpa using h1
  let d:=nP h2
  let key:∀k<n,a.testBit (f k)=false/\f k≠f n:=λk g=>by
   have:=(d k g).1
   rw[Nat.testBit_or,Bool.or_eq_false_iff] at this
   show⟨this.1,λe=>?_⟩
   let c:=this.2
   rw[e,Nat.testBit_shiftLeft] at c
   simp at c
  by_cases e:i=n
  ·subst e
   show⟨h1,λj l b=>?_⟩
   by_cases e2:j=i
   ·show e2
   ·show absurd b (key j ()).2
  ·show⟨(key i ()).1,λj l b=>?_⟩
   by_cases e2:j=n
   ·subst e2;show absurd b.symm (key i ()).2
   ·show(d i ()).2 j () b
noncomputable def x_ (k:Nat):Int:=reduceHash (Nc.Tuple.tupleHashOf [((k/256:Nat):Int),((k/16%16:Nat):Int),((k%16:Nat):Int)])
def IW (k:Nat):Nat:=(x_ k%14941).toNat
theorem ET:pE IW 1024 0=true:=by decide+kernel
theorem CN(a:i<1024)(b:j<1024)(e:x_ i=x_ j):i=j:=(nP ET j b).2 i a (by unfold IW;rw[e])
theorem fQ:∀c:-Int,(c.map Sum.inl:-cP).map kV=c.map V.int
 |[]=>rfl
 |a::c=>by rw[JW,JW,JW,fQ c];rfl
section
variable {κ:Type} [DecidableEq κ] {knd:HeapKind prog w κ}
theorem rm{f:-(κ×N8×N7)}{k:κ}(q:knd.room A)(m:knd.is s.heap k b)(z:s.heap.DictOfH knd d f)
  (h1:∀p,atKey f k>p->Q p.2 {s with toks:=s.toks+knd.draws k})
  (C:atKey f k=none->∀h',h'.DictOfH knd d (storedH f k b v)->Ng.SameBut d s.heap h'->Q v {s with heap:=h',toks:=s.toks+knd.draws k})
  (hsz:↑f<=N9):Na (Nd prog w) A (dictSetDefault d (.ref b) v) Q E s:=by
 let⟨F,D,ep,g,B,hd,l,a,n⟩:=z
 unfold dictSetDefault
 try with_reducible show J_ ?_
 show JD (knd.pyHash q m ?_)
 show JD (wpAny_dictFind_heap (s:={s with toks:=s.toks+knd.draws k}) q m g hd l a n (λh=>?_) λj p r=>?_)
 ·let i:=atKey_none_of_get h
  let c:k∉f.map (·.1):=not_mem_keys_of_get h
  let o:storedH f k b v=f++[(k,b,v)]:=storedH_new i b v
  show JD (Lp (JD (wpAny_updateDictKeys (hz:=by let e:=size_of_entries l;lia) (s:={s with toks:=s.toks+knd.draws k}) g hd
   (JE (C i _ ⟨_,_,ep+1,Kr _ g (Nv.isFreed_of_dict (Nv.data_mapDictKeys hd _)),B.mapDictKeys _,Nv.data_mapDictKeys hd _,?_,?_,?_⟩ (Ng.SameBut.update ..))))))
  ·rw[o];simp[l,entryOfKey]
  ·rw[o]
   intro x hx
   rcases J3.mp hx with hx|hx
   ·show knd.keeps (a x hx) g hd (Ng.SameBut.update ..)
   ·cases JJ.mp hx
    show knd.keeps m g hd (Ng.SameBut.update ..)
  ·rw[o,JM,Lc]
   show⟨n,by simp,λx hx y u=>?_⟩
   cases JJ.mp u
   show λe=>c ((show x=k from e)▸hx)
 ·let i:=atKey_of_get n r
  show JD (Kn (s:={s with toks:=s.toks+knd.draws k}) g hd ?_)
  rw[entry_at l j,r]
  show JD (Lp (JE (h1 p i)))
end
noncomputable def vJ:V->-V->Hp->VK->Prop:=λx vs H Q=>∃a b c k y,x=.ref a/\vs=[.ref b,y]/\H a>.dT c/\H b>.tup (k.map kV)/\↑c<N9/\
 (∀v,aE c k>v->Q v H)/\(aE c k=none->Q y (Ob H a (.dT (bC c k y))))
theorem nB(P:aT j X.A):Gx X "dict.setdefault" vJ:=by
 intro O8 s σ H x vs v U Q I O R h
 let⟨a,b,d,k,y,rfl,rfl,i,r,l,K,E⟩:=h
 cases O
 let⟨W,m,rfl,w,u⟩:=fe R
 cases w
 let⟨z,hd,xs,f,n⟩:=zv I.hok i
 let M:↑xs<=N9:=by rw[<-Nb.length f];show z
 let B:↑(bC d k y)<=N9:=by have:=dZ d k y;lia
 let D:X.A.units+1<NE:=aT.one P
 show Ka ML n.typeIs PySem.F.entry_dict_setdefault ?_ (PySem.F.args_dict_setdefault_3 _ _ _)
 unfold Nc.«dict.setdefault»
 show JD ?_
 unfold Nc.Dict.keyAndDefault
 show JD (LI n.typeIs ?_)
 change Na _ _ (pure (a,N7.ref b,some m)) _ _ s
 show JE ?_
 change Na _ _ (if (a==NQ)=true then _ else (dictSetDefault a (.ref b) m>>=_)) _ _ s
 rw[N0 (hd<|JR)]
 show JD (rm (NA D) (gy I.hok r) n (λp hp=>JE ⟨p.2,Z,?_⟩) (λT h' g C=>JE ⟨m,Z,?_⟩) M)
 ·have:=f.val k
  rw[hp] at this
  cases e:aE d k with
  |none=>rw[e] at this;show this.elim
  |some v=>rw[e] at this;show⟨v,H,I.tok _,this,K v e⟩
 ·have:=f.val k
  rw[T] at this
  cases e:aE d k with
  |some v=>rw[e] at this;show this.elim
  |none=>
   let⟨q,es,ep,hq,S,N,L,_,J⟩:=g
   show⟨y,_,o7 (ob:=.dT (bC d k y)) I (i<|True.intro) C ⟨q,hq⟩ ⟨B,hd,_,(f.put k r u).keeps λc ys o=>?_,q,es,ep,hq,S,N,L,J⟩,u,E e⟩
   rw[aj (bz o i (λz=>by cases z))]
   show o
noncomputable def zE:V->-V->Hp->VK->Prop:=λx vs H Q=>∃a y z o,x=.ref a/\vs=[y,z]/\fX H a y o/\Q (o.getD z) H
theorem fh(d:aT j X.A):Gx X "dict.get" zE:=by
 intro O8 s σ H x vs v k Q I c e h
 let⟨a,y,z,o,rfl,rfl,g,q⟩:=h
 cases c
 let⟨m,n,rfl,b,f⟩:=fe e
 show F5 (aT.one d) I g b f λl s' I' i=>⟨_,H,I',i,q⟩
theorem lr(e:X.K=K)(a:aT k X.A):gj X (Nk .NotIn) (se K true):=by subst e;show ng a
theorem kF (e:X.K=K):Fk X (lE K):=by subst e;show aD
theorem jv (e:X.K=K):Fk X (jF K):=by subst e;show aQ
noncomputable def rO:CmpOp->-Int->-Int->Bool
 | .LtE,a,b=>!HT.lexLt b a
 | .Gt,a,b=>HT.lexLt b a
 |_,a,b=>HT.lexLt a b
abbrev O3 (op:CmpOp):Prop:=op=.Lt\/op=.LtE\/op=.Gt
section
variable {op:CmpOp} (hm:O3 op)
include hm
theorem uV (x y:Int)(xs ys:-Int):rO op (x::xs) (y::ys)=if x=y then rO op xs ys else rO op [x] [y]:=by
 by_cases h:x=y
 ·subst h;rcases hm with rfl|rfl|rfl<;>simp[rO,HT.lexLt]
 ·rcases hm with rfl|rfl|rfl<;>simp[rO,HT.lexLt,h,JH h]
theorem Fv (l:-Int):rO op l l=rO op [] []:=by
 rcases hm with rfl|rfl|rfl<;>simp[rO,cR]
theorem Jf(h:Q (.bool (rO op [a] [c])) s):Na (Nd prog w) A (NP op (.int a t) (.int c u)) Q E s:=by
 let b:∀a c:Int,HT.lexLt [a] [c]=decide (a<c):=λa c=>by
  by_cases e:a=c<;>simp[HT.lexLt,e]
 rcases hm with rfl|rfl|rfl<;>simp only[rO,b,Bw] at h
 ·show(PyProof.Rows.lt_int h:Na (Nd prog w) A (Nk .Lt (.int a t) (.int c u)) Q E s)
 ·show(PyProof.Rows.le_int h:Na (Nd prog w) A (Nk .LtE (.int a t) (.int c u)) Q E s)
 ·show(PyProof.Rows.gt_int h:Na (Nd prog w) A (Nk .Gt (.int a t) (.int c u)) Q E s)
theorem Jj:∀{ns a:-Int} {c b:-N7},ns.length=↑a->aZ (ns.map V.int) c->aZ (a.map V.int) b->∃cs,Cs A s op c b cs/\res cs (rO op [] [])=rO op ns a
 |[],[],_,_,_,r1,r2=>by
  cases r1;cases r2
  show⟨[],.nil,Z⟩
 |[],_::_,_,_,h,_,_=>by simp at h
 |_::_,[],_,_,h,_,_=>by simp at h
 |n::ns,m::a,c,b,h,r1,r2=>by
  rw[JW] at r1 r2
  cases r1 with
  |cons q1 r1=>
   cases r2 with
   |cons q2 r2=>
    let⟨d,rfl⟩:=q1
    let⟨f,rfl⟩:=q2
    let⟨cs,h1,h2⟩:=Jj (by simpa using h) r1 r2
    show⟨(decide (n=m),rO op [n] [m])::cs,.cons (DN A s n d m f) (λ_ prog g E Q=>Jf hm) h1,?_⟩
    rw[uV hm n m ns a]
    by_cases e:n=m
    ·rw[N3 e,N1 e];show h2
    ·rw[N5 e,N0 e];rfl
end
section
open PySem.SeqAt
open PySem.AutoSeq1 (wpAny_loadPart')
open PySem.MeetsSeq PySem.MeetsSeq2 PySem.MeetsSeq3
set_option maxHeartbeats 0 in
theorem AZ:∃c:String->CmpOp->Nc,Nc.«tuple.__lt__»=c "__lt__" .Lt/\Nc.«tuple.__le__»=c "__le__" .LtE/\Nc.«tuple.__gt__»=c "__gt__" .Gt/\
  ∀{nm:String} {op:CmpOp} (_:O3 op) (l b:N8) (j i:Array N7) (n z:Nat) (B o:Option N8) (C q:Array (Option N7)),Meets (c nm op ⟨[.ref l,.ref b],[]⟩)
   (λA R s=>s.heap.get? l=some {cls:=.type "tuple",dict:=B,data:=.seq j n,slots:=C}/\s.heap.get? b=some {cls:=.type "tuple",dict:=o,data:=.seq i z,slots:=q}/\
    ∃cs,Cs A.in1 s op j.toList i.toList cs/\R (.ok (.ret (.bool (res cs (rO op [] []))))) s):=by
 show⟨_,Z,Z,Z,fun{nm op} hm l b j i n z B o C q=> .of_wp λprog w A R s h=>?_⟩
 let⟨hp,g,d,tk,os⟩:=s;let⟨D,hb,cs,f,h⟩:=h
 let H:=AutoSeq1.sub_tuple_tuple
 let E:j.size=i.size:=by have:=f.len;simpa using this
 wp_walk using Nz D,Nz hb,wpAny_forIn_list _ (λrest b s'=>b.1=none/\s'=⟨hp,g,d,tk,os⟩/\∃(vs p:-N7) (cs:-(Bool×Bool)),rest=vs.zip p/\
   Cs A.in1 ⟨hp,g,d,tk,os⟩ op vs p cs/\R (.ok (.ret (.bool (res cs (rO op [] []))))) ⟨hp,g,d,tk,os⟩) _
 case turn=>
  rintro⟨y,x⟩ rest b s' ⟨m,rfl,vs,p,cs,k,u,r⟩
  cases u with
  |nil=>rw[List.zip_nil_left] at k;cases k
  | @cons v w' e b' vs p cs he a t=>
    rw[List.zip_cons_cons] at k
    injection k with hyx hrest
    injection hyx with hy hx
    subst hy hx
    show JD (he prog w _ _ ?_)
    cases e with
    |true=>
     wp_walk
     show⟨Z,Z,_,_,_,hrest,t,r⟩
    |false=>
     let a:=a Z prog w
     rcases hm with rfl|rfl|rfl<;>(wp_walk using a;show⟨_,Z,by simpa[res] using r⟩)
 case fin=>
  rintro⟨F,b2⟩ s' ⟨m,rfl,vs,p,cs,k,u,r⟩
  simp only at m
  subst m
  cases u with
  |cons he a t=>rw[List.zip_cons_cons] at k;cases k
  |nil=>
   wp_walk
   show⟨_,Z,by rcases hm with rfl|rfl|rfl<;>simpa[Nc.Tuple.tupleCompareSizes,E,res,rO,HT.lexLt] using r⟩
 case h=>
  show⟨Z,Z,j.toList,i.toList,cs,Z,f,h⟩
end
section
variable {Q:N7->N_->Prop}
theorem vQ{q:-(Bool×Bool)}(I:O3 op)(B:IsTup s.heap l us.toArray)(D:IsTup s.heap b ws.toArray)(h1:Cs A.in1 s op us ws q)
  (u:A.units<NE) (h:Q (.bool (res q (rO op [] []))) s):Na (Nd prog w) A (NP op (.ref l) (.ref b)) Q E s:=by
 let⟨⟨o,v,j,y⟩,p,z,n,hd⟩:=id B
 let⟨⟨k,d,i,e⟩,a,f,r,g⟩:=id D
 simp only at z hd f g
 subst z hd f g
 let⟨c,H,C,J,M⟩:=AZ
 rcases I with rfl|rfl|rfl
 ·let m:=M (nm:= "__lt__") (.inl Z) l b us.toArray ws.toArray n r v d y e
  rw[<-H] at m
  show richCompare_meets_room (op:=.Lt) ⟨_,p,Z⟩ ⟨_,a,Z⟩ PySem.F.slot_tuple_lt PySem.F.entry_tuple_lt (PySem.F.args_tuple_lt_2 _ _) m ⟨p,a,q,h1,⟨(λx=>by cases x),h⟩⟩ u
 ·let m:=M (nm:= "__le__") (.inr (.inl Z)) l b us.toArray ws.toArray n r v d y e
  rw[<-C] at m
  show richCompare_meets_room (op:=.LtE) ⟨_,p,Z⟩ ⟨_,a,Z⟩ PySem.F.slot_tuple_le PySem.F.entry_tuple_le (PySem.F.args_tuple_le_2 _ _) m ⟨p,a,q,h1,⟨(λx=>by cases x),h⟩⟩ u
 ·let m:=M (nm:= "__gt__") (.inr (.inr Z)) l b us.toArray ws.toArray n r v d y e
  rw[<-J] at m
  show richCompare_meets_room (op:=.Gt) ⟨_,p,Z⟩ ⟨_,a,Z⟩ PySem.F.slot_tuple_gt PySem.F.entry_tuple_gt (PySem.F.args_tuple_gt_2 _ _) m ⟨p,a,q,h1,⟨(λx=>by cases x),h⟩⟩ u
variable {a b:N8} {c d:-Int} (I:aH X O8 σ H s) (ha:a_ X.K H a (c.map V.int)) (hb:a_ X.K H b (d.map V.int))
include I ha hb
theorem zG(e:O3 op)(g:↑c=↑d)(h:A.units<NE)(q:Q (.bool (rO op c d)) s):Na (Nd prog w) A (NP op (.ref a) (.ref b)) Q E s:=by
 let⟨i1,f,j,_⟩:=I.tuple ha
 let⟨i2,i,p2,_⟩:=I.tuple hb
 let⟨cs,h1,h2⟩:=Jj e (A:=A.in1) (s:=s) g f i
 rw[<-h2] at q
 show vQ e j p2 h1 h q
theorem HL (i:A.units+10<NE):SeqAt.EqAt A s (.ref a) (.ref b) (decide (c=d)):=by
 let e:=Dp.ints ha
 let f:=Dp.ints hb
 let⟨as,g⟩:=e.reads I Z
 let⟨bs,h⟩:=f.reads I Z
 let hd:=jY c
 have:=SeqAt.eqAt_reads _ _ A s _ _ as bs g h e.lay f.lay (LV (Nat.add_le_add_left (J1 (Nat.min_le_left _ _) hd) _) ())
 rw[oj] at this
 show this
end
section
variable {R:Result->N_->Prop} {it:N8} {fp wr:-N8} {P:Nat->N7->Prop} {St:Nat->Ng->Prop}
structure MB (n m:String) (b bl:Nc) (op:CmpOp):Prop where
 k:builtinKind n=none
 p:plainId n=true
 e:entryFor table n>b
 a:∀x y:N7,argsOk n {pos:=[x,y]}
 lp:plainId m=true
 le:entryFor table m>bl
 c:n= "min" /\m= "min.loop" /\b=Nc.min/\bl=Nc.«min.loop»/\op=.Lt\/n= "max" /\m= "max.loop" /\b=Nc.max/\bl=Nc.«max.loop»/\op=.Gt
theorem Au{b bl:Nc}(M:MB n m b bl op)(W:Walks prog w A.in1 it fp wr 2 P St){bx:N8}(hf:bx∉fp){v:N7}{c:Nat}(st:St 2 s.heap)(d:s.heap.get? bx=some {cls:=.type "list",dict:=none,data:=.seq #[v,v] c,slots:= #[]})
  (i:∀h' tk,(∀b o,b∉wr->b≠bx->s.heap.get? b>o->h'.get? b>o)->R (.ok (.ret v)) {s with heap:=h',toks:=tk}):NK (Nd prog w) A (.builtin m ⟨[.ref it,.none,.ref bx],[]⟩) R s:=by
 let g:bx∉wr:=λh=>hf (W.sub _ h)
 show Nt M.le ?_
 rw[Nu.under_plainId M.lp _]
 rcases M.c with ⟨rfl,rfl,rfl,rfl,rfl⟩|⟨rfl,rfl,rfl,rfl,rfl⟩<;>
 focus
  change Na _ A.in1 (seqItems? (.ref bx)>>=_) _ _ s
  show JD (KC d Z ?_)
  change Na _ A.in1 (tryCatch (NG (.ref it)) _>>=_) _ _ s
  show JD (wpAny_tryCatch (W.done s _ _ st λh' tk k=>?_))
  let a:=k bx _ g d
  change Na _ A.in1 (updateSeq bx (λ_=> #[])>>=_) _ _ _
  show JD (Lq a Z (JD (Lb (JE (i _ tk λb o f b2 e=>(KS _ _ (JH b2)).trans (k b o f e))))))
set_option maxHeartbeats 0 in
theorem BP{b bl:Nc}(M:MB n m b bl op)(W:Walks prog w A.in1 it fp wr 2 P St){bx:N8}(hf:bx∉fp){x y:N7}{d:Bool}{c:Nat}(h0:∀v,P 0 v->v=x)(h1:∀v,P 1 v->v=y)(st:St 0 s.heap)
  (J:s.heap.get? bx=some {cls:=.type "list",dict:=none,data:=.seq #[] c,slots:= #[]})
  (O:∀h' tk (Q:N7->N_->Prop) (E:N7->N_->Prop),(∀b o,b∉wr->b≠bx->s.heap.get? b>o->h'.get? b>o)->Q (.bool d) {s with heap:=h',toks:=tk}->Na (Nd prog w) A.in1 (NP op y x) Q E {s with heap:=h',toks:=tk})
  (L:∀h' tk,(∀b o,b∉wr->b≠bx->s.heap.get? b>o->h'.get? b>o)->R (.ok (.ret (if d=true then y else x))) {s with heap:=h',toks:=tk}):NK (Nd prog w) A (.builtin m ⟨[.ref it,.none,.ref bx],[]⟩) R s:=by
 let I:bx∉wr:=λh=>hf (W.sub _ h)
 let F:(toString "min" ++toString ".loop" :String)= "min.loop" :=by decide
 let r:(toString "max" ++toString ".loop" :String)= "max.loop" :=by decide
 let un:∀{h h':Ng} {i:Nat},St i h->(∀b o,b≠bx->h.get? b>o->h'.get? b>o)->St i h':=λq k=>W.frame _ _ _ q λb T o e=>k b o (λz=>hf (z▸T)) e
 show Nt M.le ?_
 rw[Nu.under_plainId M.lp _]
 rcases M.c with ⟨rfl,rfl,rfl,rfl,rfl⟩|⟨rfl,rfl,rfl,rfl,rfl⟩<;>
 focus
  change Na _ A.in1 (seqItems? (.ref bx)>>=_) _ _ s
  show JD (KC J Z ?_)
  change Na _ A.in1 (tryCatch (NG (.ref it)) _>>=_) _ _ s
  show JD (wpAny_tryCatch (W.item 0 s _ _ (by decide) st λv U S u C H=>?_))
  cases h0 v u
  let a:=H bx _ I J
  change Na _ A.in1 (updateSeq bx (λ_=> #[x,x])>>=_) _ _ _
  show JD (Lq a Z ?_)
  simp only[F,r]
  show JE ⟨Ny M.lp _,?_⟩
  let g:=Kr (λo=>{o with data:=.seq #[x,x] (c+1)}) a Z
  show Nt M.le ?_
  rw[Nu.under_plainId M.lp _]
  change Na _ A.in1 (seqItems? (.ref bx)>>=_) _ _ _
  show JD (KC (Kr _ a Z) Z ?_)
  change Na _ A.in1 (tryCatch (NG (.ref it)) _>>=_) _ _ _
  show JD (wpAny_tryCatch (W.item 1 _ _ _ (by decide) (un C λb o b2 e=>(KS _ _ (JH b2)).trans e) λv N D u l K=>?_))
  cases h1 v u
  let f:=K bx _ I (Kr _ a Z)
  let B:∀b o,b∉wr->b≠bx->s.heap.get? b>o->N.get? b>o:=λb o j b2 e=>K b o j ((KS _ _ (JH b2)).trans (H b o j e))
  change Na _ A.in1 (tryCatch (holding [y,y] (NP _ y x>>=_)) _>>=_) _ _ _
  show JD (wpAny_tryCatch (J_ (JD (O N D _ _ B ?_))))
  show JD (J_ (K8 (JD (Lb (JE ?_)))))
  cases d with
  |true=>
   simp only[if_true]
   show JD (Lq f Z (JD (Lb ?_)))
   simp only[F,r]
   show JE ⟨Ny M.lp _,Au M W hf (un l λb o b2 e=>(KS _ _ (JH b2)).trans e) (Kr _ f Z) λh' tk p=>?_⟩
   show L h' tk λb o j b2 e=>p b o j b2 ((KS _ _ (JH b2)).trans (B b o j b2 e))
  |false=>
   simp only[LF,if_false]
   show JD (Lb ?_)
   simp only[F,r]
   show JE ⟨Ny M.lp _,Au M W hf l f λh' tk p=>L h' tk λb o j b2 e=>p b o j b2 (B b o j b2 e)⟩
end
set_option maxHeartbeats 0 in
theorem vA{b bl:Nc}(M:MB n m b bl op){x y:N7}{d:Bool}{Q:N7->N_->Prop}(r:A.handled=none)
  (B:∀h' tk (Q:N7->N_->Prop) (E:N7->N_->Prop),(∀b o,s.heap.get? b>o->h'.get? b>o)->Q (.bool d) {s with heap:=h',toks:=tk}->Na (Nd prog w) A.in1 (NP op y x) Q E {s with heap:=h',toks:=tk})
  (u:∀h' tk,(∀b o,s.heap.get? b>o->h'.get? b>o)->Q (if d=true then y else x) {s with heap:=h',toks:=tk}):Na (Nd prog w) A (call (.builtin n) [x,y]) Q E s:=by
 let z:(toString "min" ++toString ".loop" :String)= "min.loop" :=by decide
 let l:(toString "max" ++toString ".loop" :String)= "max.loop" :=by decide
 let j:(s.heap.push {cls:=.type "tuple",data:=.seq #[x,y]}).IsTuple (~~~s) #[x,y]:=⟨_,JT _ Z,Z,0,Z⟩
 let a:(s.heap.push {cls:=.type "tuple",data:=.seq #[x,y]}).objs.size= ~~~s+1:=Kq ..
 show call_function_tree M.k M.p M.e (M.a _ _) ?_
 rcases M.c with ⟨rfl,rfl,rfl,rfl,rfl⟩|⟨rfl,rfl,rfl,rfl,rfl⟩<;>
 focus
  change Na _ A.in1 (Nc.Builtins.bindParams _ ["key", "default"] 0 ⟨[],[]⟩>>=_) _ _ _
  show JD (wpAny_of_eq (show Nc.Builtins.bindParams _ ["key", "default"] 0 ⟨[],[]⟩=pure [none,none] by rfl) ?_)
  change Na _ A.in1 (newTuple [x,y]>>=_) _ _ _
  show JD (KL (JD (wpAny_pyIter_tuple j ?_)))
  rw[a]
  let f:((s.heap.push {cls:=.type "tuple",data:=.seq #[x,y]}).push {cls:=.type "tuple_iterator",data:=.fields #[.ref (~~~s),.int 0 0]}).objs.size= ~~~s+2:=by rw[Kq,a]
  show JD (KL ?_)
  simp only[z,l]
  show JE ⟨Ny M.lp _,?_⟩
  let W:=Walks.tuple (prog:=prog) (w:=w) (A:=A.in1) r (~~~s+1) (~~~s) (JP (Lz _)) #[x,y]
  let g:∀{h':Ng},(∀b o,b∉[~~~s+1]->b≠~~~s+2->(((s.heap.push {cls:=.type "tuple",data:=.seq #[x,y]}).push {cls:=.type "tuple_iterator",data:=.fields #[.ref (~~~s),.int 0 0]}).push {cls:=.type "list",data:=.seq #[]}).get? b>o->h'.get? b>o)->∀b o,s.heap.get? b>o->h'.get? b>o:=λk b o e=>by
   show k b o (λhm=>JP (K4 (JN e)) (JJ.mp hm)) (JP (K4 (K4 (JN e)))) (JK _ (JK _ (JK _ e)))
  rw[f]
  show BP M (d:=d) W (bx:= ~~~s+2) (by simp) (λv i=>by simpa using i.symm) (λv i=>by simpa using i.symm) ?_ (c:=0) ?_ (λh' tk Q E k q=>B h' tk Q E (g k) q) (λh' tk k=>u h' tk (g k))
  ·let h:((s.heap.push {cls:=.type "tuple",data:=.seq #[x,y]}).push {cls:=.type "tuple_iterator",data:=.fields #[.ref (~~~s),.int 0 0]}).get? (~~~s+1)=some {cls:=.type "tuple_iterator",data:=.fields #[.ref (~~~s),.int 0 0]}:=by
    rw[<-a];show JT _ Z
   show⟨⟨_,JK _ h,Z,Z⟩,(j.push _).push _⟩
  ·rw[<-f];show JT _ Z
theorem xq(i:X.calm=true)(j:aT k X.A):cy X (.builtin "min") (λxs H Q=>∃a b c d,xs=[.ref a,.ref b]/\H a>.tup (c.map V.int)/\H b>.tup (d.map V.int)/\↑c=↑d/\Q (.ref (if HT.lexLt d c=true then b else a)) H):=by
 intro O8 s σ H xs n Q I r h
 let⟨a,b,c,d,rfl,ha,hb,g,q⟩:=h
 let⟨o,p,rfl,f,l⟩:=fe r
 cases f
 cases l
 let m:=j.un
 show vA ⟨F.kind_min,F.plain_min,F.entry_min,F.args_min2,F.plain_min_loop,F.entry_min_loop,.inl ⟨Z,Z,Z,Z,Z⟩⟩ (I.ok.hd i) (d:=HT.lexLt d c) (λh' tk Q E e q=>zG (I.kept e) (a_.of hb) (a_.of ha) (.inl Z) g.symm (by change X.A.units+1<NE;lia) q) λh' tk e=>⟨_,H,I.kept e,?_,q⟩
 cases HT.lexLt d c<;>rfl
theorem xt(i:X.calm=true)(j:aT k X.A):cy X (.builtin "max") (λxs H Q=>∃a b c d,xs=[.ref a,.ref b]/\H a>.tup (c.map V.int)/\H b>.tup (d.map V.int)/\↑c=↑d/\Q (.ref (if HT.lexLt c d=true then b else a)) H):=by
 intro O8 s σ H xs n Q I r h
 let⟨a,b,c,d,rfl,ha,hb,g,q⟩:=h
 let⟨o,p,rfl,f,l⟩:=fe r
 cases f
 cases l
 let m:=j.un
 show vA ⟨F.kind_max,F.plain_max,F.entry_max,F.args_max2,F.plain_max_loop,F.entry_max_loop,.inr ⟨Z,Z,Z,Z,Z⟩⟩ (I.ok.hd i) (d:=HT.lexLt c d) (λh' tk Q E e q=>zG (I.kept e) (a_.of hb) (a_.of ha) (.inr (.inr Z)) g.symm (by change X.A.units+1<NE;lia) q) λh' tk e=>⟨_,H,I.kept e,?_,q⟩
 cases HT.lexLt c d<;>rfl
theorem uG:∀{a c:-Int} (b d:-Int),↑a=↑c->HT.lexLt (a++b) (c++d)=if a=c then HT.lexLt b d else HT.lexLt a c
 |[],[],b,d,_=>by simp
 |[],_::_,_,_,h=>by simp at h
 |_::_,[],_,_,h=>by simp at h
 |x::a,y::c,b,d,h=>by
  rw[List.cons_append,List.cons_append,HT.lexLt_cons,HT.lexLt_cons,uG b d (by simpa using h)]
  by_cases e:x=y
  ·subst e
   simp only[if_true,List.cons.injEq,true_and]
  ·simp only[e,if_false,List.cons.injEq,false_and]
abbrev Df:=-Int×-Int
def rZ (e:Df):-Int:=e.1++e.2
abbrev eB (H:Hp) (as:-N8) (ls:-Df):Prop:=Nb (λa (e:Df)=>∃x y,H a>.tup [.ref x,.ref y]/\H x>.tup (e.1.map V.int)/\H y>.tup (e.2.map V.int)) as ls
theorem eB.at {as:-N8}{b:-Df}{i:Nat}{a:N8}(g:eB H as b)(e:as[i]?>a):∃c x y,b[i]?>c/\H a>.tup [.ref x,.ref y]/\H x>.tup (c.1.map V.int)/\H y>.tup (c.2.map V.int):=by
 induction g generalizing i with
 |nil=>simp at e
 | @cons p c as b h t ih=>
  cases i with
  |zero=>
   cases e
   let⟨x,y,h1,h2,d⟩:=h
   show⟨c,x,y,Z,h1,h2,d⟩
  |succ i=>show ih (i:=i) e
theorem eB.same{cs:-Df}(h:eB H as cs)(e:aw H H'):eB H' as cs:=Nb.mapP h λ_ _ a=>by let⟨x,y,h1,h2,b⟩:=a;show⟨x,y,e _ _ h1,e _ _ h2,e _ _ b⟩
theorem eB.tups{cs:-Df}(h:eB H as cs)(e:∀b xs,H b>.tup xs->H' b>.tup xs):eB H' as cs:=Nb.mapP h λ_ _ a=>by let⟨x,y,h1,h2,c⟩:=a;show⟨x,y,e _ _ h1,e _ _ h2,e _ _ c⟩
theorem B3(I:aH X O8 σ H s)(k:∀b u,b≠X.env.locals->s.heap.get? b>u->h'.get? b>u){as:-N8}{r:-Df}(g:eB H as r):
  ∃fs:-N7,LW h' (as.map N7.ref) fs/\↑fs=↑as/\∀v∈fs,∃x o,v=N7.ref x/\h'.get? x>o/\o.cls=.type "tuple" :=by
 induction g with
 |nil=>show⟨[],LW.nil,Z,λ_ h=>by cases h⟩
 | @cons a c as r h t ih=>
  let⟨fs,h1,h2,D⟩:=ih
  let⟨x,y,p,B,O⟩:=h
  let q:∀{b:N8} {o:HO},H b>o->b≠X.env.locals:=λe z=>by rw[z,I.free] at e;cases e
  let⟨_,j,J,o,F,E,n,hd⟩:=(show bM X.prog X.w H s.heap a (.tup [.ref x,.ref y]) from I.hok a _ p)
  let⟨_,i,l,A,f,d,K,m⟩:=(show bM X.prog X.w H s.heap x (.tup (c.1.map V.int)) from I.hok x _ B)
  let⟨N,M,rfl,C,L⟩:=fe J
  cases C
  show⟨.ref x::fs,LW.cons (k a o (q p) F) E hd (by simp) h1,by simp[h2],λv hv=>?_⟩
  rcases JO.mp hv with rfl|hv
  ·show⟨x,A,Z,k x A (q B) f,d⟩
  ·show D v hv
theorem C5 {Q:Bool->N_->Prop}(I:aH X O8 σ H s)(m:A.units+10<NE){x y d c:N8}{e f:Df}{i:Nat}{a:Bool}
  (h1:H x>.tup (e.1.map V.int)) (k:H y>.tup (e.2.map V.int)) (b:H d>.tup (f.1.map V.int)) (j:H c>.tup (f.2.map V.int)) (g:↑e.1=↑f.1) (l:↑e.2=↑f.2) (hf:a=false)
  (q:Q (HT.lexLt (rZ e) (rZ f)) s):PySem.W.KatLex X.prog X.w A false a Q [(.ref x,.ref d),(.ref y,.ref c)] i s:=by
 unfold rZ at q
 rw[uG _ _ g] at q
 show PySem.W.kat_cons (HL I (a_.of h1) (a_.of b) () _ _ _ _ ?_)
 show PySem.W.kat_go (λz=>?_) (λz=>?_)
 ·rw[N1 (N4 z)] at q
  show PySem.W.kat_yes (PySem.W.kat_cons (HL I (a_.of k) (a_.of j) () _ _ _ _ ?_))
  show PySem.W.kat_go (λh=>?_) (λh=>?_)
  ·show PySem.W.kat_yes (PySem.W.kat_nil ?_)
   rw[N4 h,cR] at q
   rw[hf];show q
  ·show PySem.W.kat_no (PySem.W.kat_one _ _ (zG (op:=.Lt) (Q:=PySem.W.BoolBack Q) I (a_.of k) (a_.of j) (.inl Z) l () q))
 ·rw[N0 (N6 z)] at q
  show PySem.W.kat_no (PySem.W.kat_one _ _ (zG (op:=.Lt) (Q:=PySem.W.BoolBack Q) I (a_.of h1) (a_.of b) (.inl Z) g () q))
theorem oS(hr:aT k X.A):cy X (.builtin "sorted") (λxs H Q=>∃(p:N8) (as:-N8) (cs:-Df),xs=[.ref p]/\aN X.K H p (as.map V.ref)/\eB H as cs/\(∀c∈cs,↑c.1=3/\↑c.2=3)/\↑as<64/\
  ∀l bs ds,H l=none->eB H bs ds->ds.Perm cs->ds.Pairwise (λc d=>HT.lexLt (rZ d) (rZ c)=false)->Q (.ref l) (Ob H l (.lst (bs.map V.ref)))):=by
 let hu:=hr.un
 show iP (R:=λH a c=>∃x y,H a>.tup [.ref x,.ref y]/\H x>.tup (c.1.map V.int)/\H y>.tup (c.2.map V.int)) (G:=λc=>↑c.1=3/\↑c.2=3) ([],[]) rZ (T:=.type "tuple") (b:=false) (by first|rfl|decide) (by first|rfl|decide) (λF E=>by let⟨x,y,h1,h2,z⟩:=E;show⟨x,y,aj (ai h1 F)<|h1,aj (ai h2 F)<|h2,aj (ai z F)<|z⟩) (fun{O8 σ H s h'} I k as cs ht _=>?_) (fun{O8 σ H s x y c d C} I g f J hd Y=>?_)
 ·let⟨fs,h1,h2,z⟩:=B3 I k ht
  show⟨fs,h1,h2,λv Z0=>?_⟩
  let⟨x,o,rfl,O,m⟩:=z v Z0
  let L:Md (Nd X.prog X.w) h' (typeOf (.ref x)) o.cls:=(Md.ld O).andThen .now
  rw[m] at L
  show L
 ·let⟨x1,P,M,g2,g3⟩:=g
  let⟨x2,S,U,f2,N⟩:=f
  let⟨_,r,e,o1,i,_,n1,h⟩:=(show bM X.prog X.w H s.heap x (.tup [.ref x1,.ref P]) from I.hok _ _ M)
  let⟨_,u,j,o2,q,_,n2,n⟩:=(show bM X.prog X.w H s.heap y (.tup [.ref x2,.ref S]) from I.hok _ _ U)
  let⟨u1,u2,rfl,B,D⟩:=fe e
  cases B
  cases D
  let⟨w1,w2,rfl,B,D⟩:=fe j
  cases B
  cases D
  show PySem.W.kat_lt i h q n (C5 I (by change X.A.units+1+1+10<NE;lia) g2 g3 f2 N (by rw[J.1,hd.1]) (by rw[J.2,hd.2]) (by first|rfl|simp) Y)
def Ac (a:-N8) (H:Hp):Prop:=∀b,H b=none\/(∃o xs,H b>.frz o (.lst xs))\/(b∈a/\H b>(.tbl #[]))
theorem xE{ns:-Int}{Ts:-(N8×N8)}
  (KX:K.In s₁.heap) (S:s₁.heap.Ns Nj mg) (O:s₁.heap.Ns builtinsNs mb) (ah:∀x:Nh,x≠ "__name__" ->mb x=NB x) (ad:s₁.heap.NoLimit) (hg:s₁.gens= #[])
  (ha:s₁.heap.get? a=some {cls:=.type "list",data:=.seq vs.toArray}) (hi:O6 vs ns) (hl:ns.length<=N9) (hr:aT k callerA)
  (X:∀q∈Ts,PySem.W.CodeHd s₁.heap q.1 q.2/\s₁.heap.get? q.2>(PySem.W.tabObj #[])) (nK:∀q∈Ts,K.lookup q.2=none)
  (am:∃Q U,mg "__builtins__" >.ref Q/\Q≠builtinsNs/\s₁.heap.get? Q>U/\U.cls=.type "module" /\U.dict>builtinsNs/\U.data=.plain)
  (F:∀O_:Ng,K.In O_->O_.Ns Nj mg->(∀q∈Ts,O_.BuiltinsAt mg q.2/\Nj≠q.2)->eL P w K mg O_ CX k fa fd [x] sp) (Z0:∀(s:N_) (u:N7),BindsTo s fd ⟨[u],[]⟩ [(x,u)])
  (an:∀H:Hp,Ac (Ts.map (·.2)) H->(∀q∈Ts,H q.2>(.tbl #[]))->aN K H a (ns.map V.int)->sp [.ref a] H (λv _=>v=.bl true) λ_ _ _=>False)
  (af:∀H e s',CX [] H s₁ (λ_ _ _=>False) e s'->False):
  NK (Nd P w) callerA (.call (.ref fa) ⟨[.ref a],[]⟩) (λr s'=>r=.ok (.ret (.bool true))/\OldK s₁.heap s'.heap/\s'.os=s₁.os/\AllBare s'.gens) s₁:=by
 let rv:=xC hi
 let C:=↑hi
 let A:a∉Ts.map (·.2):=λz=>by
  let⟨q,hq,e⟩:=JL.mp z
  have:=(X q hq).2
  rw[e,ha] at this;cases this
 let y:∀H:Hp,Ac (Ts.map (·.2)) H->(∀q∈Ts,H q.2>(.tbl #[]))->aN K H a (ns.map V.int)->gO P w H s₁.heap->(∀b,H b≠none->b=a\/b∈Ts.map (·.2))->(H a≠none->K.lookup a=none)->
   NK (Nd P w) callerA (.call (.ref fa) ⟨[.ref a],[]⟩) (λr s'=>r=.ok (.ret (.bool true))/\OldK s₁.heap s'.heap/\s'.os=s₁.os/\AllBare s'.gens) s₁:=by
  intro H hO av hS ac hA hK
  let f:∀{b:N8} {o:Nv},s₁.heap.get? b>o->H b=none->(mP s₁.heap H).get? b>o:=λe n=>Ax e n
  let D:∀{b:N8} {o:Nv} {es:Array ND} {ep:Nat},s₁.heap.get? b>o->o.data=.dict es ep->H b=none:=fun{b o es ep} e d=>by
   cases q:H b with
   |none=>rfl
   |some u=>
    rcases hA b (by rw[q];simp) with e'|e'
    ·subst e'
     rw[ha] at e;cases e
     let d':Data.seq vs.toArray _=Data.dict es ep:=d
     cases d'
    ·let⟨r,c,rfl⟩:=JL.mp e'
     rw[(X r c).2] at e;cases e
     cases d
  let j:∀{b:N8} {m:Nh->Option N7},s₁.heap.Ns b m->(mP s₁.heap H).Ns b m:=fun{b m} ⟨o,es,ep,e,d,r⟩=>⟨o,es,ep,f e (D e d),d,r⟩
  let B:K.In (mP s₁.heap H):=λb o e=>f (KX b o e) (by
   cases q:H b with
   |none=>rfl
   |some u=>
    rcases hA b (by rw[q];simp) with e'|e'
    ·subst e'
     rw[hK (by rw[q];simp)] at e;cases e
    ·let⟨r,c,rfl⟩:=JL.mp e'
     rw[nK r c] at e;cases e)
  let hM:Mod K mg (mP s₁.heap H):=⟨B,j S,⟨mb,j O,ah⟩,let ⟨mc,h1,h2⟩:=ad;⟨mc,j h1,h2⟩⟩
  let e0:kD P w K mg (mP s₁.heap H) callerA [] s₁ H:=⟨Z,hM,λb o e=>BC e,Nat.le_of_eq (xu _ _),trivial,λb O=>absurd (show b∈([]:-N8) from O) (by simp),ac,.of_eq hg⟩
  let N:∀q∈Ts,(mP s₁.heap H).BuiltinsAt mg q.2/\Nj≠q.2:=λq hq=>by
   let⟨Q,U,b1,b2,R,b4,b5,b6⟩:=am
   let E:Nj≠q.2:=λz=>by
    let⟨o,es,ep,e,hd,_⟩:=S
    rw[z,(X q hq).2] at e;cases e;cases hd
   let M:Q≠q.2:=λz=>by rw[z,(X q hq).2] at R;cases R;cases b6
   let J:Q≠Nj:=λz=>by
    let⟨o,es,ep,e,hd,_⟩:=S
    rw[z,e] at R;cases R;rw[hd] at b6;cases b6
   let L:H Q=none:=by
    cases qq:H Q with
    |none=>rfl
    |some u=>
     exfalso
     rcases hA Q (by rw[qq];simp) with e'|e'
     ·rw[e',ha] at R;cases R;cases b6
     ·let⟨r,c,I⟩:=JL.mp e'
      rw[<-I,(X r c).2] at R;cases R;cases b6
   show⟨⟨Q,U,b1,b2,J,M,f R L,b4,b5,b6⟩,E⟩
  show NR ((F _ B (j S) N).run callerA [] s₁ H ⟨[.ref a],[]⟩ [.ref a] [.ref a] _ _ hr e0 (Z0 s₁ (.ref a)) (.cons Z .nil) (an H hO av hS)) λr s' h=>?_
  cases r with
  |error e=>show(af H e s' h).elim
  |ok fl=>
   cases fl with
   |next=>show False.elim h
   |brk=>show False.elim h
   |cont=>show False.elim h
   |ret u=>
    let⟨v,H',os,bare,un,l,r',q⟩:=h
    let q':v=.bl true:=q
    subst q'
    obtain rfl:u=N7.bool true:=r'
    let g:∀b o,s₁.heap.get? b>o->s'.heap.get? b>o\/∃r∈Ts,r.2=b/\∃more,s'.heap.get? b>PySem.W.tabObj (#[]++more):=λb o e=>by
     cases q:H b with
     |none=>show .inl (un.keep b o e q (by intro z;show absurd (show b∈([]:-N8) from z) (by simp)) (by simp))
     |some u=>
      rcases hO b with z|⟨U,xs,z⟩|⟨Y,z⟩
      ·rw[q] at z;cases z
      ·let z2:=un.frzs b U _ z
       let⟨e1,_⟩:=ac b _ z
       let⟨e2,_⟩:=l b _ z2
       rw[e] at e1;cases e1
       show .inl e2
      ·let⟨more,z2⟩:=un.tbls b _ z
       let⟨r,c,e'⟩:=JL.mp Y
       show .inr ⟨r,c,e',more,l b _ z2⟩
    show⟨Z,⟨λb o e=>?_,λb o e=>?_⟩,os,bare⟩
    ·rcases g b o e with z|⟨r,c,rfl,more,z⟩
     ·show .inl z
     ·let⟨h1,h2⟩:=X r c
      rw[h2] at e;cases e
      show .inr (.inl ⟨(h1.tab h2).isCodeTable,Z,#[],more,Z,z⟩)
    ·rcases g b o e with z|⟨r,c,rfl,more,z⟩
     ·show⟨_,z⟩
     ·show⟨_,z⟩
 let p:∀q∈Ts,q.2∈Ts.map (·.2):=λq hq=>JL.mpr ⟨q,hq,Z⟩
 let i:∀(H:Hp) b,b∈Ts.map (·.2)->bM P w H s₁.heap b (.tbl #[]):=λH b Y=>by
  let⟨r,c,rfl⟩:=JL.mp Y
  show(X r c).2
 cases hk:K.lookup a with
 |some o=>
  let e:=KX a o hk
  rw[ha] at e
  cases e
  show y (λb=>if b∈Ts.map (·.2) then some (.tbl #[]) else none) (λb=>?_) (λq hq=>N1 (p q hq)) (.inr ⟨_,vs.toArray,_,hk,Z,Z,Z,J8<|C<|hl,by simpa using rv⟩) (λb u z=>?_) (λb z=>?_) λz=>absurd (N0 A) z
  ·by_cases O:b∈Ts.map (·.2)
   ·show .inr (.inr ⟨O,N1 O⟩)
   ·show .inl (N0 O)
  ·by_cases O:b∈Ts.map (·.2)
   ·let T:=(N1 O).symm.trans z
    cases T
    show i _ b O
   ·let T:=(N0 O).symm.trans z
    cases T
  ·by_cases O:b∈Ts.map (·.2)
   ·show .inr O
   ·show absurd (N0 O) z
 |none=>
  show y (λb=>if b=a then some (.frz {cls:=.type "list",data:=.seq vs.toArray} (.lst (ns.map V.int))) else if b∈Ts.map (·.2) then some (.tbl #[]) else none) (λb=>?_) (λq hq=>?_) (.inl (.inr ⟨{cls:=.type "list",data:=.seq vs.toArray},N1 Z⟩)) (λb u z=>?_) (λb z=>?_) λ_=>hk
  ·by_cases O:b=a
   ·show .inr (.inl ⟨_,_,N1 O⟩)
   ·by_cases hb2:b∈Ts.map (·.2)
    ·show .inr (.inr ⟨hb2,(N0 O).trans (N1 hb2)⟩)
    ·show .inl ((N0 O).trans (N0 hb2))
  ·have:q.2≠a:=λz=>A (z▸p q hq)
   show(N0 this).trans (N1 (p q hq))
  ·by_cases O:b=a
   ·let T:=(N1 O).symm.trans z
    cases T
    subst O
    show⟨ha,JF<|hl,vs,_,rv,ha⟩
   ·by_cases hb2:b∈Ts.map (·.2)
    ·let T:=((N0 O).trans (N1 hb2)).symm.trans z
     cases T
     show i _ b hb2
    ·let T:=((N0 O).trans (N0 hb2)).symm.trans z
     cases T
  ·by_cases O:b=a
   ·show .inl O
   ·by_cases hb2:b∈Ts.map (·.2)
    ·show .inr hb2
    ·show absurd ((N0 O).trans (N0 hb2)) z
theorem walk_ofT {l:PySem.W.OpenLaw}{n k:Nat}{q:Ni}{i:-Nh}{R:(Nh->Option N7)->Ng->Prop}{M:Nr->Ng->Prop}{d:DefRec}{K:Params->JI}{CX:Nr->Bi}{sp:Nr->Sp}{x:Nh}{xs:-Nh}
  (hn:l.most>n) (B:n<=N9) (D:d.params.defaults=[]) (Z0:aT k callerA)
  (P:∀(w:Nr) (h:Ng),M w h->(K w.params).In h)
  (Ts:Nr->-(N8×N8))
  (z:∀y∈xs,∃e,(recsOf q).find? (λe=>e.name==y)>e)
  (A:∀(w:Nr),∀t∈Ts w,(∃y∈xs,Ml (K w.params) y>t)/\(K w.params).lookup t.2=none)
  (F:∀(w:Nr) (mg:Nh->Option N7) (fa:N8) (h:Ng),(K w.params).In h->h.Ns Nj mg->mg d.name>.ref fa->
   ∃fd:NM,(∀(s:N_) (u:N7),BindsTo s fd ⟨[u],[]⟩ [(x,u)])/\
    ∀O_:Ng,(K w.params).In O_->O_.Ns Nj mg->(∀t∈Ts w,O_.BuiltinsAt mg t.2/\Nj≠t.2)->eL l.prog w (K w.params) mg O_ (CX w) k fa fd [x] (sp w))
  (E:∀(w:Nr) (H:Hp) (a:N8) (ns:-Int),ns.length<=n->Ac ((Ts w).map (·.2)) H->(∀t∈Ts w,H t.2>(.tbl #[]))->aN (K w.params) H a (ns.map V.int)->sp w [.ref a] H (λv _=>v=.bl true) λ_ _ _=>False)
  (I:∀(w:Nr) (H:Hp) (s:N_) (e:N7) (s':N_),CX w [] H s (λ_ _ _=>False) e s'->False):
  PySem.W.WalkO q i R M l.row.toRowW d [] (λf vs=>PySem.call f vs):=by
 show Att.attach_call hn D λw L m mg mb fa o pm cd O a vs ns G Y ho hd X J p j c hg=>?_
 let C:=P w _ Y
 let⟨fd,hb,U⟩:=F w mg fa _ C G.T.g J
 show xE (Ts:=Ts w) C G.T.g G.T.b G.T.builtins G.T.nolimit hg p j (J1 c B) Z0 (λt ht=>?_) (λt ht=>(A w t ht).2) G.T.bmain U hb (λH hO S Q=>E w H a ns c hO S Q) λH e s'=>I w H m e s'
 let⟨⟨y,N,e⟩,_⟩:=A w t ht
 let⟨r,b⟩:=z y N
 show PySem.W.tab_of G.T C b e
def iN (a:N8) (o:Nv):HO:=.ext λh=>h.get? a>o
theorem pP(e:h.get? a>o):bM P w H h a (iN a o):=⟨e,⟨o,e⟩,λ_ _ b k=>k _ b⟩
def mF (a:Nv) (c:N8) (qual:Nh):Prop:=∀h:Ng,h.get? c>a->h.CodeRec (.ref c) qual
def ID (P:N8) (b:O1) (qual:Nh) (mk:N8->N7->Nv):TE:=λ_ H Q=>∃ps,H P>.tbl ps/\TriplesOk ps.toList/\codeAmong b ps.toList=none/\
 ∀f a d c,H f=none->H a=none->f≠a->mF d a qual->Q (.ref f) (Ob (Ob (Ob H P (.tbl (ps++ #[NI b.line,NI b.col,.ref a]))) a (iN a d)) f (iN f (mk a c)))
theorem F8{B:-(Nh×N8)}(M:defaultsOf params X.env=([],[]))(O:closureFor scope X.env=pure B)(E:X.env.code=.ref c)
  (hC:Mm X.K c P=true) (hB:X.O_.BuiltinsAt X.mg P) (U:Nj≠P):
  PE X (.Lambda params body scope pos) (ID P pos (X.env.qual++ "<lambda>") λc' C=>LZ "<lambda>" (X.env.qual++ "<lambda>") params body scope B ((X.mg "__name__").getD .none) c' C):=by
 intro O8 s σ H Q I h
 let⟨ps,A,ht,x,q⟩:=h
 let p:s.heap.get? P>PySem.W.tabObj ps:=I.hok P _ A
 show PySem.W.kla_eval M (PySem.W.kla_makeFunction O I.ok.glob (I.mod.glob.keeps I.bk) E (PySem.W.codeHd_of_K I.kIn hC) p ht x U
  (let ⟨bm,o,h1,h2,h3,h4,h5,r⟩:=hB;⟨bm,o,h1,h2,h3,h4,I.bk _ _ h5,r⟩) λc' C h' tk Z0 R J D F=>?_)
 obtain⟨oc,L⟩:∃oc,h'.get? c'>oc:=by
  let⟨a,o,_,_,S,Y,_⟩:=D
  cases S
  show⟨o,Y⟩
 let v: ~~~s<=h'.objs.size:=by
  have:c'<h'.objs.size:=J
  lia
 let j:s.heap.get? c'=none:=K2 R
 let i:s.heap.get? h'.objs.size=none:=K2 v
 let f:H c'=none:=I.hok.none_of j
 let d:H h'.objs.size=none:=I.hok.none_of i
 let l:h'.objs.size≠c':=Kx J
 let w:P≠c':=ai A f
 let k:P≠h'.objs.size:=ai A d
 show⟨.ref h'.objs.size,_,?_,Z,q h'.objs.size c' oc C d f l λh1 Y=>?_⟩
 ·let N:∀b o,b≠P->s.heap.get? b>o->(h'.push (LZ "<lambda>" (X.env.qual++ "<lambda>") params body scope B ((X.mg "__name__").getD .none) c' C)).get? b>o:=λb o hb e=>JK _ (Z0 b o hb e)
  let g:∀b,H b=none->b≠P:=λb n z=>by rw[z,A] at n;cases n
  let new:∀b u,s.heap.get? b>u->b≠c'/\b≠h'.objs.size:=λb u e=>⟨λz=>(by rw[z,j] at e;cases e),λz=>(by rw[z,i] at e;cases e)⟩
  show I.step (g':=s.gens) (d':=s.drawn) (ch:=[]) (λ_ z=>by cases z) (λb o _ _ _ e n=>N b o (g b n) e) (λb o _ _ _ e n=>⟨o.slots,N b o (g b n) e⟩) (λb o _ e n=>?_) (λb o _ e=>?_) (λb xs e=>?_) (λb o u e=>?_) (λb ab e=>?_) (λm hm=>?_) (λb u e=>?_) I.bare
  ·rw[aj (new b o e).2,aj (new b o e).1,aj (g b n)];show n
  ·by_cases hb:b=P
   ·subst hb;show⟨_,JK _ F⟩
   ·show⟨o,N b o hb e⟩
  ·rw[aj (ai e d),aj (ai e f),aj (bz e A (λz=>by cases z))];show e
  ·rw[aj (ai e d),aj (ai e f),aj (bz e A (λz=>by cases z))];show e
  ·by_cases hb:b=P
   ·subst hb
    rw[A] at e;cases e
    show⟨_,by rw[aj k,aj w,ag]⟩
   ·show⟨#[],by rw[aj (ai e d),aj (ai e f),aj hb,e];simp⟩
  ·show(hm.extBut Z0 (λz=>by rw[<-z,I.free] at A;cases A)).push _
  ·by_cases hbf:b=h'.objs.size
   ·subst hbf
    rw[ag] at e;cases e
    show pP (JT _ Z)
   rw[aj hbf] at e
   by_cases hbc:b=c'
   ·subst hbc
    rw[ag] at e;cases e
    show pP (JK _ L)
   rw[aj hbc] at e
   by_cases hbP:b=P
   ·subst hbP
    rw[ag] at e;cases e
    show JK _ F
   rw[aj hbP] at e
   show(I.hok b u e).stay (λb2 u2 T y=>N b2 u2 ?_ y) (λb2 y=>?_) (λb2 xs y=>?_)
   ·rcases T with z|z
    ·rw[z];show hbP
    ·show bz z A (λz=>by cases z)
   ·rw[aj (ai y d),aj (ai y f),aj (bz y A (λz=>by cases z))];show y
   ·rw[aj (ai y d),aj (ai y f),aj (bz y A (λz=>by cases z))];show y
 ·let⟨a,o,vs,t,S,y,r⟩:=D
  cases S
  rw[L] at y;cases y
  show⟨_,_,vs,t,Z,Y,r⟩
structure jq (ps:-Nh) (clos:-(Nh×N8)) (scope:NS):Prop where
 kind:scope.kind=.function
 co:scope.isCoroutine=false
 gen:scope.isGenerator=false
 nocell:∀x∈scope.names,x.2≠.cell
 par:∀x∈ps,scope.names.lookup x>.local
 free:∀x,scope.names.lookup x>.free->∃c,clos.lookup x>c
 fr:∀x∈clos.map (·.1),scope.names.lookup x>.free
 nd:(ps++clos.map (·.1)).Nodup
 inj:∀x y c,clos.lookup x>c->clos.lookup y>c->x=y
noncomputable def jS (qual:Nh) (scope:NS) (a:-(Nh×N8)) (L f:N8) (cd:N7):O0:=newEnv scope L Nj a (qual++ ".<locals>.") (some f) cd none builtinsNs
noncomputable def vU (P:Ni) (w:Nr) (K:JI) (mg:Nh->Option N7) (O_:Ng) (ps:-Nh) (a:-(Nh×N8)) (qual:Nh) (scope:NS) (f:N8) (cd:N7) (A:Nu) (outer:-O0) (s:N_) (H:Hp):Cx where
 prog:=P
 w:=w
 K:=K
 mg:=mg
 O_:=O_
 A:=A.deeper (jS qual scope a (~~~s) f cd)
 N:=ps++a.map (·.1)
 s₀:=s
 H₀:=H
 env:=jS qual scope a (~~~s) f cd
 outer:=outer
 stack:=jS qual scope a (~~~s) f cd::outer
 ex:=[]
 fn:=λ_=>false
 calm:=true
 pn:=[]
 xe:=λ_ _=>False
theorem jB {a:Type}:∀{l:-(Nh×a)} {x:Nh} {u:a},(l.map (·.1)).Nodup->(x,u)∈l->l.lookup x>u
 |[],_,_,_,h=>by simp at h
 |(y,v)::r,x,u,hn,h=>by
  rw[JW,Kj] at hn
  rw[Ks]
  rcases JO.mp h with e|h
  ·cases e;simp
  ·have:¬x=y:=λz=>hn.1 (by rw[<-z];show JL.mpr ⟨_,h,Z⟩)
   let hb:(x==y)=false:=by simpa using this
   rw[hb]
   show jB hn.2 h
theorem BY {P:Ni}{ps:-Nh}{clos:-(Nh×N8)}{qual:Nh}{scope:NS}{f:N8}{cd:N7}{l:-O0}{us:-N7}{vs cvs:-V}{h':Ng}{tk:Nat}{fo:Nv}
  (S:jq ps clos scope) (hd:A.handled=none) (m:kD P w K mg O_ A l s H) (L:↑vs=↑ps) (r:aZ vs us) (M:↑cvs=↑clos)
  (E:∀(i:Nat) x c v,clos[i]?>(x,c)->cvs[i]?>v->H c=none/\∃u,a8 v u/\s.heap.IsCell c (some u))
  (D:h'.Ns (~~~s) λx=>(ps.zip us).reverse.lookup x) (C:Ng.SameBut (~~~s) (s.heap.push fo) h'):
  aH (vU P w K mg O_ ps clos qual scope f cd A l s H) [] (vs.map some++cvs.map some) H {s with heap:=h',toks:=tk}:=by
 let B:∀b o,s.heap.get? b>o->h'.get? b>o:=λb o e=>(C.2 b (JP (JN e))).trans (JK _ e)
 let nd:=Lc.mp S.nd
 let g:∀x c,clos.lookup x>c->∃(i:Nat) (v:V),clos[i]?>(x,c)/\cvs[i]?>v:=λx c h=>by
  let⟨i,hi⟩:=List.mem_iff_getElem?.mp (PySem.mem_of_lookup h)
  let k:=(JX.mp hi).1
  show⟨i,cvs[i],hi,JU ()⟩
 let j:∀c v,s.heap.IsCell c v->h'.IsCell c v:=λc v F=>by let⟨o,O,hd⟩:=F;show⟨o,B _ _ O,hd⟩
 show⟨⟨m.mod,S.kind,Z,Z,JG _,S.inj,λy hy=>?_,λy c z _=>absurd z JR,λ_=>hd,Nu.frames_deeper m.frames,.inr ⟨Z,Z⟩,λb z=>absurd (show b∈([]:-N8) from z) (by simp),m.bs,m.bsz,λb _ _ z=>absurd (show b∈([]:-N8) from z) (by simp),λb z=>absurd (show b∈([]:-N8) from z) (by simp),m.funs,m.frf⟩,
  rfl,m.bare,Un.kept B,⟨_,D,λi y v h1 h2 T=>?_⟩,λy c h=>?_,m.hok.fresh (JG _),λy c h=>?_,λp hp=>absurd (show p∈([]:-(N8×Nv)) from hp) (by simp),m.hok.kept B,?_⟩
 ·let hy:scope.names.lookup y>.cell\/scope.names.lookup y>.free:=hy
  rcases hy with hy|hy
  ·show absurd Z (S.nocell _ (PySem.mem_of_lookup hy))
  ·show S.free y hy
 ·let h1:(ps++clos.map (·.1))[i]?>y:=h1
  by_cases hi:i<↑ps
  ·rw[K3 hi] at h1
   rw[K3 (by rw[JF];lia),JV] at h2
   let ha:vs[i]?>v:=by
    cases e:vs[i]? with
    |none=>rw[e] at h2;cases h2
    |some a=>rw[e] at h2;cases h2;rfl
   let⟨u,N,I⟩:=r.get ha
   show⟨u,I,.inl ⟨S.par y (JY h1),?_⟩⟩
   show jB ?_ (List.mem_reverse.mpr (List.mem_iff_getElem?.mpr ⟨i,List.getElem?_zip_eq_some<|⟨h1,N⟩⟩))
   rw[List.map_reverse]
   show(List.reverse_perm _).nodup_iff.mpr ?_
   rw[List.map_fst_zip (by have:=↑r;lia)]
   show nd.1
  ·rw[Ll (),JV] at h1
   rw[Ll (by rw[JF];lia),JV,JF,L] at h2
   let⟨⟨J,c⟩,n,q⟩:=Kc.mp h1
   cases q
   let⟨U,R,Q⟩:=Kc.mp h2
   cases Q
   let⟨_,u,I,d⟩:=E _ _ _ _ n R
   let hm:(J,c)∈clos:=JY n
   show⟨u,I,.inr ⟨.inr (S.fr J (JL.mpr ⟨_,hm,Z⟩)),c,jB nd.2.1 hm,j _ _ d⟩⟩
 ·let⟨i,v,n,q⟩:=g y c h
  let⟨_,u,_,d⟩:=E _ _ _ _ n q
  show⟨_,j _ _ d⟩
 ·let⟨i,v,n,q⟩:=g y c h
  show(E _ _ _ _ n q).1
 ·change(vs.map some++cvs.map some).length=↑(ps++clos.map (·.1))
  rw[JQ,JQ,JF,JF,JF]
  lia
theorem C2 {CX:Bi}{P:Ni}{k:Nat}{f l:N8}{name qual:Nh}{params:Arguments}{body:Nw}{scope:NS}{pm p:N7}{ps:-Nh}{d:-(Nh×N8)}{g:-O0}{h:Args}{us:-N7}{vs cvs:-V}{Q:VK}{E:XK}
  (T:s.heap.get? f>LZ name qual params body scope d pm l p) (n:s.heap.CodeRec (.ref l) qual) (S:jq ps d scope) (F:aT (k+1) A) (C:kD P w K mg O_ A g s H) (L:↑vs=↑ps) (r:aZ vs us) (y:↑cvs=↑d)
  (R:∀(i:Nat) x c v,d[i]?>(x,c)->cvs[i]?>v->H c=none/\∃u,a8 v u/\s.heap.IsCell c (some u)) (O:BindsTo s (PySem.W.kla_fn name qual params body scope d pm (.ref l) p) h (ps.zip us))
  (j:aT k (A.deeper (jS qual scope d (~~~s) f (.ref l)))->∃te,PE (vU P w K mg O_ ps d qual scope f (.ref l) A g s H) body te/\te (vs.map some++cvs.map some) H Q):
  NK (Nd P w) A (.call (.ref f) h) (CR CX g P w H s Q E) s:=by
 let a:s.heap.NoLimit:=C.mod.nolimit.keeps λb o e=>(C.bs b o e).1
 show PySem.W.kla_callFunE F.depth T Z S.co S.gen Z n (O _ _ _ _ ?_)
 show wpAny_newFunctionEnv S.nocell (λx M=>S.par x.1 (Me M).1) (λh' B m=>?_) S.kind
 let N:∀b o,s.heap.get? b>o->h'.get? b>o:=λb o e=>(m.2 b (JP (JN e))).trans (JK _ e)
 show⟨a.keeps N,PySem.W.kla_codeExpr ?_⟩
 let⟨te,ht,hq⟩:=j (F.deeper _)
 let I:=BY (qual:=qual) (f:=f) (cd:=.ref l) (tk:=s.toks+↑(ps.zip us)) S F.hd C L r y R B m
 show Km (ht [] _ _ H Q I hq) (λv s' D=>by let⟨x,H',J,U,q⟩:=D;show⟨x,H',J.os,J.bare,J.O_,J.hok,U,q⟩) λe s' z=>False.elim z
noncomputable def drp (H:Hp) (c:N8):Hp:=λb=>if b=c then none else H b
theorem f_:drp H c c=none:=N1 Z
theorem mj(h:b≠c):drp H c b=H b:=N0 h
theorem gS(h:H b=none):drp H c b=none:=by
 by_cases e:b=c
 ·rw[e];show f_
 ·rw[mj e];show h
theorem gf(h:H b>u)(a:H c>v)(d:u≠v):drp H c b>u:=mj (bz h a d)<|h
theorem jO(h:∀b,u≠.ext b):u≠iN a o:=h _
theorem Cd(ok:gO P w H h)(d:H c>iN c o):gO P w (drp H c) h:=λa u e=>by
 by_cases ha:a=c
 ·subst ha;rw[f_] at e;cases e
 rw[mj ha] at e
 show(ok a u e).stay (λ_ _ _ z=>z) (λb z=>gf z d (jO λf q=>by cases q)) (λb xs z=>gf z d (jO λf q=>by cases q))
theorem kD.drp(e:kD P w K mg O_ A outer s H)(d:H c>iN c o):kD P w K mg O_ A outer s (L2.drp H c):=
 ⟨e.frames,e.mod,λb a z=>⟨(e.bs b a z).1,gS (e.bs b a z).2⟩,e.bsz,e.funs,λb hb=>gS (e.frf b hb),Cd e.hok d,e.bare⟩
theorem BV(k:H c>iN c o)(l:s.heap.get? c>o)(r:c∉vK outer)
  (h:CE outer P w (drp H c) s (λv H'=>H' c=none->Q v (Ob H' c (iN c o))) u s'):CE outer P w H s Q u s':=by
 let⟨v,H',os,bare,un,f,y,q⟩:=h
 let p:s'.heap.get? c>o:=un.keep c o l f_ r (by simp)
 let i:H' c=none:=un.free c o l f_ (by simp)
 let d:∀b,H b=none->b≠c:=λb z e=>by rw[e,k] at z;cases z
 show⟨v,_,os,bare,⟨λb g e n hb j=>un.keep b g e (gS n) hb j,λb g e n hb j=>un.slot b g e (gS n) hb j,λb g e n j=>?_,un.there,λb xs e=>?_,λb g x e=>?_,λb ps e=>?_⟩,λa x e=>?_,y,q i⟩
 ·rw[aj (d b n)];show un.free b g e (gS n) j
 ·let z:=un.tups b xs (gf e k (jO λm q=>by cases q))
  rw[aj (ai z i)];show z
 ·let z:=un.frzs b g x (gf e k (jO λm q=>by cases q))
  rw[aj (ai z i)];show z
 ·let⟨more,z⟩:=un.tbls b ps (gf e k (jO λm q=>by cases q))
  show⟨more,aj (ai z i)<|z⟩
 ·by_cases ha:a=c
  ·subst ha
   rw[ag] at e;cases e
   show pP p
  ·rw[aj ha] at e
   show(f a x e).stay (λ_ _ _ z=>z) (λb z=>by rw[aj (ai z i)];show z) (λb xs z=>by rw[aj (ai z i)];show z)
theorem CD(ok:gO P w H h)(d:H c=none)(f:h.get? c>o):gO P w (Ob H c (iN c o)) h:=λa u e=>by
 by_cases ha:a=c
 ·subst ha
  rw[ag] at e;cases e
  show pP f
 ·rw[aj ha] at e
  show(ok a u e).stay (λ_ _ _ z=>z) (λb z=>by rw[aj (ai z d)];show z) (λb xs z=>by rw[aj (ai z d)];show z)
theorem aH.ownCell (I:aH X O8 σ H s){i:Nat}{y:Nh}{v:V}{c:N8}(q:X.N[i]?>y)(h:σ[i]?>some v)(j:X.env.scope.names.lookup y>.cell)(f:X.env.cells.lookup y>c)(g:X.env.locals<c):
  ∃o u,s.heap.get? c>o/\o.data=.cell (some u)/\a8 v u/\H c=none/\X.O_.get? c=none/\c∉vK X.stack:=by
 let⟨m,A,n⟩:=I.loc
 let⟨u,r,l⟩:=n i y v q h (.inr (.inl j))
 let a:∃c,X.env.cells.lookup y>c/\s.heap.IsCell c (some u):=by
  rcases l with ⟨z,_⟩|⟨_,z⟩
  ·let k:X.env.scope.names.lookup y>.local:=z
   rw[j] at k;cases k
  ·show z
 let⟨w,b,o,p,hd⟩:=a
 rw[f] at b;cases b
 let d: ~~~X.s₀<=X.env.locals:=I.ok.above
 show⟨o,u,p,hd,r,I.freeC y c f,K2 (J1 I.ok.bsz (J1 d (Kh g))),λhb=>?_⟩
 rcases JO.mp (I.stkSub c hb) with z|z
 ·show Kx g z
 ·let⟨_,x,e,_⟩:=I.ok.funs.mem z
  show Ku _ (Kg (Nat.lt_trans (JN e) (LV d g)) (JG _))
section
variable {M:Model} {env:O0} {pos:O1} {f:N8} {Q:N7->N_->Prop}
theorem p_{rest:-Nw}(h:Na M A (spliced (NF pos (Nf (e::rest) env))) (λvs c=>(∃o fd,c.heap.get? f>o/\o.data=.func fd)/\Na M A (call (.ref f) vs) Q E c) E s)
  (i:Nf (e::rest) env=(false,eval e env)::Nf rest env) (b:(NF pos (Nf rest env)).any (·.1)=false):
  Na M A (callWith pos (.ref f) [] (NF pos (Nf (e::rest) env)) []) Q E s:=by
 rw[i] at h|-
 show PySem.W.callWith_of (P:=λh=>∃o fd,h.get? f>o/\o.data=.func fd) (by change((false||(NF pos (Nf rest env)).any (·.1))||false)=false;rw[b];rfl) (λh d=>?_) (Calls.evalArgs_plain h)
 let⟨o,fd,g,hd⟩:=d
 show⟨.frame,.inl Z,?_⟩
 let⟨a,j,k,l⟩:=o
 cases hd
 show(Md.ld (part:=none) g).andThen .now
end
def ER (r:N8->-V->Hp->VK->Prop) (te:TE) (t:TA):TE:=λσ H Q=>te σ H λx H1=>∃f o fd,x=.ref f/\o.data=.func fd/\t σ H1 λvs H2=>H2 f>iN f o/\r f vs H2 Q
theorem zP{r:N8->-V->Hp->VK->Prop}(hf:PE X (.Name x p) te)(k:∀f,cy X (.ref f) (r f))(m:PA X (e::es) t)
  (j:Nf (e::es) X.env=(false,eval e X.env)::Nf es X.env:=by rfl) (c:(NF pos (Nf es X.env)).any (·.1)=false:=by rfl):
  PE X (.Call (.Name x p) (e::es) [] pos) (ER r te t):=by
 intro O8 s σ H Q I h
 show KQ (bS (hf O8 s σ H _ I h) λv s1 b=>?_)
 let⟨z,H1,I1,n,f,o,fd,i,hd,q⟩:=b
 subst i
 cases(show v=N7.ref f from n)
 show p_ (bS (m pos O8 s1 σ H1 _ I1 q) λg l b=>by let⟨vs,H2,I2,u,a,d⟩:=b;show⟨⟨o,fd,(I2.hok _ _ a).1,hd⟩,k f O8 l σ H2 vs g Q I2 u d⟩) j c
theorem wo(S:aT (k+1) X.A)(J:∀c,jq ps [(y,c)] scope)
  (P:∀(s:N_) (B:-N7) (c l:N8) (m:N7),↑B=↑ps->BindsTo s (PySem.W.kla_fn name qual params body scope [(y,c)] pm (.ref l) m) ⟨B,[]⟩ (ps.zip B))
  (n:∀(f c l:N8) (A:Nu) (p:-O0) (s:N_) (H:Hp),aT k (A.deeper (jS qual scope [(y,c)] (~~~s) f (.ref l)))->PE (vU X.prog X.w X.K X.mg X.O_ ps [(y,c)] qual scope f (.ref l) A p s H) body te) (f:N8):
  cy X (.ref f) (λvs H Q=>∃(c l:N8) (m:N7) (F o:Nv) (u:N7) (v:V),H f>iN f (LZ name qual params body scope [(y,c)] pm l m)/\H l>iN l F/\mF F l qual/\H c>iN c o/\o.data=.cell (some u)/\a8 v u/\↑vs=↑ps/\
   te (vs.map some++[some v]) (drp H c) λr H'=>H' c=none->Q r (Ob H' c (iN c o))):=by
 intro O8 s σ H vs B Q I r h
 let⟨c,l,m,F,o,u,v,hf,g,a,C,hd,T,L,q⟩:=h
 let M:s.heap.get? c>o:=(I.hok _ _ C).1
 let j:=(I.hok _ _ hf).1
 let b:=(I.hok _ _ g).1
 let R:c∉vK X.stack:=λz=>by have:=I.stkFree c z;rw[C] at this;cases this
 show wpAny_call (NR (C2 (CX:=jH) (E:=E0) (Q:=λr H'=>H' c=none->Q r (Ob H' c (iN c o))) j (a _ b) (J c) S (I.env0.drp C) L r (cvs:=[v]) Z (λi x d U N O=>?_) (P s B c l m (by rw[<-↑r];show L)) (λD=>⟨te,n f c l _ _ _ _ D,q⟩)) λr s' hq=>?_)
 ·cases i with
  |zero=>
   cases N
   cases O
   show⟨f_,u,T,o,M,hd⟩
  |succ i=>simp at N
 ·cases r with
  |error e=>show False.elim hq
  |ok fl=>
   cases fl with
   |ret u=>show I.after (BV C M R hq)
   |next=>show False.elim hq
   |brk=>show False.elim hq
   |cont=>show False.elim hq
def Hh (P:N8) (d:O1) (qual:Nh) (mk:N8->N7->Nv):TE:=λ_ H Q=>∃ps,H P>.tbl ps/\TriplesOk ps.toList/\codeAmong d ps.toList=none/\
 ∀f a g e HH,H f=none->H a=none->f≠a->mF g a qual->(∀b x,H b>x->b≠P->HH b>x)->(∃c,HH P>.tbl c)->HH a>iN a g->HH f>iN f (mk a e)->Q (.ref f) HH
theorem Bu{g:-(Nh×N8)}(k:defaultsOf params X.env=([],[]))(m:closureFor scope X.env=pure g)(i:X.env.code=.ref c)
  (w:Mm X.K c P=true) (v:X.O_.BuiltinsAt X.mg P) (o:Nj≠P):
  PE X (.Lambda params body scope pos) (Hh P pos (X.env.qual++ "<lambda>") λc' j=>LZ "<lambda>" (X.env.qual++ "<lambda>") params body scope g ((X.mg "__name__").getD .none) c' j):=by
 intro O8 s σ H Q I h
 let⟨ps,n,h1,h2,q⟩:=h
 show F8 k m i w v o O8 s σ H Q I ⟨ps,n,h1,h2,λf c' y j r p u l=>?_⟩
 let a:P≠c':=ai n p
 let d:P≠f:=ai n r
 show q f c' y j _ r p u l (λb x e hb=>?_) ⟨ps++ #[NI pos.line,NI pos.col,.ref c'],?_⟩ ?_ ag
 ·rw[aj (ai e r),aj (ai e p),aj hb];show e
 ·rw[aj d,aj a,ag]
 ·rw[aj u.symm,ag]
namespace TabA
open SetTable
variable (t:Nq) (hashAt:Nat->Int) (h:Int)
noncomputable def lp (p:Probe):Probe:={p with j:=(leap t.mask p.i p.perturb).1,more:=runEnd t.mask (leap t.mask p.i p.perturb).1 - (leap t.mask p.i p.perturb).1,i:=(leap t.mask p.i p.perturb).1,perturb:=(leap t.mask p.i p.perturb).2}
def mQ (N:Nat) (p:Probe):Prop:=∀f,N<=f->∃j,probe.go t hashAt h f p>.empty j none
variable {t hashAt h}
theorem mQ.mono{p:Probe}(g:mQ t hashAt h N p)(l:N<=M):mQ t hashAt h M p:=λf hf=>g f (J1 l hf)
theorem xM(e:t.slot j=.live i):i<t.place.size:=by
 unfold slot at e
 dsimp only at e
 split at e
 ·rename_i q
  injection e with e
  subst e
  let a:=beq_iff_eq.mp q
  show(MM.mp a).1
 ·split at e<;>cases e
theorem jj(hd:t.dummies= #[]):t.slot j≠.dummy:=by
 unfold slot
 dsimp only
 split
 ·intro z;cases z
 ·rw[hd]
  split
  ·rename_i q
   unfold has at q
   simp at q
  ·intro z;cases z
theorem xV(hd:t.dummies= #[])(a:j∉t.place):t.slot j=.empty:=by
 cases e:t.slot j with
 |empty=>rfl
 |dummy=>show(jj hd e).elim
 |live i=>
  unfold slot at e
  dsimp only at e
  split at e
  ·rename_i q
   let b:=beq_iff_eq.mp q
   show(a (Array.mem_of_getElem? b)).elim
  ·split at e<;>cases e
theorem tV {p:Probe}(a:p.dummy=none)(e:t.slot p.j=.empty):mQ t hashAt h 1 p:=by
 intro f hf
 obtain⟨f,rfl⟩:∃g,f=g+1:=⟨f - 1,()⟩
 show⟨p.j,?_⟩
 unfold probe.go
 rw[e]
 dsimp only
 rw[a]
theorem mY{p:Probe}(hd:t.dummies= #[])(a:∀i,i<t.place.size->hashAt i≠h)(b:p.dummy=none)(g:mQ t hashAt h N (t.advance p)):mQ t hashAt h (N+1) p:=by
 intro f hf
 obtain⟨f,rfl⟩:∃g,f=g+1:=⟨f - 1,()⟩
 unfold probe.go
 cases e:t.slot p.j with
 |empty=>show⟨p.j,by dsimp only;rw[b]⟩
 |dummy=>show(jj hd e).elim
 |live i=>
  dsimp only
  rw[N0 (by simpa using a i (xM e))]
  show g f ()
theorem AI (hd:t.dummies= #[])(a:∀i,i<t.place.size->hashAt i≠h):∀(m N:Nat) (p:Probe),p.more=m->p.dummy=none->mQ t hashAt h N (lp t p)->mQ t hashAt h (N+(m+1)) p:=by
 intro m
 induction m with
 |zero=>
  intro N p hm hp g
  show mY hd a hp ?_
  let e:t.advance p=lp t p:=by unfold advance;rw[N0 ()];rfl
  rw[e];show g
 |succ m ih=>
  intro N p hm hp g
  let e:t.advance p={p with j:=p.j+1,more:=m}:=by unfold advance;rw[N1 (),hm];rfl
  show mY (N:=N+(m+1)) hd a hp ?_
  rw[e]
  show ih N _ Z hp g
theorem yP (m i:Nat):runEnd m i - i<=9:=by unfold runEnd;split<;>lia
noncomputable def mG (t:Nq) (h:Int):Nat->Probe
 |0=>t.probeStart h
 |n+1=>lp t (mG t h n)
theorem jI:∀n,(mG t h n).dummy=none
 |0=>rfl
 |n+1=>jI n
theorem ym:∀n,(mG t h n).more<=9
 |0=>yP _ _
 |_+1=>yP _ _
theorem GU:∀n,(mG t h n).j=(mG t h n).i
 |0=>rfl
 |_+1=>rfl
theorem qd (hd:t.dummies= #[])(a:∀i,i<t.place.size->hashAt i≠h):∀(n k:Nat),t.slot (mG t h (k+n)).j=.empty->mQ t hashAt h (1+10*n) (mG t h k)
 |0,k,e=>tV (jI k) e
 |n+1,k,e=>by
  let g:mQ t hashAt h (1+10*n) (mG t h (k+1)):=qd hd a n (k+1) (by rw[show k+1+n=k+(n+1) by lia];show e)
  have:=AI hd a _ _ (mG t h k) Z (jI k) g
  show this.mono (by have:=ym (t:=t) (h:=h) k;lia)
theorem B4 (h:Int):bits h<2^64:=by unfold bits;lia
theorem rJ:∀n,(mG t h n).perturb=bits h/32^n
 |0=>by change bits h=_;simp
 |n+1=>by
  change(mG t h n).perturb/32=_
  rw[rJ n,Nat.div_div_eq_div_mul,Nat.pow_succ]
theorem D3 (n:Nat):(mG t h (n+1)).i=((mG t h n).i*5+1+bits h/32^(n+1))%(t.mask+1):=by
 change((mG t h n).i*5+1+(mG t h n).perturb/32)%(t.mask+1)=_
 rw[rJ n,Nat.div_div_eq_div_mul,Nat.pow_succ]
theorem GM(a:13<=n):bits h/32^n=0:=by
 show Nat.div_eq_of_lt (Kg (B4 h) ?_)
 show J1 (by decide:2^64<=32^13) (Nat.pow_le_pow_right (by decide) a)
noncomputable def it (M:Nat):Nat->Nat->Nat
 |0,a=>a
 |k+1,a=>(it M k a*5+1)%M
theorem tY:∀k,(mG t h (12+k)).i=it (t.mask+1) k (mG t h 12).i
 |0=>rfl
 |k+1=>by
  change(mG t h (12+k+1)).i=_
  rw[D3,GM (),tY k]
  rfl
theorem JA:∀a<8,∀j<8,∃k,k<8/\it 8 k a=j:=by decide+kernel
theorem IV:∀a<32,∀j<32,∃k,k<32/\it 32 k a=j:=by decide+kernel
theorem FO:∀n,(mG t h n).i<t.mask+1
 |0=>Nat.mod_lt _ (Nat.succ_pos _)
 |n+1=>by rw[D3];show Nat.mod_lt _ (Nat.succ_pos _)
theorem vw (c:t.mask=7\/t.mask=31){j:Nat}(a:j<t.mask+1):∃n,n<13+t.mask/\(mG t h n).i=j:=by
 let l:=FO (t:=t) (h:=h) 12
 rcases c with e|e
 ·rw[e] at a l|-
  let⟨k,b,q⟩:=JA _ l j a
  show⟨12+k,(),tY<|e<|q⟩
 ·rw[e] at a l|-
  let⟨k,b,q⟩:=IV _ l j a
  show⟨12+k,(),tY<|e<|q⟩
theorem qV:∀{l m:-Nat},l.Nodup->(∀x∈l,x∈m)->↑l<=↑m
 |[],m,_,_=>J4 _
 |a::l,m,hn,hs=>by
  let ha:=hs a JZ
  have:=qV (l:=l) (m:=m.erase a) (Kj.mp hn).2 λx b=>(L8 (λ(e:x=a)=>(Kj.mp hn).1 (e▸b))).mpr (hs x (J0 _ b))
  rw[MG ha] at this
  have:=MH ha
  simp only[J9]
  lia
theorem xF (_hd:t.dummies= #[])(b:t.place.size<=t.mask):∃j,j<t.mask+1/\j∉t.place:=by
 by_cases q:∀j,j<t.mask+1->j∈t.place
 ·exfalso
  have:=qV (l:=List.range (t.mask+1)) (m:=t.place.toList) List.nodup_range λj a=>Li.mpr (q j (Kk.mp a))
  simp at this
  lia
 ·simp only[Classical.not_forall] at q
  let⟨j,h1,h2⟩:=q
  show⟨j,h1,h2⟩
theorem probe_new (c:t.mask=7\/t.mask=31)(hd:t.dummies= #[])(b:t.place.size<=t.mask)(a:∀i,i<t.place.size->hashAt i≠h):∃j,t.probe hashAt h (t.probeStart h)>.empty j none:=by
 let⟨j,f,d⟩:=xF hd b
 let⟨n,g,e⟩:=vw (h:=h) c f
 have:=qd (h:=h) hd a n 0 (Nat.zero_add<|GU<|e<|xV hd d)
 show this _ (by unfold turns;lia)
noncomputable def Hs (o:Array (Option Nat)):Nat:=o.toList.countP Option.isSome
structure Ow (o:Array (Option Nat)) (k:Nat):Prop where
 sz:o.size=32
 ct:Hs o=k
 lt:∀(j v:Nat),o[j]?>some v->v<k
theorem Cv {o:Array (Option Nat)}(w:Ow o k)(f:k<32):∃j,j<32/\o.getD j (some 0)=none:=by
 by_cases q:∀j,j<32->o.getD j (some 0)≠none
 ·exfalso
  have:o.toList.countP Option.isSome=↑o.toList:=by
   show List.countP_eq_length.mpr λv b=>?_
   let⟨j,d,e⟩:=List.mem_iff_getElem.mp b
   let a:j<o.size:=by simpa using d
   have:=q j (by rw[<-w.sz];show a)
   rw[Lo,KM a] at this
   let c:o[j]=v:=by simpa using e
   rw[c] at this
   cases v with
   |none=>show(this Z).elim
   |some _=>rfl
  let h1:=w.ct
  unfold Hs at h1
  rw[this,Ko,w.sz] at h1
  lia
 ·simp only[Classical.not_forall,Classical.not_not] at q
  let⟨j,h1,h2⟩:=q
  show⟨j,h1,h2⟩
theorem wL {o:Array (Option Nat)}:∀(f i p:Nat),(∃n,n<f/\∃j,o.getD j (some 0)=none/\j=(Nat.rec (motive:=λ_=>Nat×Nat) (i,p) (λ_ q=>leap 31 q.1 q.2) n).1)->∃j,layClean.free 31 o f i p>j/\o.getD j (some 0)=none:=by
 intro f
 induction f with
 |zero=>intro i p ⟨n,c,_⟩;lia
 |succ f ih=>
  intro i p ⟨n,c,j,b,e⟩
  unfold layClean.free
  cases q:(List.range (runEnd 31 i+1 - i)).find? λk=>(o.getD (i+k) (some 0)).isNone with
  |some k=>
   show⟨i+k,Z,by have:=List.find?_some q;simpa using this⟩
  |none=>
   dsimp only
   cases n with
   |zero=>
    exfalso
    let e:j=i:=e
    have:=List.find?_eq_none.mp q 0 (Kk.mpr (by unfold runEnd;split<;>lia))
    rw[Nat.add_zero,<-e,b] at this
    show this Z
   |succ n=>
    show ih _ _ ⟨n,(),j,b,e.trans ?_⟩
    let a:∀n,(Nat.rec (motive:=λ_=>Nat×Nat) (i,p) (λ_ q=>leap 31 q.1 q.2) (n+1):Nat×Nat)=Nat.rec (motive:=λ_=>Nat×Nat) ((leap 31 i p).1,(leap 31 i p).2) (λ_ q=>leap 31 q.1 q.2) n:=by
     intro n
     induction n with
     |zero=>rfl
     |succ n ih=>change leap 31 _ _=leap 31 _ _;rw[<-ih]
    rw[a]
noncomputable def Hr:Nq:={mask:=31,place:= #[],dummies:= #[],finger:=0,led:=true,moves:=0,plain:=true}
theorem vG (h:Int):∀n,(Nat.rec (motive:=λ_=>Nat×Nat) (bits h%32,bits h) (λ_ q=>leap 31 q.1 q.2) n:Nat×Nat)=((mG Hr h n).i,(mG Hr h n).perturb)
 |0=>rfl
 |n+1=>by change leap 31 _ _=_;rw[vG h n];rfl
theorem Ao {o:Array (Option Nat)}(w:Ow o k)(b:k<32)(h:Int):∃j,layClean.free 31 o (turns 31) (bits h%(31+1)) (bits h)>j/\j<32/\o[j]?>none:=by
 let⟨j,c,e⟩:=Cv w b
 let⟨n,d,q⟩:=vw (t:=Hr) (h:=h) (.inr Z) (j:=j) c
 let⟨a,h1,h2⟩:=wL (o:=o) (turns 31) (bits h%32) (bits h) ⟨n,by unfold turns;have:Hr.mask=31:=rfl;lia,j,e,vG<|q.symm⟩
 show⟨a,h1,?_⟩
 rw[Lo] at h2
 cases z:o[a]? with
 |none=>rw[z] at h2;cases h2
 |some v=>
  rw[z] at h2
  let lt:=(MM.mp z).1
  rw[w.sz] at lt
  show⟨lt,congrArg some h2⟩
theorem Ft {o:Array (Option Nat)}{k j:Nat}(w:Ow o k)(b:j<32)(e:o[j]?>none):Ow (o.setIfInBounds j (some k)) (k+1) where
 sz:=by simpa using w.sz
 ct:=by
  let h1:=w.ct
  unfold Hs at h1|-
  let⟨l,a⟩:=MM.mp e
  rw[Array.toList_setIfInBounds,List.countP_set (by simpa using l),h1]
  simp[a]
 lt:=λi v q=>by
  rw[Array.getElem?_setIfInBounds] at q
  split at q
  ·split at q
   ·injection q with q;injection q with q;lia
   ·cases q
  ·have:=w.lt i v q;lia
theorem qF:∀(a:-Int) (o:Array (Option Nat)) (k:Nat),Ow o k->k+↑a<=32->∃o',(a.foldl (init:=some (o,k)) λb h=>do
  let (owner,k)<-b
  let j<-layClean.free 31 owner (turns 31) (bits h%(31+1)) (bits h)
  pure (owner.setIfInBounds j (some k),k+1))>(o',k+↑a)/\Ow o' (k+↑a)
 |[],o,k,w,_=>⟨o,Z,w⟩
 |h::a,o,k,w,l=>by
  simp only[J9] at l
  let⟨j,e,c,f⟩:=Ao w () h
  let⟨o',h1,h2⟩:=qF a _ _ (Ft w c f) ()
  show⟨o',?_,by rw[J9,show k+(↑a+1)=k+1+↑a by lia];show h2⟩
  rw[List.foldl_cons,J9,show k+(↑a+1)=k+1+↑a by lia,<-h1]
  congr 1
  change(layClean.free 31 o (turns 31) (bits h%(31+1)) (bits h)>>=_)=_
  rw[e]
  rfl
theorem laid_some (c g:Nat)(h f:Bool)(d:Array Int)(m:d.size<=32):∃t b,laid 31 c g h f d>(t,b)/\t.mask=31/\t.dummies= #[]/\t.place.size=d.size/\b.size=d.size/\∀k∈b,k<d.size:=by
 let⟨o,h1,w⟩:=qF d.toList (Array.replicate 32 none) 0 ⟨by simp,by decide+kernel,λj v e=>by
  rw[Array.getElem?_replicate] at e
  split at e<;>simp at e⟩ (by simpa using m)
 let n:layClean 31 d>o:=by
  unfold layClean
  rw[<-Array.foldl_toList]
  rw[show(31:Nat)+1=32 from Z] at h1|-
  rw[h1]
  rfl
 let cl:↑((List.range (31+1)).filterMap λj=>(o.getD j none).map (j, ·))=d.size:=by
  rw[List.length_filterMap_eq_countP]
  let p:o.toList=(List.range 32).map (λj=>o.getD j none):=by
   show Mi λj=>?_
   rw[JV,Array.getElem?_toList]
   by_cases hj:j<32
   ·rw[List.getElem?_range hj]
    have:j<o.size:=w.sz<|hj
    simp[KM this]
   ·have:¬j<o.size:=w.sz<|hj
    rw[LY ()]
    rw[Mj (by simpa using hj)]
    rfl
  let h2:=w.ct
  unfold Hs at h2
  rw[p,List.countP_map] at h2
  simp only[Nat.zero_add,Ko] at h2
  rw[<-h2]
  congr 1
  funext j
  simp
 show⟨_,_,by unfold laid;rw[n];rfl,Z,Z,?_,?_,?_⟩
 ·simpa using cl
 ·simpa using cl
 ·intro k l
  simp only[List.mem_toArray,JL,Lg] at l
  let⟨⟨j,r⟩,⟨i,a,e⟩,rfl⟩:=l
  cases q:o.getD i none with
  |none=>rw[q] at e;cases e
  |some v=>
   rw[q] at e
   simp at e
   let⟨rfl,rfl⟩:=e
   rw[Lo] at q
   have:o[i]?>some v:=by
    cases z:o[i]? with
    |none=>rw[z] at q;cases q
    |some u=>rw[z] at q;show congrArg some q
   have:=w.lt _ _ this
   simpa using this
end TabA
theorem jU {a:Type}(xs:Array a)(p:Nat)(x:a):(Nq.insertAt xs p x).size=xs.size+1:=by
 have:=(Nq.insertAt_perm xs p x).length_eq
 simpa using this
theorem tI {a:Type}{xs:Array a}{x y:a}(h:y∈Nq.insertAt xs p x):y=x\/y∈xs:=by
 have:=(Nq.insertAt_perm xs p x).mem_iff.mp (Li.mpr h)
 rw[Array.toList_push] at this
 rcases J3.mp this with z|z
 ·show .inr (Li.mp z)
 ·show .inl (JJ.mp z)
structure SI (t:Nq) (es:Array (Int×N7)) (n:Nat) (f:Nat->Int):Prop where
 dm:t.dummies= #[]
 ms:t.mask=7/\n<5\/t.mask=31/\n<=18
 pl:t.place.size=n
 sz:es.size=n
 hm:∀e∈es,∃j,j<n/\e.1=f j
theorem SI.fits {t:Nq}{a:Array (Int×N7)}{f:Nat->Int}(I:SI t a n f):t.fits a.size=true:=by
 unfold Nq.fits Nq.fill
 rw[I.pl,I.sz,I.dm]
 simp
 rcases I.ms with q|q<;>lia
def SO (h:Ng) (S:N8) (n:Nat) (f:Nat->Int):Prop:=∃o ep es t,h.get? S>o/\o.ExactSet/\o.data=.set es ep t/\SI t es n f
theorem AQ{b:Array (Int×N7)}{t t2:Nq}{Q:Unit->N_->Prop}(c:s.heap.get? a>o)(hd:o.data=.set b ep t)(hf:t.fits b.size=true)(f:Nq.sizeAbove wanted<=N9)
  (e:t.relaid (b.map (·.1)) wanted>(t2,order)) (hz:(order.filterMap (b[·]?)).size=b.size) (d:b.size<1000) (h:Q Unit.unit {s with heap:=s.heap.update a (Nv.putSet (order.filterMap (b[·]?)) t2)}):
  Na (Nd prog w) A (setRelay a wanted) Q E s:=by
 show JD (wpAny_setState_of c hd hf ?_)
 dsimp only
 rw[N0 (),e]
 show JD ?_
 change Na _ _ (if ((order.filterMap (b[·]?)).size !=b.size)=true then _ else _) _ _ _
 rw[N0 (by simp[hz])]
 show JE ?_
 dsimp only
 show wpAny_storeSet_of c hd h (by have:N9=2^24:=rfl;lia)
set_option tactic.hygienic true in
theorem tU{B:Array (Int×N7)}{f:Nat->Int}{t:Nq}{Q:Bool->N_->Prop}(hr:(Nm (NV prog w)).room A)(R:pH s.heap k b)(D:s.heap.get? a>o)(hd:o.data=.set B ep t)(I:SI t B n f)(hn:n<18)(hf:f n=dY k)(hh:∀j,j<n->f j≠f n)
  (h:∀h' L C U,Ng.SameBut a s.heap h'->h'.get? a=some {o with data:=.set C L U}->SI U C (n+1) f->Q true {s with heap:=h',toks:=s.toks+(Nm (NV prog w)).draws k}):
  Na (Nd prog w) A (setAdd a (.ref b)) Q E s:=by
 let hm:t.mask=7\/t.mask=31:=I.ms.imp (·.1) (·.1)
 let⟨j,hp⟩:=TabA.probe_new (t:=t) (hashAt:=I_ B) (h:=dY k) hm I.dm (by rw[I.pl];rcases I.ms with q|q<;>lia) (λi hi e=>by
  rw[I.pl,<-I.sz] at hi
  unfold I_ at e
  rw[KM hi] at e
  let⟨j,T,N⟩:=I.hm _ (Array.getElem_mem hi)
  show hh j T (N.symm.trans (Eq.trans e hf.symm)))
 let hg:¬t.gaveWay=true:=by unfold Nq.gaveWay;rcases hm with q|q<;>simp[q]
 let X:(t.put j).1.dummies= #[]:=by
  unfold Nq.put
  dsimp only
  rw[I.dm]
  split
  ·rename_i q;unfold Nq.has at q;simp at q
  ·rfl
 let F:(t.put j).1.mask=t.mask:=rfl
 let O:(t.put j).1.place.size=n+1:=by
  change(Nq.insertAt t.place _ j).size=_
  rw[jU,I.pl]
 let K:(t.put j).1.fill=n+1:=by unfold Nq.fill;rw[O,X];rfl
 obtain⟨es1,M⟩:∃es1,Nq.insertAt B (t.put j).2 (dY k,N7.ref b)=es1:=⟨_,Z⟩
 let x:es1.size=n+1:=by rw[<-M,jU,I.sz]
 let m:(t.put j).1.fits es1.size=true:=by
  unfold Nq.fits
  rw[x,O,K,F]
  simp
  rcases I.ms with q|q<;>lia
 let d:∀e∈es1,∃j,j<n+1/\e.1=f j:=λe H=>by
  rw[<-M] at H
  rcases tI H with rfl|z
  ·show⟨n,Lz _,hf.symm⟩
  ·let⟨j,T,N⟩:=I.hm _ z
   show⟨j,(),N⟩
 show J_ (JD ((Nm (NV prog w)).pyHash hr (Ds R) ?_))
 show J_ ?_
 show JD (wpAny_setState_of (s:={s with toks:=s.toks+(Nm (NV prog w)).draws k}) D hd I.fits ?_)
 dsimp only
 show JD ?_
 show JD (wpAny_setState_of (s:={s with toks:=s.toks+(Nm (NV prog w)).draws k}) D hd I.fits ?_)
 dsimp only
 rw[N0 hg]
 split
 ·rename_i met hm
  let em:met=.empty j none:=Option.some.inj (hm.symm.trans hp)
  subst em
  show JE ?_
  show JD (wpAny_setState_of (s:={s with toks:=s.toks+(Nm (NV prog w)).draws k}) D hd I.fits ?_)
  let g:Na (Nd prog w) A (storeSet a (Nq.insertAt B (t.put j).2 (dY k,.ref b)) (t.put j).1>>=λ_=>if (!false&&(t.put j).1.tooFull)=true then (setRelay a (Nq.grown (B.size+1))>>=λ_=>pure true) else pure true) Q E {s with toks:=s.toks+(Nm (NV prog w)).draws k}:=by
   rw[M,I.sz]
   let p:N9=2^24:=rfl
   show JD (wpAny_storeSet_of (s:={s with toks:=s.toks+(Nm (NV prog w)).draws k}) D hd ?_ ())
   let y:=Kr (Nv.putSet es1 (t.put j).1) D (by rw[putSet_of _ _ hd];rfl)
   rw[putSet_of _ _ hd] at y
   by_cases hfull:(t.put j).1.tooFull=true
   ·rw[N1 (by simpa using hfull)]
    let l:n=4:=by
     unfold Nq.tooFull at hfull
     rw[K,F] at hfull
     simp only[ge_iff_le,decide_eq_true_eq] at hfull
     rcases I.ms with q|q<;>rw[q.1] at hfull<;>lia
    let⟨J,u,e2,Z0,a2,W,P,Y⟩:=TabA.laid_some (t.put j).1.finger ((t.put j).1.movedTo 31) (t.put j).1.led (t.put j).1.plain (es1.map (·.1)) (by rw[Array.size_map,x];lia)
    rw[Array.size_map,x] at W P Y
    let S:(u.filterMap (es1[·]?)).size=es1.size:=by
     rw[<-Ko,Array.toList_filterMap,List.length_filterMap_eq_countP,x]
     rw[List.countP_eq_length.mpr,Ko,P]
     intro i hi
     rw[KM (x<|Y i (Li.mp hi))]
     rfl
    show JD (AQ (s:={s with heap:=_,toks:=s.toks+(Nm (NV prog w)).draws k}) (t2:=J) (order:=u) y Z m (by rw[l];decide+kernel) (l<|e2) S () ?_)
    show JE (h _ (ep+1+1) _ _ ((Ng.SameBut.update ..).trans (Ng.SameBut.update ..)) (Kr (Nv.putSet (u.filterMap (es1[·]?)) J) y (by rw[putSet_of _ _ Z];rfl)) ⟨a2,.inr ⟨Z0,()⟩,W,S.trans x,λe H=>?_⟩)
    let⟨i,_,q⟩:=Array.mem_filterMap.mp H
    show d _ (Array.mem_of_getElem? q)
   ·rw[N0 (by simpa using hfull)]
    show JE (h _ _ _ _ (Ng.SameBut.update ..) y ⟨X,?_,O,x,d⟩)
    rw[F]
    rcases I.ms with q|q
    ·show .inl ⟨q.1,?_⟩
     unfold Nq.tooFull at hfull
     rw[K,F,q.1] at hfull
     simp only[ge_iff_le,decide_eq_true_eq] at hfull
     lia
    ·show .inr ⟨q.1,()⟩
  let⟨ob,r,c,y,g2,g3,g4⟩:=R
  split
  ·show JD (AX (s:={s with toks:=_}) y g2 g3 (λv hv=>g4.allInts v (by simpa using hv)) ?_)
   show g
  ·show JD (JE ?_)
   show g
 ·rename_i hm
  show(hm _ hp).elim
section
variable {R:Result->N_->Prop} {I:N8} {fp wr:-N8} {G:Array NT->Array NT->Prop} {n:Nat} {P:Nat->N7->Prop} {St:Nat->N_->Prop}
theorem tL (W:WalksS prog w A.in1 I fp wr G n P St)(S:N8)(x:S∉fp)(p:(Nm (NV prog w)).room A.in1)(m:Nat->N8)(key:Nat->-Int)(D:∀i v,P i v->v=.ref (m i))
  (E:∀i,i<n->m i≠S/\m i∉wr) (Y:n<=18) (hd:∀i j,i<n->j<i->dY (key j)≠dY (key i)):
  ∀(k i:Nat) (s:N_),n - i=k->i<=n->St i s->(∀j,j<n->pH s.heap (key j) (m j))->SO s.heap S i (λi=>dY (key i))->
   (∀s',Moved (S::wr) G s s'->SO s'.heap S n (λi=>dY (key i))->R (.ok (.ret .none)) s')->
   NK (Nd prog w) A (.builtin "set.update.loop" ⟨[.ref S,.ref I],[]⟩) R s:=by
 let g:S∉wr:=λh=>x (W.sub _ h)
 let more:∀b∈wr,b∈S::wr:=λb hb=>J0 _ hb
 let a:∀{h h':Ng} {k b},pH h k b->(∀o,h.get? b>o->h'.get? b>o)->pH h' k b:=λ⟨o,K,c,h1,h2⟩ f=>⟨o,K,c,f o h1,h2⟩
 intro k
 induction k with
 |zero=>
  intro i s M hi u ht H L
  obtain rfl:i=n:=by lia
  show Nt F.entry_set_update_loop ?_
  rw[Nu.under_plainId F.plain_set_update_loop _]
  change Na _ A.in1 (NG (.ref I)>>=_) _ _ s
  show JD (W.done s _ _ u λs' hm=>JE (L s' (hm.mono more) ?_))
  let⟨o,ep,es,t,h1,h2⟩:=H
  show⟨o,ep,es,t,hm.heap S _ g h1,h2⟩
 |succ k ih=>
  intro i s M hi u ht H L
  let d:i<n:=by lia
  show Nt F.entry_set_update_loop ?_
  rw[Nu.under_plainId F.plain_set_update_loop _]
  change Na _ A.in1 (NG (.ref I)>>=_) _ _ s
  show JD (W.item i s _ _ d u λv s' Q C hm=>?_)
  obtain rfl:=D i v Q
  let⟨o,ep,es,t,h1,h2,O,U⟩:=H
  let l:∀j,j<n->pH s'.heap (key j) (m j):=λj r=>a (ht j r) λo q=>hm.heap _ o (E j r).2 q
  change Na _ A.in1 (holding [N7.ref (m i)] (setAdd S (.ref (m i)))>>=_) _ _ s'
  show JD (J_ ?_)
  show tU (s:=s') p (l i d) (hm.heap S _ g h1) O U () Z (λj r=>hd i j d r) λh' T N Z0 sb hg X=>?_
  ·show JE ⟨Ny F.plain_set_update_loop _,ih (i+1) _ () d (W.frame _ s' _ _ C (Lr _ _) λb hb o e=>?_) (λj r=>a (l j r) λo q=>?_) ⟨_,_,_,_,hg,h2,Z,X⟩ λJ y B=>?_⟩
   ·rw[sb.2 b (λz=>x (z▸hb))];show e
   ·rw[sb.2 _ (E j r).1];show q
   ·show L J (Moved.trans W.gtrans ((hm.mono more).then_heap (Lr _ _) λb o hb e=>?_) y) B
    rw[sb.2 b (λz=>hb (z<|JZ))];show e
end
set_option maxHeartbeats 3200000 in
theorem lO {l:N8}{as:-N8}{Q:N7->N_->Prop}(hh:A.handled=none)(hl:s.heap.IsList l (as.map N7.ref).toArray)
  (S:(Nm (NV prog w)).room A.in1.in1.in1) (key:Nat->-Int) (M:∀j,j<↑as->pH s.heap (key j) (as.getD j 0))
  (hn:↑as<=18) (hd:∀i j,i<↑as->j<i->dY (key j)≠dY (key i))
  (h:∀(h':Ng) (tk:Nat),SO h' (~~~s) ↑as (λi=>dY (key i))->(∀b o,b<~~~s->s.heap.get? b>o->h'.get? b>o)->
   Q (.ref (~~~s)) {s with heap:=h',toks:=tk}):Na (Nd prog w) A (call (.type "set") [.ref l]) Q E s:=by
 let⟨c0,J,I⟩:=F.called_set.mro
 let made:=F.called_set.made
 let sub:=F.called_set.sub
 let nt:=F.called_set.notType
 let cc:=F.called_set.canCreate
 let ck:=F.typeCall_set_1 (.ref l)
 show wpAny_call (codeAny_of_tree ?_)
 change Na _ _ (callAny (.type "set") ⟨[.ref l],[]⟩) _ _ _
 show JE ⟨Code.quiet_builtin _ (by decide+kernel),Nt F.entry_type_call ?_⟩
 rw[Nu.under_plain (weight_type_call_type "set" [.ref l] []) Z]
 repeat (any_goals (first|assumption|wp_step))
 show NR (code_set_new_1 (.ref l) (E:=E) (Q₁:=λv N=>∃L:Bool,v=.ref (~~~s)/\N={s with heap:=s.heap.push (pK L)}) λL=>⟨L,Z,Z⟩) λr N hr=>?_
 match r,hr with
 | .error e,hr=>show hr
 | .ok (.ret v),⟨L,ev,es⟩=>
  subst ev es
  let hS:(s.heap.push (pK L)).get? (~~~s)>pK L:=JT _ Z
  let hT:N_.TypeIs {s with heap:=s.heap.push (pK L)} (.ref (~~~s)) "set" :=⟨_,hS,Z⟩
  let li:=F.called_set.init.lookup
  let bi:=F.called_set.init.bind (.ref (~~~s))
  repeat (any_goals (first|assumption|wp_step))
  show NR (codeAny_call_builtin (R:=wants (λr O=>r=.none/\∃h' tk,O={s with heap:=h',toks:=tk}/\SO h' (~~~s) ↑as (λi=>dY (key i))/\
   ∀b o,b<~~~s->s.heap.get? b>o->h'.get? b>o) E) F.called_set.init.plain F.entry_set_init (check_set_init_1 hT ?_)) λT O P=>?_
  ·let lt:l<~~~s:=by let⟨o,ho,_⟩:=hl;show JN ho
   let⟨⟨oc,od,K,p⟩,y,d,Z0,k⟩:=id hl
   simp only at d k
   subst d k
   let m:(s.heap.push (pK L)).get? l>⟨.type "list",od,.seq (as.map N7.ref).toArray Z0,p⟩:=JK _ y
   let n1:=F.sub_list_set
   let n2:=F.sub_list_frozenset
   let n3:(N7.type "list" ==N7.type "dict")=false:=by decide
   let g:(s.heap.push (pK L)).IsList l (as.map N7.ref).toArray:=⟨_,m,Z,Z0,Z⟩
   unfold Nc.«set.__init__» noKeywords Nc.Frozenset.updateFrom
   generalize X:pyIter=PI
   wp_walk
   subst X
   show L4 g (JD (wpAny_runValue ?_))
   let a:(s.heap.push (pK L)).objs.size= ~~~s+1:=Kq ..
   let q:A.in1.in1.in1.handled=none:=by simp[hh]
   let D:l≠(s.heap.push (pK L)).objs.size:=a<|JP (K4 lt)
   let nS: ~~~s∉[(s.heap.push (pK L)).objs.size,l]:=by
    rw[a]
    intro z
    rcases JO.mp z with z|z
    ·show absurd z (JP (Lz _))
    ·show absurd (JJ.mp z) (Kx lt)
   let u:∀j,j<↑as->as.getD j 0<~~~s:=λj U=>by let⟨o,_,_,h1,_⟩:=M j U;show JN h1
   show tL ((Walks.list q _ l D (as.map N7.ref).toArray).toS) (~~~s) nS S (λi=>as.getD i 0) key (λi v hv=>?_) (λi hi=>?_) (by simpa using hn) (λi j hi U=>hd i j (by simpa using hi) U)
    ((as.map N7.ref).toArray.size - 0) 0 _ () (J4 _) ⟨⟨_,JT _ Z,Z,Z⟩,(g.push _)⟩ (λj U=>?_) ?_ λs' hm Y=>?_
   ·let f:(as.map N7.ref).toArray[i]?>v:=hv
    rw[List.getElem?_toArray,JV] at f
    let⟨x,hx,rfl⟩:=Kc.mp f
    change _=N7.ref (as.getD i 0)
    rw[JS,hx];rfl
   ·let H:i<↑as:=by simpa using hi
    have:=u i H
    show⟨JP this,λz=>?_⟩
    let W:=JJ.mp z
    rw[a] at W
    show absurd W (JP (K4 this))
   ·let⟨o,n,c,q1,q2⟩:=M j (by simpa using U)
    show⟨o,n,c,JK _ (JK _ q1),q2⟩
   ·show⟨_,0,_,_,JK _ hS,⟨Z,Z,Z⟩,Z,Z,.inl ⟨Z,by decide⟩,Z,Z,λe he=>by simp at he⟩
   ·let⟨h',g',d',C,B⟩:=s'
    obtain rfl:g'=s.gens:=hm.gens
    obtain rfl:d'=s.drawn:=hm.drawn
    obtain rfl:B=s.os:=hm.os
    show JE ?_
    change Na _ _ (ret N7.none) _ _ _
    show JE ⟨Z,h',C,Z,by simpa using Y,λb o hb e=>hm.heap b o (λz=>?_) (JK _ (JK _ e))⟩
    rcases JO.mp z with z|z
    ·show absurd z (JP hb)
    ·let W:=JJ.mp z
     rw[a] at W
     show absurd W (JP (K4 hb))
  ·match T,P with
   | .error e,z=>show z
   | .ok (.ret v),⟨e1,h',tk,e2,z1,z2⟩=>
    subst e1 e2
    repeat (any_goals (first|assumption|wp_step))
    show h h' tk z1 z2
   | .ok .next,z=>show z.elim
   | .ok .brk,z=>show z.elim
   | .ok .cont,z=>show z.elim
 | .ok .next,hr=>show hr.elim
 | .ok .brk,hr=>show hr.elim
 | .ok .cont,hr=>show hr.elim
theorem xB (D:X.calm=true){k:Nat}(M:aT k X.A):cy X (.type "set") (λxs H Q=>∃(l:N8) (as:-N8) (cs:-(-Int)),xs=[.ref l]/\aN X.K H l (as.map V.ref)/\bH H as cs/\↑cs<=18/\(cs.map dY).Nodup/\∀p,H p=none->Q (.ref p) (Ob H p (HZ p ↑cs))):=by
 intro O8 s σ H xs R Q I r h
 let⟨l,as,cs,rfl,w,ht,m,n,q⟩:=h
 let⟨u,rfl,F⟩:=dO r
 cases F
 let⟨g,N,L,S⟩:=I.list w
 obtain rfl:=fz N
 let P:=M.units
 let len:↑as=↑cs:=Nb.length ht
 let d:∀j,j<↑as->pH s.heap (cs.getD j []) (as.getD j 0):=λj v=>by
  let⟨c,h1,h2⟩:=ht.at (i:=j) (a:=as.getD j 0) (by rw[JS,JU v];rfl)
  rw[JS,h1]
  show yp I.hok h2
 show lO (I.ok.hd D) L.isList (show X.A.units+1+1+1<NE by lia) (λi=>cs.getD i []) d () (λi j hi v z=>?_) λh' tk B x=>?_
 ·have:=List.pairwise_iff_getElem.mp n j i (by simp;lia) (by simp;lia) v
  simp only[JS,JU (show i<↑cs by lia),JU (show j<↑cs by lia),Option.getD_some] at z
  rw[List.getElem_map,List.getElem_map] at this
  show this z
 let⟨o,ep,es,t,h1,h2,C,z⟩:=B
 show⟨.ref (~~~s),_,I.laid (a:= ~~~s) (o:=HZ (~~~s) ↑cs) (t':=tk) (λb u e=>x b u (JN e) e) (JG _) ⟨⟨o,_,ep,_,h1,h2,C,z.fits,z.sz.trans len⟩,⟨o,h1⟩,?_⟩,Z,q _ (I.hok.fresh (JG _))⟩
 rintro O T ⟨o',es,f,t,J,y⟩ E
 show⟨o',es,f,t,E _ J,y⟩
noncomputable def GN (k:-Int×-Int):Int:=reduceHash (Nc.Tuple.tupleHashOf [dY k.1,dY k.2])
abbrev EB:=(-Int×-Int)×N8
def IL (x:EB):ND:=⟨GN x.1,.ref x.2,.bool true⟩
noncomputable def dP (a:N8) (xs:-EB):HO:=.ext λh=>(a==NQ)=false/\∃o es ep,h.get? a>o/\o.ExactDict/\o.data=.dict es ep/\es.toList=xs.map IL
abbrev yg (x:EB):(-Int×-Int)×N8×N7:=(x.1,x.2,.bool true)
def Ep (X:Cx) (body:-Nn) (t:(V->St->Hp->Prop)->St->Hp->Prop):Prop:=∀(O8:-(N8×Nv)) (s:N_) (σ:St) (H:Hp) (G:V->St->Hp->Prop),aH X O8 σ H s->t G σ H->
 Na (Nd X.prog X.w) X.A (execs body X.env) (λb s'=>∃u v a H',b=.ret u/\aH X O8 a H' s'/\a8 v u/\G v a H') (λe s'=>X.xe e s') s
theorem BW(c:PE X e te):Ep X [.Return (some e) pos] (λG σ H=>te σ H λv H'=>G v σ H'):=by
 intro O8 s σ H G I h
 show wpAny_execs_cons (wpAny_Return_some (bS (c O8 s σ H _ I h) λv s1 a=>?_))
 let⟨x,H1,I1,b,d⟩:=a
 show⟨v,x,σ,H1,Z,I1,b,d⟩
theorem yw{st:Nn}{rest:-Nn}{g:(V->St->Hp->Prop)->St->Hp->Prop}(h1:PS X st t)(c:Ep X rest g):Ep X (st::rest) (λG σ H=>t {nx:=λa H1=>g G a H1,rt:=λ_ _=>False} σ H):=by
 intro O8 s σ H G I h
 show wpAny_execs_cons (bS (h1 O8 s σ H _ I h) λf s1 q=>?_)
 cases f with
 |next=>
  let⟨b,H',I',q⟩:=q
  show c O8 s1 b H' G I' q
 |ret u=>
  let⟨_,_,_,_,_,q⟩:=q
  show False.elim q
 |brk=>
  let⟨_,_,_,q⟩:=q
  show False.elim q
 |cont=>
  let⟨_,_,_,q⟩:=q
  show False.elim q
theorem Un.own {fs:-N8}{a:Hp}{h h':Ng}{c:N8}{x:HO}(u:Un fs [] H a h h')(g:h.get? c=none)(d:a c=none):Un fs [] H (Ob a c x) h h' where
 keep:=u.keep
 slot:=u.slot
 free:=λb o e n f=>by rw[aj (λz=>by rw[z,g] at e;cases e)];show u.free b o e n f
 there:=u.there
 tups:=λb xs e=>by let z:=u.tups b xs e;rw[aj (ai z d)];show z
 frzs:=λb o y e=>by let z:=u.frzs b o y e;rw[aj (ai z d)];show z
 tbls:=λb ps e=>by let⟨more,z⟩:=u.tbls b ps e;show⟨more,aj (ai z d)<|z⟩
theorem Ep.nox{st:-Nn}{t:(V->St->Hp->Prop)->St->Hp->Prop}(h:Ep X.nox st t):Ep X st t:=λO8 s σ H G I c=>
 Km (h O8 s σ H G (I.wish _) c) (λ_ _ b=>by let⟨u,v,a,H',e,I',r,q⟩:=b;show⟨u,v,a,H',e,I'.unwish,r,q⟩) λ_ _ z=>False.elim z
noncomputable def fG (K:JI) (x:Nh):N8×N8:=(Ml K x).getD (0,0)
structure Gw (P:Ni) (w:Nr) (K:JI) (mg:Nh->Option N7) (O_:Ng) (C:N8) (x:Nh) (k:Nat) (ps:-Nh) (sp:Sp):Prop where
 ex:∃f fd,eL P w K mg O_ jH k f fd ps sp/\Mk K C f/\mg x>.ref C/\cA K fd ps []/\cA K fd ps [N7.none]/\cA K fd ps [N7.none,N7.none]
theorem sJ{f:Array (Option N7)}(hd:fd.defaults=.ref T)(b:K.lookup T>⟨oc,od,.seq items n,f⟩)
  (m:Nat) (e:↑ps=m+↑ds) (h:∀a:-N7,↑a=m->∃k,bindArgs fd ⟨a,[]⟩=(seqItems? fd.defaults>>=k)/\k (some items)=pure (ps.zip (a++ds))):cA K fd ps ds:=λs a d c=>by
 let⟨k,h1,h2⟩:=h a (by rw[e,JQ] at c;lia)
 show PySem.W.binds_K d hd b Z h1 h2
theorem CP {P:Ni}{k:Nat}{f:N8}{name qual:Nh}{params:Arguments}{body:-Nn}{scope:NS}{Z0 kV p pm j ct oc:N7}{X od:Option N8}
  {R:Array (Option N7)} {N ps:-Nh} {sp:Sp} {i1 a1:Nat} {y1:Nh} (lk:K.lookup f>⟨oc,od,.func (Kf name qual params body scope Z0 kV p pm X j ct),R⟩) (T:KR K j qual=true) (S:eF N ps scope)
  (len:∀vs H Q E,sp vs H Q E->↑vs=↑ps)
  (U:N[i1]?>y1) (M:scope.names.lookup y1>.cell) (D:∀n,(cellsFrom (n+1) scope.names []).lookup y1>(n+a1)) (p1:0<a1)
  (l:∀(A:Nu) (i:-O0) (s:N_) (H:Hp) (vs:-V) (Q:VK) (E:XK),aT k (A.deeper (envOfC qual scope (~~~s) f j))->sp vs H Q E->
   ∃g,Ep (mq jH P w K mg O_ N qual scope f j A i s H E) body g/\g (λv σ H'=>∃O,σ[i1]?>some O/\∀B C,H' (~~~s+a1)=none->H (~~~s+a1)=none->
    B.data=.cell (some C)->a8 O C->Q v (Ob H' (~~~s+a1) (iN (~~~s+a1) B))) (start N vs) H):
  eL P w K mg O_ jH (k+1) f (Kf name qual params body scope Z0 kV p pm X j ct) ps sp:=by
 show⟨len,λA i s H ac us vs Q E hr m hb r z=>?_⟩
 let hl:=len _ _ _ _ z
 let KX:K.In s.heap:=m.mod.kin.keeps λb o e=>(m.bs b o e).1
 let d:s.heap.NoLimit:=m.mod.nolimit.keeps λb o e=>(m.bs b o e).1
 let a:∀y∈ps.zip us,scope.names.lookup y.1>.local\/(scope.names.lookup y.1>.cell/\((cellsFrom (~~~s+1) scope.names []).lookup y.1).isSome=true):=λ⟨n,v⟩ hy=>by
  rcases S.par n (Me hy).1 with q|q
  ·show .inl q
  ·show .inr ⟨q,PySem.W.cellsFrom_some _ _ _ (.inl q)⟩
 show codeAny_call_function hr.depth (KX _ _ lk) Z S.co S.gen Z (PySem.W.codeRec_of KX T) (hb _ _ _ _ ?_)
 show wpAny_newFunctionEnv_cells S.kind a λenv he s1 x=>?_
 subst he
 show⟨d.keeps x.toInCall.keep,codeAny_func ?_⟩
 let⟨g,hg,hq⟩:=l A i s H vs Q E (hr.deeper _) z
 let I:aH (mq jH P w K mg O_ N qual scope f j A i s H E) [] (start N vs) H s1:=nY S hr.hd m hl r x
 show Km (hg [] s1 (start N vs) H _ I hq) (λfl s' L=>?_) λe s' L=>L
 let⟨u,v,a2,H',rfl,J,rv,O,h,q⟩:=L
 let⟨B,C,g1,d1,r1,F,_,_⟩:=J.ownCell (y:=y1) (c:= ~~~s+a1) U h M (D _) (show ~~~s<~~~s+a1 by lia)
 let Y:s.heap.get? (~~~s+a1)=none:=K2 (Lr _ _)
 show⟨v,_,J.os,J.bare,J.O_.own Y F,CD J.hok F g1,rv,q B C F (m.hok.none_of Y) d1 r1⟩
section
variable {P:Ni}
theorem za.okG1 {x qual:Nh}{st:Nn}{f:N8}{p:NM}{N ps:-Nh}{k:Nat}{sp:Sp}{j:N7}{i1 a1:Nat}{y1:Nh}(F:za K x qual st f p)(o:p.code=j)(S:eF N ps (aM st))(len:∀vs H Q E,sp vs H Q E->↑vs=↑ps)
  (u:N[i1]?>y1) (m:(aM st).names.lookup y1>.cell) (l:∀n,(cellsFrom (n+1) (aM st).names []).lookup y1>(n+a1)) (D:0<a1)
  (i:∀(A:Nu) (e:-O0) (s:N_) (H:Hp) (vs:-V) (Q:VK) (E:XK),aT k (A.deeper (envOfC qual (aM st) (~~~s) f j))->sp vs H Q E->
   ∃g,Ep (mq jH P w K mg O_ N qual (aM st) f j A e s H E).nox (bK st) g/\g (λv σ H'=>∃z,σ[i1]?>some z/\∀y B,H' (~~~s+a1)=none->H (~~~s+a1)=none->
    y.data=.cell (some B)->a8 z B->Q v (Ob H' (~~~s+a1) (iN (~~~s+a1) y))) (start N vs) H):eL P w K mg O_ jH (k+1) f p ps sp:=by
 let⟨O,M,kV,d,J,I,a,L,c,rfl,C,b⟩:=F.ex
 cases(show a=j from o)
 show CP C b S len u m l D λA e s H vs Q E hr r=>?_
 let⟨t,h,q⟩:=i A e s H vs Q E hr r
 show⟨t,h.nox,q⟩
end
theorem xg (k:X.calm=true):cy X (.builtin "sum") (λxs H Q=>∃(p:N8) (ns:-Int),xs=[.ref p]/\aN X.K H p (ns.map V.int)/\Q (.int ns.sum) H):=by
 intro O8 s σ H xs m Q I r h
 let⟨p,ns,rfl,hp,q⟩:=h
 let⟨u,rfl,i⟩:=dO r
 cases i
 let⟨a,l,j,n⟩:=I.list hp
 let hi:O6 a ns:=by simpa using gm l
 let⟨zs,e⟩:=hi.allInts.items
 let b:ns=zs.toList.map (·.1):=by rw[<-hi.numsOf,<-nums_intItems,<-e]
 let c:=j.isList
 rw[e] at c
 show sum_intListG (I.ok.hd k) c λh' tk d f=>?_
 let g:preSum (numAt zs) zs.size=ns.sum:=by
  rw[preSum_eq,Mn (by simp),b]
 rw[g]
 show⟨.int _,H,I.kept f,⟨d,Z⟩,q⟩
def Jh (K:JI) (H:Hp) (m:V) (l:-Int):Prop:=∃b i j k,m=.ref b/\a_ K H b [.int i,.int j,.int k]/\l=[i,j,k]
def FZ (K:JI) (H:Hp) (v:V) (k:-Int):Prop:=∃a p m l,v=.ref a/\a_ K H a [.int p,m]/\Jh K H m l/\k=p::l
theorem D8(o:O3 op){x y:V}{u v:N7}{B D:-Int}(I:aH X O8 σ H s)(S:A.units+12<NE)(hx:FZ X.K H x B)(F:FZ X.K H y D)(R:a8 x u)(M:a8 y v){w':Nr}{Q:N7->N_->Prop}(q:Q (.bool (rO op B D)) s):Na (Nd prog w') A (NP op u v) Q E s:=by
 let⟨a,p,_,_,rfl,ha,⟨b,i,j,k,rfl,hb,rfl⟩,rfl⟩:=hx
 let⟨a',C,_,_,rfl,l,⟨Z0,w,z,r,rfl,e,rfl⟩,rfl⟩:=F
 cases R
 cases M
 let⟨n,J,O,_⟩:=I.tuple ha
 let⟨m,N,p2,_⟩:=I.tuple l
 let⟨Y,W,rfl,⟨P,rfl⟩,f⟩:=fe J
 let⟨U,T,rfl,⟨L,rfl⟩,g⟩:=fe N
 cases f
 cases g
 show vQ o O p2 (.cons (DN _ s p P C L) (λ_ _ _ _ _=>Jf o) (.cons (HL I (c:=[i,j,k]) (d:=[w,z,r]) hb e (by change A.units+1+10<NE;lia)) (λ_ _ _ _ _=>zG I (c:=[i,j,k]) (d:=[w,z,r]) hb e o Z (by change A.units+1<NE;lia)) .nil)) () ?_
 rw[uV o] at q
 by_cases h:p=C
 ·rw[N1 h] at q
  rw[N3 h]
  by_cases h2:[i,j,k]=[w,z,r]
  ·rw[<-h2,Fv o] at q
   rw[N3 h2];show q
  ·rw[N5 h2];show q
 ·rw[N0 h] at q
  rw[N5 h];show q
def Iw (K:JI):R2:=λx y H Q=>∃a b,FZ K H x a/\FZ K H y b/\Q (.bl (HT.lexLt a b)) H
theorem yS(c:aT k X.A):gj X (Nk .Lt) (Iw X.K):=by
 intro O8 s σ H x y v u Q I a b h
 let⟨d,f,h1,h2,q⟩:=h
 let e:=c.units
 show D8 (.inl Z) I () h1 h2 a b ⟨.bl _,H,I,Z,q⟩
def HM (K:JI):R2:=λx y H Q=>∃a b,FZ K H x a/\FZ K H y b/\Q (.bl (!HT.lexLt b a)) H
theorem FQ(c:aT k X.A):gj X (Nk .LtE) (HM X.K):=by
 intro O8 s σ H x y v u Q I a b h
 let⟨d,f,h1,h2,q⟩:=h
 let e:=c.units
 show D8 (.inr (.inl Z)) I () h1 h2 a b ⟨.bl _,H,I,Z,q⟩
def A5 (K:JI) (a:Bool):R2:=λx y H Q=>∃(b p:N8) (as:-N8) (c:-Int) (cs:-(-Int)),x=.ref b/\y=.ref p/\H b>.tup (c.map V.int)/\a_ K H p (as.map V.ref)/\bH H as cs/\Q (.bl (if a then !decide (c∈cs) else decide (c∈cs))) H
theorem tm(i:aT k X.A):gj X (Nk .NotIn) (A5 X.K true):=by
 intro O8 s σ H x y v u Q I e f h
 let⟨b,p,as,c,cs,rfl,rfl,hb,hp,ht,q⟩:=h
 cases e
 cases f
 let⟨a,j,g,l⟩:=I.tuple hp
 cases fz j
 show SeqAt.notIn_tupleAt (ya H c) g (λw d=>pq i I hb ht w (by simpa using d)) ⟨.bl _,H,I,Z,?_⟩
 rw[show(as.map N7.ref).toArray.any (ya H c)=(as.map N7.ref).any (ya H c) by simp,pA ht]
 show q
theorem DC {a:N8}{xs:-V}{S:SV}{F:St->Hp->Prop}(b:Nat->St->Hp->Prop)(h0:b 0 σ H)(c:∀i σ H,i<=↑xs->b i σ H->a_ K H a xs)(d:∀i x σ H,xs[i]?>x->b i σ H->S (b (i+1)) x σ H)(hd:∀σ H,b ↑xs σ H->F σ H):xZ (HG K a) σ H S F:=by
 show gp ↑xs b h0 (λi σ H hi p=>⟨⟨xs,xs[i],c i σ H (Kh hi) p,by simp[hi]⟩,?_⟩) λσ H p=>⟨⟨xs,c _ σ H (JG _) p,JG _⟩,hd σ H p⟩
 rintro x _ ⟨rfl,y⟩
 show d i x σ _ (y xs (c i σ _ (Kh hi) p)) p
structure lX (P:Ni) (w:Nr) (K:JI) (mg:Nh->Option N7) (O_:Ng) (C:N8) (x:Nh) (k:Nat) (ps:-Nh) (sp:Sp) (n:Nat):Prop where
 ex:∃f fd,eL P w K mg O_ jH k f fd ps sp/\Mk K C f/\mg x>.ref C/\∀j,j<=n->∃ds,aZ (List.replicate j (.int 0)) ds/\cA K fd ps ds
section
variable {C:N8} {k n:Nat} {ps:-Nh} {sp:Sp} {x:Nh} {p pos:O1} {e:Nw} {es:-Nw} {t:TA} (G:lX X.prog X.w X.K X.mg X.O_ C x k ps sp n) (hr:aT (k+1) X.A) (hg:Gl X x) (ha:PA X (e::es) t) (hdb:(x==("__debug__" :Nh))=false:=by decide)
  (he:Nf (e::es) X.env=(false,eval e X.env)::Nf es X.env:=by rfl) (hpl:(NF pos (Nf es X.env)).any (·.1)=false:=by rfl)
include G hr hg ha hdb he hpl
theorem EM (j:Nat)(a:j<=n):PE X (.Call (.Name x p) (e::es) [] pos) (oq C sp (List.replicate j (.int 0)) E0 t):=by
 let⟨f,fd,F,M,hm,hb⟩:=G.ex
 let⟨ds,r,b⟩:=hb j a
 show vN M F hr hg hm b r lG ha hdb he hpl
theorem CW (h1:2<=n:=by decide):PE X (.Call (.Name x p) (e::es) [] pos) (oq C sp [.int 0,.int 0] E0 t):=EM G hr hg ha hdb he hpl 2 h1
end
theorem Cg(h0:cA K fd ps [])(h1:cA K fd ps [.int 0 t1])(a:cA K fd ps [.int 0 t0,.int 0 t1]):∀j,j<=2->∃ds,aZ (List.replicate j (.int 0)) ds/\cA K fd ps ds
 |0,_=>⟨_,.nil,h0⟩
 |1,_=>⟨_,.cons ⟨_,Z⟩ .nil,h1⟩
 |2,_=>⟨_,.cons ⟨_,Z⟩ (.cons ⟨_,Z⟩ .nil),a⟩
namespace TabB
open SetTable
abbrev IZ:=Nat->Option Int
section
variable {m:Nat} {f:IZ} {h:Int}
noncomputable def start (m:Nat) (h:Int):Probe:={j:=bits h%(m+1),more:=runEnd m (bits h%(m+1)) - bits h%(m+1),i:=bits h%(m+1),perturb:=bits h,dummy:=none}
end
noncomputable def fo (o:Array (Option Nat)) (a:Array Int):IZ:=λj=>(o.getD j none).bind λk=>a[k]?
end TabB
def Fh (K:JI) (b:TA):TI:=λσ H R=>b σ H λvs H1=>∃a,vs=[.ref a]/\(∃xs,aN K H1 a xs)/\R (HW 0 K a) H1
theorem yG(y:Gl X "enumerate")(o:X.mg "enumerate" =none)(k:NB "enumerate" >.type "enumerate")(n:PA X [l] ta)
  (x:Nf [l] X.env=[(false,eval l X.env)]:=by rfl):
  PI X (.Tuple elts x1 pt) (.Call (.Name "enumerate" p) [l] [] pos) (Fh X.K ta):=by
 intro O8 s σ H R I h
 show KQ (fW I y o k ?_ (by decide) (by decide))
 let d:=n pos O8 s σ H _ I h
 rw[x] at d|-
 show mL Z Z (evalArgs_kwB (rest:=[]) Z (bS d λA s1 i=>?_))
 let⟨vs,H1,I1,j,v⟩:=i
 let⟨a,rfl,⟨xs,hq⟩,q⟩:=v
 let⟨u,rfl,m⟩:=dO j
 cases m
 show kws_nil ?_
 let⟨e,z,w,B⟩:=I1.list hq
 show call_enumerate_list w.isList λh' f g _ r=>?_
 show wpAny_pyIter_enum (s:={s1 with heap:=h'}) f ?_
 show⟨~~~s1+1,[~~~s1+1,~~~s1],_,_,H1,Z,I1.kept (t':=s1.toks) r,xc 0 a _ _ (Nat.succ_ne_self _),⟨⟨_,f⟩,g⟩,λb hb=>?_,q⟩
 let c: ~~~s1<=b:=by
  rcases JO.mp hb with rfl|hb
  ·show Nat.le_succ _
  ·rw[JJ.mp hb];show JG _
 show I1.fpOk c (I1.hok.fresh c)
theorem w6 {a:N8}{xs:-V}{S:SV}{F:St->Hp->Prop}(b:Nat->St->Hp->Prop)(h0:b 0 σ H)(c:∀i σ H,i<=↑xs->b i σ H->aN K H a xs)(d:∀i y p σ H,xs[i]?>y->H p=none->b i σ H->S (b (i+1)) (.ref p) σ (Ob H p (.tup [.int ((i:Nat):Int),y])))(hd:∀σ H,b ↑xs σ H->F σ H):xZ (HW 0 K a) σ H S F:=by
 show gp ↑xs b h0 (λi σ H hi p=>⟨⟨xs,xs[i],c i σ H (Kh hi) p,by simp[hi]⟩,?_⟩) λσ H p=>⟨⟨xs,c _ σ H (JG _) p,JG _⟩,hd σ H p⟩
 rintro _ _ ⟨P,z,f,rfl,rfl,e⟩
 show d i z P σ _ (e xs (c i σ _ (Kh hi) p)) f p
theorem bJ {c:Type}:∀{b:-c},↑b=n+1->∃a r,b=a::r/\↑r=n
 |[],h=>by cases h
 |a::r,h=>⟨a,r,Z,Nat.succ.inj h⟩
theorem hV {a:Type}{us:-a}(h:↑us=0):us=[]:=Mo h
theorem Jg {d:Type}{us:-d}(h:↑us=2):∃a b,us=[a,b]:=by
 let⟨a,f,rfl,c⟩:=bJ h
 let⟨b,e,rfl,h1⟩:=bJ c
 cases hV h1
 show⟨a,b,Z⟩
theorem Jd {e:Type}{us:-e}(h:↑us=3):∃b c a,us=[b,c,a]:=by
 let⟨b,g,rfl,d⟩:=bJ h
 let⟨c,f,rfl,h1⟩:=bJ d
 let⟨a,i,rfl,h2⟩:=bJ h1
 cases hV h2
 show⟨b,c,a,Z⟩
theorem HK {g:Type}{us:-g}(h:↑us=4):∃c d a b,us=[c,d,a,b]:=by
 let⟨c,j,rfl,f⟩:=bJ h
 let⟨d,i,rfl,h1⟩:=bJ f
 let⟨a,l,rfl,h2⟩:=bJ h1
 let⟨b,k,rfl,e⟩:=bJ h2
 cases hV e
 show⟨c,d,a,b,Z⟩
theorem Jl {j:Type}{us:-j}(h:↑us=5):∃b d e c a,us=[b,d,e,c,a]:=by
 let⟨b,n,rfl,i⟩:=bJ h
 let⟨d,k,rfl,h1⟩:=bJ i
 let⟨e,o,rfl,h2⟩:=bJ h1
 let⟨c,l,rfl,g⟩:=bJ h2
 let⟨a,m,rfl,f⟩:=bJ g
 cases hV f
 show⟨b,d,e,c,a,Z⟩
theorem Jc {l:Type}{us:-l}(h:↑us=6):∃b d f c a e,us=[b,d,f,c,a,e]:=by
 let⟨b,p,rfl,k⟩:=bJ h
 let⟨d,m,rfl,h1⟩:=bJ k
 let⟨f,q,rfl,h2⟩:=bJ h1
 let⟨c,n,rfl,j⟩:=bJ h2
 let⟨a,o,rfl,g⟩:=bJ j
 let⟨e,r,rfl,i⟩:=bJ g
 cases hV i
 show⟨b,d,f,c,a,e,Z⟩
section
variable {P:Ni} {h:Ng} {x q:Nh} {f C:N8} {st:Nn} {k:Nat} {ps N:-Nh} {sp:Sp} {fd:NM}
noncomputable def Al (p:-N7->Prop):Nat->Prop
 |0=>p []
 |n+1=>∀a,Al (λl=>p (a::l)) n
theorem al {p:-N7->Prop}(h:↑us=n)(g:Al p n):p us:=by
 subst h
 induction us generalizing p with
 |nil=>show g
 |cons a l ih=>show ih (p:=λl=>p (a::l)) (g a)
def Bd (x q:Nh) (st:Nn) (ps:-Nh):Prop:=∀(kV b f:N7) (e:Option N8) (a d:N7),Al (λc=>bindArgs (Kf x q (bX st) (bK st) (aM st) .none kV b f e a d) ⟨c,[]⟩=pure (ps.zip c)) ↑ps
def ku (P:Ni) (w:Nr) (K:JI) (a:Nh->Option N7) (O_:Ng) (k:Nat) (x q:Nh) (st:Nn) (ps:-Nh) (sp:Sp):Prop:=Bd x q st ps/\∀{f fd},za K x q st f fd->eL P w K a O_ jH k f fd ps sp
abbrev gE (P:Ni) (w:Nr) (K:JI) (mg:Nh->Option N7) (O_:Ng) (k:Nat) (x:Nh) (st:Nn) (ps:-Nh) (sp:Sp):Prop:=ku P w K mg O_ k x x st ps sp
theorem rd (N:-Nh)(d:N.Nodup->∀{f:N8} {b:N7} {A:Nu} {a:-O0} {s:N_} (H:Hp) (vs:-V) (Q:VK) (E:XK),aT k (A.deeper (envOfC q (aM st) (~~~s) f b))->sp vs H Q E->
   ∃t,qN (mq jH P w K mg O_ N q (aM st) f b A a s H E).nox (bK st) t/\t {nx:=λ_ H'=>Q .non H',rt:=Q} (start N vs) H)
  (S:eF N ps (aM st):=by constructor<;>decide+kernel) (len:∀vs H Q E,sp vs H Q E->↑vs=↑ps:=by intro _ _ _ _ h;cases h;subst_vars;rfl)
  (c:Bd x q st ps:=by(repeat intro _);show Z):ku P w K mg O_ (k+1) x q st ps sp:=⟨c,λF=>F.ok S len λ_ _ _ _=>d S.nd⟩
def sX (K:JI) (f:N8) (x q:Nh) (st:Nn):Prop:=∃(g:N7) (b:Option N8) (kV e h:N7) (d:Option N8) (a c:N7) (i:Array (Option N7)),K.lookup f>⟨g,b,.func (Kf x q (bX st) (bK st) (aM st) .none kV e h d a c),i⟩/\KR K a q=true/\Ky K (.ref f)=true
theorem fnat{kV:N7}{a:Array (Option N7)}(l:K.lookup f>⟨oc,od,.func (Kf x q (bX st) (bK st) (aM st) .none kV dc pm an cd ct),a⟩)(c:KR K cd q=true)(k:Ky K (.ref f)=true):sX K f x q st:=⟨_,_,_,_,_,_,_,_,_,l,c,k⟩
def fL (K:JI) (x:Nh) (st:Nn):Prop:=∃f,PySem.W.nsIn K Nj x>some (.ref f)/\sX K f x x st
def jN (K:JI) (C:N8) (x q:Nh) (st:Nn):Prop:=∃f,KG K (.ref C) x>some (.ref f)/\LS K (.ref f)=true/\sX K f x q st
theorem fng (a:PySem.W.nsIn K Nj x>some (.ref f))(l:sX K f x x st):fL K x st:=⟨f,a,l⟩
theorem meg (a:KG K (.ref C) x>some (.ref f))(i:LS K (.ref f)=true)(l:sX K f x q st):jN K C x q st:=⟨f,a,i,l⟩
structure ClG (K:JI) (C:N8) (x:Nh):Prop where
 n:PySem.W.nsIn K Nj x>some (.ref C)
 pg:Mc K C Nh.empty=true
 hd:Mt K C=true
 po:PySem.W.plainOver K C=true
 sa:KG K (.ref C) "__setattr__" >some (.builtin "object.__setattr__")
 mi:PySem.W.makesIn K C=true
 kc:Ky K (.ref C)=true
theorem ClG.cl (g:ClG K C x):pJ K C:=⟨g.pg,g.hd,g.po,g.sa⟩
theorem sX.go (l:sX K f x q st)(r:ku P w K mg O_ k x q st ps sp):∃fd,eL P w K mg O_ jH k f fd ps sp/\Ky K (.ref f)=true/\cA K fd ps []:=by
 let⟨_,_,_,_,_,_,_,_,_,l,c,i⟩:=l
 let F:=pF (st:=st) l c i
 show⟨_,r.2 F,i,F.binds λa b c d e g j h=>al h (r.1 a b c d e g)⟩
theorem fL.go (X:K.In h)(G:h.Ns Nj mg)(l:fL K x st)(r:ku P w K mg O_ k x x st ps sp):aU P w K mg O_ x k ps sp:=by
 let⟨f,a,l⟩:=l
 let⟨fd,o,c,b⟩:=l.go r
 show⟨f,fd,o,L9 X G a,c,b⟩
theorem jN.go (l:jN K C x q st)(r:ku P w K mg O_ k x q st ps sp):bQ P w K mg O_ C x k ps sp:=by
 let⟨f,a,i,l⟩:=l
 let⟨fd,o,c,b⟩:=l.go r
 show⟨f,fd,o,⟨a,i,c⟩,b⟩
theorem jN.init (X:K.In h)(G:h.Ns Nj mg){n:Nh}(c:ClG K C n)(l:jN K C "__init__" q st)(r:ku P w K mg O_ k "__init__" q st ps sp):fv P w K mg O_ C n k ps sp:=by
 let⟨f,a,i,l⟩:=l
 let⟨fd,o,d,b⟩:=l.go r
 show⟨f,fd,o,⟨c.mi,a,i,c.kc⟩,L9 X G c.n,b⟩
theorem fL.law (X:K.In h)(G:h.Ns Nj mg)(l:fL K x st)(hf:mg x>.ref f):∃fd,za K x x st f fd/\∃kV g e d b ct,fd=Kf x x (bX st) (bK st) (aM st) .none kV g e d b ct:=by
 let⟨f,a,_,_,_,_,_,_,_,_,_,l,c,k⟩:=l
 cases hf.symm.trans (L9 X G a)
 show⟨_,pF l c k,_,_,_,_,_,_,Z⟩
end
section
variable {x:Nh} {pos pos' p:O1} {e a b tg iter elt:Nw} {es ifs:-Nw} {te ta tb:TE} {t:TA} {r:R2} {k j:Nat} {ps:-Nh} {sp:Sp} {id:String} {rl:-V->Hp->VK->Prop} {wi:TI} {g:TG} {ts:TS} {tt:TT} {body:-Nn} {scope:NS}
def ns:Nw->Bool
 | .Starred .. =>false
 |_=>true
theorem sZ(h:ns e=true):Nf (e::es) env=(false,eval e env)::Nf es env:=by
 cases e<;>first|rfl|cases h
theorem FG(h:es.all ns=true):(NF pos (Nf es env)).any (·.1)=false:=by
 induction es with
 |nil=>rfl
 |cons e l ih=>
  rw[List.all_cons,Kd] at h
  rw[sZ h.1]
  show ih h.2
theorem b2(h:(m&&n)=true):m=true/\n=true:=by simpa using h
noncomputable def cb (X:Cx) (x:Nh) (a:-Nw):Bool:=decide (X.env.kindOf x>.globalImplicit)&&(!(x==("__debug__" :Nh))&&a.all ns)
theorem A9 (h:cb X x es=true):Gl X x/\(x==("__debug__" :Nh))=false/\es.all ns=true:=by simpa[cb,Gl] using h
noncomputable def vb (X:Cx) (i:Nat) (x:Nh):Bool:=decide (X.N[i]?>x)&&(!(x==("__debug__" :Nh))&&(!(x==("__classdict__" :Nh))&&(decide (X.env.scope.names.lookup x>.local)||(decide (X.env.scope.names.lookup x>.cell)||decide (X.env.scope.names.lookup x>.free)))))
theorem aq (i:Nat)(h:vb X i x=true:=by show Eq.refl true):PE X (.Name x pos) (bI i):=by
 simp only[vb,Kd,Bool.or_eq_true,decide_eq_true_eq,L1] at h
 show Fl h.1 h.2.2.2 h.2.1 h.2.2.1
noncomputable def sb (X:Cx) (i:Nat) (x:Nh):Bool:=decide (X.N[i]?>x)&&((decide (X.env.scope.names.lookup x>.local)||decide (X.env.scope.names.lookup x>.cell))&&(X.fn x||decide (X.env.scope.names.lookup x>.local)))
theorem zJ (h:sb X i x=true):X.N[i]?>x/\Gm X.env.scope x/\(X.fn x=true\/X.env.scope.names.lookup x>.local):=by
 simp only[sb,Kd,Bool.or_eq_true,decide_eq_true_eq] at h
 show h
theorem bw (i:Nat)(a:X.N.Nodup)(h:sb X i x=true:=by show Eq.refl true):PG X (.Name x pos) (dH i):=let ⟨hi,hx,hf⟩:=zJ h;Dh a hi hx hf
theorem eM (i:Nat)(h:(decide X.N.Nodup&&sb X i x)=true:=by show Eq.refl true):PG X (.Name x pos) (dH i):=let ⟨n,h⟩:=b2 h;bw i (N4 n) h
theorem a9 (i:Nat)(b:X.N.Nodup)(a:PE X e te)(h:sb X i x=true:=by show Eq.refl true)(c:swapsWith e (some (.Name x pos')) pos.line X.env=pure false:=by rfl):PS X (.Assign [.Name x pos'] e pos) (iC te (dH i)):=let ⟨hi,hx,hf⟩:=zJ h;FV b hi hx a c hf
theorem aG (d:Fk X r)(e:PE X a ta)(c:PE X b tb)(f:vE b:=by show λ_ _=>rfl):PE X (.Subscript a b pos) (e9 r ta tb):=GZ d e c f
theorem bR (C:aU X.prog X.w X.K X.mg X.O_ x k ps sp)(a:aT j X.A)(b:PA X (e::es) t)(c:k<=j:=by first|decide|show JG _)(h:cb X x (e::es)=true:=by show Eq.refl true):PE X (.Call (.Name x p) (e::es) [] pos) (fS sp [] E0 t):=let ⟨g,d,s⟩:=A9 h;let ⟨u,v⟩:=b2 s;AR C (a.mono c) g b d (sZ u) (FG v)
theorem bW (b:cy X (.builtin id) rl)(f:X.mg x=none)(c:PA X (e::es) t)(a:NB x>.builtin id:=by decide+kernel)(h:(!(x==("__name__" :Nh))&&cb X x (e::es))=true:=by show Eq.refl true):PE X (.Call (.Name x p) (e::es) [] pos) (zf rl t):=let ⟨n,h⟩:=b2 h;let ⟨g,d,s⟩:=A9 h;let ⟨u,v⟩:=b2 s;Ad b g f a c (by simpa using n) d (sZ u) (FG v)
theorem fO(b:cy X (.type T) rl)(f:X.mg x=none)(c:PA X (e::es) t)(a:NB x>.type T:=by decide+kernel)(h:(!(x==("__name__" :Nh))&&cb X x (e::es))=true:=by show Eq.refl true):PE X (.Call (.Name x p) (e::es) [] pos) (zf rl t):=let ⟨n,h⟩:=b2 h;let ⟨g,d,s⟩:=A9 h;let ⟨u,v⟩:=b2 s;oF b g f a c (by simpa using n) d (sZ u) (FG v)
theorem cu(e:gj X (Nk op) r)(c:PE X a ta)(d:PE X b tb)(f:behindInMarks op b=false:=by show AN _):PT X (.Compare a [op] [b] pos) (oA (e9 r ta tb)):=eT e c d f
theorem zo(e:gj X (Nk op) r)(c:PE X a ta)(d:PE X b tb)(f:behindInMarks op b=false:=by show AN _):PE X (.Compare a [op] [b] pos) (e9 r ta tb):=pU e c d f
theorem mS (e:X.mg "range" =none)(b:PA X [a] t)(d:Gl X "range" :=by rfl)(c:Nf [a] X.env=[(false,eval a X.env)]:=by rfl):PI X tg (.Call (.Name "range" p) [a] [] pos) (qo t):=wX d e b c
theorem cK{st:Nn}(a:PT X c tt)(h:PS X st ts):PS X (.If c [st] [] pos) (ly tt ts qU):=m8 a (aW h) h_
theorem aS {s u:Nn}{a:TS}(h:PS X s ts)(h':PS X u a):qN X [s,u] (eD ts a):=au h (aW h')
theorem aI (b:PE X a ta)(h:ns a=true:=by show Eq.refl true):PA X [a] (cz ta e8):=aO b cW (sZ h)
theorem aF (c:PE X a ta)(d:PE X b tb)(h:(ns a&&ns b)=true:=by show Eq.refl true):PA X [a,b] (cz ta (cz tb e8)):=let ⟨h,i⟩:=b2 h;aO c (aO d cW (sZ i)) (sZ h)
theorem dq (d:PI X tg iter wi)(f:PG X tg g)(b:qN X body ts)(a:NN (Nd X.prog X.w) X.A X.env X.xe:=by show NN.never)(c:X.calm=true:=by rfl)(e:∀x,NJ iter X.env x=pure x:=by intro _;rfl):PS X (.For tg iter body [] pos) (iR wi g ts):=EF a c d f b e
noncomputable def kb (X:Cx) (scope:NS) (ys:-Nh) (a:-Nat):Bool:=X.calm&&(decide (scope.kind=.function)&&((scope.names.all λy=>y.2 !=.cell)&&((scope.names.all λy=>y.2 !=.local||scope.names.lookup y.1==some .local)&&((scope.names.all λy=>y.2 !=.free||X.env.kindOf y.1==some .cell)&&((ys.all λy=>scope.names.lookup y==some .free)&&decide (a.map (λj=>X.N[j]?)=ys.map some))))))
theorem En (g:-Nh){ys:-Nh}{ix:-Nat}(h:kb X scope ys ix=true):X.calm=true/\eR X scope g ys ix:=by
 let⟨a,h⟩:=b2 h
 let⟨b,h⟩:=b2 h
 let⟨c,h⟩:=b2 h
 let⟨d,h⟩:=b2 h
 let⟨e,h⟩:=b2 h
 let⟨f,h⟩:=b2 h
 show⟨a,N4 b,c,d,e,f,N4 h⟩
theorem jb (a ys:-Nh)(b:-Nat)(f:PI X tg iter wi)(h:∀{cl C s H fp},PG (cC X (a++ys) scope cl C s H fp) tg g)(ht:∀{cl C s H fp},PF (cC X (a++ys) scope cl C s H fp) ifs tt)(e:∀{cl C s H fp},PE (cC X (a++ys) scope cl C s H fp) elt te)(k:kb X scope ys b=true:=by show Eq.refl true)(d:∀x,NJ iter X.env x=pure x:=by intro _;rfl):PE X (.ListComp elt [⟨tg,iter,ifs,0⟩] scope pos) (H_ wi ↑a b g tt te):=let ⟨c,o⟩:=En a k;GP c o f (λ_ _ _ _ _=>h) (λ_ _ _ _ _=>ht) (λ_ _ _ _ _=>e) d
theorem rS (i:Nat)(e ys:-Nh)(f:-Nat)(m:X.N.Nodup)(n:PI X tg iter wi)(q:∀{cl C s H fp},PG (cC X (e++ys) scope cl C s H fp) tg g)(ht:∀{cl C s H fp},PF (cC X (e++ys) scope cl C s H fp) ifs tt)(l:∀{cl C s H fp},PE (cC X (e++ys) scope cl C s H fp) elt te)(k:kb X scope ys f=true:=by show Eq.refl true)(h:sb X i x=true:=by show Eq.refl true)(j:∀x,NJ iter X.env x=pure x:=by intro _;rfl)(r:swapsWith (.ListComp elt [⟨tg,iter,ifs,0⟩] scope pos) (some (.Name x p)) pos'.line X.env=pure true:=by rfl):PS X (.Assign [.Name x p] (.ListComp elt [⟨tg,iter,ifs,0⟩] scope pos) pos') (uv wi ↑e f g tt te i):=let ⟨a,b,c⟩:=zJ h;let ⟨d,o⟩:=En e k;y8 d m a b o n (λ_ _ _ _ _=>q) (λ_ _ _ _ _=>ht) (λ_ _ _ _ _=>l) j r c
end
section
open PySem.SeqAt PySem.MeetsSeq PySem.MeetsSeq2 PySem.MeetsSeq3 PySem.SeqRoads2
open PySem.AutoSeq1 (wpAny_loadPart')
theorem lP (l:N8)(items:Array N7)(n:Nat)(b:Option N8)(e:Array (Option N7))(x y:N7)(h0:items[0]?>y):
  Meets (Nc.«list.__contains__» ⟨[.ref l,x],[]⟩)
   (λA R s=>s.heap.get? l=some {cls:=.type "list",dict:=b,data:=.seq items n,slots:=e}/\EqAt A.in1 s y x true/\R (.ok (.ret (.bool true))) s):=by
 intro prog w A R s h
 let⟨hp,g,d,tk,os⟩:=s;let⟨a,c,h⟩:=h
 wp_walk using Nz a
 show⟨Ny plain_contains_loop _,Nt entry_contains_loop ?_⟩
 rw[Nu.under_plainId plain_contains_loop _]
 wp_walk using Nz a
 let hi:items[((0:Nat):Int).toNat]?>y:=h0
 rw[show items[(0:Int).toNat]?>y from h0]
 show JD (c prog w _ _ ?_)
 wp_walk
 show h
theorem pI (l:N8)(items:Array N7)(n:Nat)(x y:N7)(h0:items[0]?>y)(b:items.size<=N9):
  Meets (Nc.«list.remove» ⟨[.ref l,x],[]⟩)
   (λA R s=>s.heap.get? l=some {cls:=.type "list",dict:=none,data:=.seq items n,slots:= #[]}/\EqAt A.in1 s y x true/\R (.ok (.ret .none)) {s with heap:=s.heap.update l (Nv.mapSeq λxs=>xs.eraseIdxIfInBounds 0)}):=by
 intro prog w A R s h
 let⟨hp,g,d,tk,os⟩:=s;let⟨c,e,h⟩:=h
 wp_walk using Nz c
 show⟨Ny plain_remove_loop _,Nt entry_remove_loop ?_⟩
 rw[Nu.under_plainId plain_remove_loop _]
 wp_walk using Nz c
 rw[show items[(0:Int).toNat]?>y from h0]
 show JD (e prog w _ _ ?_)
 let a:(items.eraseIdxIfInBounds 0).size<=N9+1:=J1 (size_erased items _) (Nat.le_succ_of_le b)
 wp_walk using (Lq c Z (hz:=b) (_hz':=a)),Nz c
 simpa using h
end
def G4 (K:JI) (H:Hp) (a b:N8):Prop:=∃t d e,a≠b/\H a>.tup [.int t,d]/\H b>.tup [.int t,e]/\Ji K H d e
theorem Ag(I:aH X O8 σ H s)(h:G4 X.K H a b)(u:A.units+63<NE):SeqAt.EqAt A s (.ref a) (.ref b) true:=by
 let⟨t,d,e,n,ha,hb,m⟩:=h
 let⟨i1,c,q,_⟩:=I.tuple (a_.of ha)
 let⟨i2,o,p2,_⟩:=I.tuple (a_.of hb)
 let⟨v,x,rfl,l,g⟩:=fe c
 let⟨w,r,rfl,p,k⟩:=fe o
 let⟨f,rfl⟩:=l
 let⟨i,rfl⟩:=p
 let z:=SeqAt.RcAt.tuples (A:=A) (e:=λ_=>true) q p2 () (λj h1 h2=>by
  have:j=0\/j=1:=by simp at h1;lia
  rcases this with rfl|rfl
  ·have:=SeqAt.EqAt.int_int (A:=A.in1) (s:=s) t f t i
   rw[beq_self_eq_true] at this
   show this
  ·show C0 (A:=A.in1) I m g k (by change A.units+1+62<NE;lia))
 show SeqAt.EqAt.of_refs n z
def GV (K:JI):R2:=λx y H Q=>∃(a b p:N8) (ys:-V),x=.ref b/\y=.ref p/\H p>.lst (.ref a::ys)/\G4 K H a b/\Q (.bl false) H
theorem xk(j:aT k X.A):gj X (Nk .NotIn) (GV X.K):=by
 intro O8 s σ H x y v u Q I f g h
 let⟨a,b,p,ys,rfl,rfl,hp,d,q⟩:=h
 cases f
 cases g
 let⟨z,c,n,r,l,e⟩:=I.lstM hp
 let m:=j.units
 cases c with
 |nil=>cases r
 |cons y0 c=>
  let i:a8 (.ref a) y0:=by cases r;assumption
  cases i
  show PySem.SeqRoads2.notIn_meets ⟨_,e,Z⟩ F.slot_list_contains F.entry_list_contains (F.args_list_contains_2 _ _) (lP p _ n _ _ _ (.ref a) Z) ⟨e,Ag I d (by change X.A.units+1+63<NE;lia),_,Z,⟨.bl false,H,I,Z,q⟩⟩
noncomputable def Hc (K:JI):V->-V->Hp->VK->Prop:=λx vs H Q=>∃(a b p:N8) (ys:-V),x=.ref p/\vs=[.ref b]/\H p>.lst (.ref a::ys)/\G4 K H a b/\Q .non (Ob H p (.lst ys))
theorem tD(j:aT k X.A):Gx X "list.remove" (Hc X.K):=by
 intro O8 s σ H x vs v o Q I i l h
 let⟨a,b,p,ys,rfl,rfl,hp,f,q⟩:=h
 cases i
 let⟨u,rfl,d⟩:=dO l
 cases d
 let⟨z,c,n,r,g,e⟩:=I.lstM hp
 let m:=j.units
 cases c with
 |nil=>cases r
 |cons y0 c=>
  cases r with
  |cons r0 r=>
   cases r0
   show call_meets F.slot_list_remove ⟨_,e,Z⟩ F.entry_list_remove (F.args_list_remove_2 _ _) (pI p _ n _ (.ref a) Z (by rw[J8,<-g];show z)) ⟨e,Ag I f (by change X.A.units+1+63<NE;lia),?_⟩
   show⟨.non,_,I.lset (its':=c) hp e ?_ r ?_,Z,q⟩
   ·apply Array.ext';simp[Array.eraseIdxIfInBounds]
   ·simp at z|-;lia
abbrev tS (h:Ng) (z TI TO a:N8) (f:Bool):Prop:=h.get? z=some {cls:=.type "zip",dict:=none,data:=.fields #[NI a,.bool f,.bool false,.ref TI,.ref TO],slots:= #[]}
theorem Av{Q:Option Nv->N_->Prop}(b:s.heap.get? a>o)(h:Q (some o) s):Na (Nd prog w) A (loadIfAlive a) Q E s:=by
 let h':Q (s.heap.get? a) s:=b<|h
 show λ_ _ _=>h'
theorem uQ{TI TO:N8}{Q:Bool->N_->Prop}(hz:tS s.heap z TI TO a0 f)(e:s.heap.get? a0>oa)(d:∀g,tS g z TI TO a0 true->Ng.SameBut z s.heap g->Q false {s with heap:=g}):
  Na (Nd prog w) A (Nc.SmallTypes.ownedTupleIsFree (.ref z)) Q E s:=by
 unfold Nc.SmallTypes.ownedTupleIsFree
 show JD (Ke hz Z (x:=NI a0) Z ?_)
 change Na _ _ (loadIfAlive ((a0:Int).toNat)>>=_) _ _ _
 rw[Kv]
 show JD (Av e ?_)
 simp only[Option.isNone_some,LF,if_false]
 show JD (Ke hz Z (x:=.bool f) Z ?_)
 cases f with
 |true=>
  rw[N0 (show¬((N7.bool true !=N7.bool true)=true) from JR)]
  show JE (d s.heap hz (Ng.SameBut.refl _ _))
 |false=>
  rw[N1 (show(N7.bool false !=N7.bool true)=true from Z)]
  show JD (KY hz (by simp) λc b a=>JE (d c b a))
theorem BU {z TI TO i1 h H I l:N8}{f:Bool}{P:Nv}{xs ys:Array N7}{C m:Nat->Ng->Prop}{i:Nat}{x y:N7}{Q:N7->N_->Prop}(D:ZA z TI TO i1 h H I)(u:Nx prog w A i1 H xs C)(p:Nx prog w A h I ys m)
  (hz:tS s.heap z TI TO l f) (S:s.heap.get? l>P) (r:NH s.heap TI (.ref i1) (.ref h)) (h1:C i s.heap) (U:m i s.heap) (hx:xs[i]?>x) (J:ys[i]?>y)
  (M:∀h',tS h' z TI TO l true->C (i+1) h'->m (i+1) h'->NH h' (~~~s) x y->h'.objs.size= ~~~s+1->
   (∀c o,c≠z->c≠i1->c≠h->s.heap.get? c>o->h'.get? c>o)->Q (.ref (~~~s)) {s with heap:=h'}):
  Na (Nd prog w) A (Nc.«zip.__next__» ⟨[.ref z],[]⟩) (λF s'=>∃v,F=.done (.ret v)/\Q v s') E s:=by
 change Na _ _ (field (.ref z) 2>>=_) _ _ _
 show JD (Ke hz Z (x:=.bool false) Z ?_)
 change Na _ _ (field (.ref z) 3>>=_) _ _ _
 show JD (Ke hz Z (x:=.ref TI) Z (JD (KC r Z ?_)))
 change Na _ _ (Nc.SmallTypes.ownedTupleIsFree (.ref z)>>=_) _ _ _
 show JD (uQ hz S λK O g=>?_)
 simp only[LF,if_false]
 rw[<-Mz]
 show JD ?_
 simp only[Mh,List.forIn_nil]
 show JD ?_
 show JD (J_ ?_)
 change Na _ _ (Nc.SmallTypes.nextOf (.ref i1)>>=_) _ _ _
 show JD (u.item i {s with heap:=K} _ _ x (u.keep _ _ _ h1 (λo e=>g.extBut _ _ D.i1z e) (λo e=>g.extBut _ _ D.s1z e)) hx λT L k=>JE ?_)
 show JE ?_
 dsimp only
 show JD ?_
 show JD (J_ ?_)
 change Na _ _ (Nc.SmallTypes.nextOf (.ref h)>>=_) _ _ _
 show JD (p.item i {s with heap:=T} _ _ y (p.keep _ _ _ U (λo e=>k.extBut _ _ D.i12.symm (g.extBut _ _ D.i2z e)) (λo e=>k.extBut _ _ D.s2i1 (g.extBut _ _ D.s2z e))) J λd R j=>JE ?_)
 show JE (JE ?_)
 show JD (wpAny_newTuple ?_ (show 2<=N9 by decide))
 show JE ⟨_,Z,?_⟩
 let b:d.objs.size= ~~~s:=by rw[j.1,k.1,g.1]
 let a:∀c o,c≠z->c≠i1->c≠h->s.heap.get? c>o->d.get? c>o:=λc o n B q e=>j.extBut _ _ q (k.extBut _ _ B (g.extBut _ _ n e))
 let N:tS d z TI TO l true:=j.extBut _ _ D.i2z.symm (k.extBut _ _ D.i1z.symm O)
 change Q (.ref d.objs.size) _
 let hp:NH (d.push {cls:=.type "tuple",data:=.seq #[x,y]}) d.objs.size x y:=JT _ Z
 let sz:(d.push {cls:=.type "tuple",data:=.seq #[x,y]}).objs.size=d.objs.size+1:=Kq ..
 rw[b] at hp sz|-
 show M _ (JK _ N) (u.keep _ _ _ L (λo e=>JK _ (j.extBut _ _ D.i12 e)) (λo e=>JK _ (j.extBut _ _ D.s1i2 e)))
  (p.keep _ _ _ R (λo e=>JK _ e) (λo e=>JK _ e)) hp sz λc o n B q e=>JK _ (a c o n B q e)
theorem FU{TI TO:N8}{m p:Nat->Ng->Prop}{Q:Fin->N_->Prop}(r:A.handled=none)(D:ZA z TI TO i1 i2 s1 s2)(h:Nx prog w A i1 s1 xs m)(v:Nx prog w A i2 s2 ys p)
  (hz:tS s.heap z TI TO a0 f) (F:s.heap.get? a0>oa) (g:NH s.heap TI (.ref i1) (.ref i2)) (h1:m i s.heap) (I:p i s.heap) (b:xs[i]?=none\/ys[i]?=none)
  (y:∀h' e,(∀c o,c≠z->c≠TO->c≠i1->c≠i2->s.heap.get? c>o->h'.get? c>o)->(∃o,h'.get? e>o/\o.cls=.type "StopIteration")->E (.ref e) {s with heap:=h'}):
  Na (Nd prog w) A (Nc.«zip.__next__» ⟨[.ref z],[]⟩) Q E s:=by
 change Na _ _ (field (.ref z) 2>>=_) _ _ _
 show JD (Ke hz Z (x:=.bool false) Z ?_)
 change Na _ _ (field (.ref z) 3>>=_) _ _ _
 show JD (Ke hz Z (x:=.ref TI) Z (JD (KC g Z ?_)))
 change Na _ _ (Nc.SmallTypes.ownedTupleIsFree (.ref z)>>=_) _ _ _
 show JD (uQ hz F λg1 K a=>?_)
 simp only[LF,if_false]
 rw[<-Mz]
 show JD ?_
 simp only[Mh,List.forIn_nil]
 show JD ?_
 show JD (J_ ?_)
 change Na _ _ (Nc.SmallTypes.nextOf (.ref i1)>>=_) _ _ _
 let u:m i g1:=h.keep _ _ _ h1 (λo e=>a.extBut _ _ D.i1z e) (λo e=>a.extBut _ _ D.s1z e)
 cases hx:xs[i]? with
 |none=>show JD (h.done i {s with heap:=g1} _ _ r u hx λh' e k n=>y h' e (λc o d _ l _ q=>k c o l (a.extBut _ _ d q)) n)
 |some x=>
  let B:ys[i]?=none:=b.resolve_left (by rw[hx];simp)
  show JD (h.item i {s with heap:=g1} _ _ x u hx λH J j=>JE ?_)
  show JE ?_
  dsimp only
  show JD ?_
  show JD (J_ ?_)
  change Na _ _ (Nc.SmallTypes.nextOf (.ref i2)>>=_) _ _ _
  show JD (v.done i {s with heap:=H} _ _ r (v.keep _ _ _ I (λo e=>j.extBut _ _ D.i12.symm (a.extBut _ _ D.i2z e)) (λo e=>j.extBut _ _ D.s2i1 (a.extBut _ _ D.s2z e))) B λh' e k n=>y h' e (λc o d _ l C q=>k c o C (j.extBut _ _ l (a.extBut _ _ d q))) n)
structure Bn (h:Ng) (z TI TO i1 i2 l1 l2 S:N8) (xs ys:Array N7) (i:Nat):Prop where
 ti:NH h TI (.ref i1) (.ref i2)
 to:∃a b,NH h TO a b
 q1:h.IsListIter i1 l1 i/\h.IsList l1 xs
 q2:h.IsListIter i2 l2 i/\h.IsList l2 ys
 zz:IsZip h z TI TO .none\/∃a f oa,tS h z TI TO a f/\h.get? a>oa/\S<a
structure Hn (z TI TO i1 i2 l1 l2 S:N8):Prop where
 z:z<S
 TI:TI<S
 TO:TO<S
 i1:i1<S
 i2:i2<S
 l1:l1≠S
 l2:l2≠S
theorem Bn.keep{TI TO:N8}(x:Bn h z TI TO i1 i2 l1 l2 S xs ys i)(L:Hn z TI TO i1 i2 l1 l2 S)(c:∀b o,b≠S->h.get? b>o->h'.get? b>o):Bn h' z TI TO i1 i2 l1 l2 S xs ys i:=by
 let⟨n,⟨a,b,to⟩,g,e,d⟩:=x
 show⟨c _ _ (JP L.TI) n,⟨a,b,c _ _ (JP L.TO) to⟩,⟨g.1.at λo=>c _ o (JP L.i1),g.2.at λo=>c _ o L.l1⟩,⟨e.1.at λo=>c _ o (JP L.i2),e.2.at λo=>c _ o L.l2⟩,?_⟩
 rcases d with d|⟨a,f,k,m,l,j⟩
 ·show .inl (c _ _ (JP L.z) d)
 ·show .inr ⟨a,f,k,c _ _ (JP L.z) m,c _ _ (Kx j) l,j⟩
theorem Bn.type{TI TO:N8}(x:Bn s.heap z TI TO i1 i2 l1 l2 S xs ys i):s.TypeIs (.ref z) "zip" :=by
 rcases x.zz with b|⟨a,f,d,c,_,_⟩
 ·show⟨_,b,Z⟩
 ·show⟨_,c,Z⟩
theorem Bq{TI TO:N8}(D:ZA z TI TO i1 i2 l1 l2)(L:Hn z TI TO i1 i2 l1 l2 S)(st:Bn s.heap z TI TO i1 i2 l1 l2 S xs ys i)(O:S<~~~s)(K:l1≠i1)(v:l2≠i2)(hx:xs[i]?>x)(u:ys[i]?>y)
  (C:∀h',Bn h' z TI TO i1 i2 l1 l2 S xs ys (i+1)->NH h' (~~~s) x y->h'.objs.size= ~~~s+1->(∀c o,c≠z->c≠TO->c≠i1->c≠i2->s.heap.get? c>o->h'.get? c>o)->Q (some (.ref (~~~s))) {s with heap:=h'}):
  Na (Nd prog w) A (NG (.ref z)) Q E s:=by
 let j:=st.type
 let⟨g,⟨a,b,to⟩,J,H,l⟩:=st
 unfold NG
 rcases l with l|⟨I,f,R,U,B,M⟩
 ·show JD (KA (KB (name:=Nh.ofString "__next__") j F.slot_zip_next (Ka F.slot_zip_next j F.entry_zip_next
   (vY D (Nx.list K) (Nx.list v) l g to J H hx u λh' p W r n k m d=>JE ?_) (F.args_zip_next_1 _))))
  show C h' ⟨d _ _ D.TIz D.TITO D.TIi1 D.TIi2 g,⟨_,_,W⟩,r,n,.inr ⟨_,false,_,p,k,O⟩⟩ k m d
 ·show JD (KA (KB (name:=Nh.ofString "__next__") j F.slot_zip_next (Ka F.slot_zip_next j F.entry_zip_next
   (BU D (Nx.list K) (Nx.list v) U B g J H hx u λh' p r n k m d=>JE ?_) (F.args_zip_next_1 _))))
  let q:∀{c:N8},c<S->I≠c:=λh e=>Ku _ (Nat.lt_trans M (e▸h))
  show C h' ⟨d _ _ D.TIz D.TIi1 D.TIi2 g,⟨_,_,d _ _ D.TOz D.TOi1 D.TOi2 to⟩,r,n,.inr ⟨I,true,R,p,d _ _ (q L.z) (q L.i1) (q L.i2) B,M⟩⟩ k m λc o N _ T P e=>d c o N T P e
theorem Fw{TI TO:N8}(q:A.handled=none)(D:ZA z TI TO i1 i2 l1 l2)(st:Bn s.heap z TI TO i1 i2 l1 l2 S xs ys i)(u:l1≠i1)(n:l2≠i2)(g:xs[i]?=none\/ys[i]?=none)
  (B:∀h',(∀c o,c≠z->c≠TO->c≠i1->c≠i2->s.heap.get? c>o->h'.get? c>o)->Q none {s with heap:=h'}):Na (Nd prog w) A (NG (.ref z)) Q E s:=by
 let j:=st.type
 let⟨v,⟨a,b,to⟩,r,p,l⟩:=st
 let d:∀h' e,(∀c o,c≠z->c≠TO->c≠i1->c≠i2->s.heap.get? c>o->h'.get? c>o)->(∃o,h'.get? e>o/\o.cls=.type "StopIteration")->Na (Nd prog w) A (do if<-isInstance (.ref e) (.type "StopIteration") then pure none else throw (.ref e)) Q E {s with heap:=h'}:=λh' e h ⟨o,x,k⟩=>
  JD (KW (T:= "StopIteration") (b:=true) ⟨o,x,k⟩ isSubtype_stop (JE (B h' h)))
 unfold NG
 rcases l with l|⟨I,f,H,C,y,J⟩
 ·show JD (KA (KB (name:=Nh.ofString "__next__") j F.slot_zip_next (Ka F.slot_zip_next j F.entry_zip_next
   (AF (A:=A.in1) q D (Nx.list u) (Nx.list n) l v to r p g λh' e h m=>d h' e h m) (F.args_zip_next_1 _))))
 ·show JD (KA (KB (name:=Nh.ofString "__next__") j F.slot_zip_next (Ka F.slot_zip_next j F.entry_zip_next
   (FU (A:=A.in1) q D (Nx.list u) (Nx.list n) C y v r p g λh' e h m=>d h' e h m) (F.args_zip_next_1 _))))
structure ZL (X:Cx) (O8:-(N8×Nv)) (σ:St) (s1:N_) (H1:Hp) (xs ys:-V) (S:N8) (H:Hp) (h:Ng) (as:-N8) (i:Nat):Prop where
 inv:aH X O8 σ H {s1 with heap:=h}
 sm:∀b u,H1 b>u->H b>u
 ls:H S>.lst (as.map V.ref)
 len:↑as=i
 prs:∀(j:Nat) (a:N8),as[j]?>a->H1 a=none/\∃x y,xs[j]?>x/\ys[j]?>y/\H a>.tup [x,y]
section
variable {s1:N_} {H1:Hp} {z TI TO i1 i2 l1 l2 S:N8} {its1 its2:-N7} {xs ys:-V} {R:Result->N_->Prop}
theorem C_ (Q:aH X O8 σ H1 s1)(hh:A.handled=none)(D:ZA z TI TO i1 i2 l1 l2)(L:Hn z TI TO i1 i2 l1 l2 S)(n1:l1≠i1)(n2:l2≠i2)(K:∀b∈[z,TI,TO,i1,i2],~~~s1<=b)(N: ~~~s1<=S)
  (r1:aZ xs its1) (r2:aZ ys its2) (le:↑xs<=N9) (res:N7)
  (hR:∀H h as,ZL X O8 σ s1 H1 xs ys S H h as (min ↑xs ↑ys)->R (.ok (.ret res)) {s1 with heap:=h}):
  ∀(k i:Nat) (H:Hp) (h:Ng) (as:-N8),min ↑xs ↑ys - i=k->i<=min ↑xs ↑ys->ZL X O8 σ s1 H1 xs ys S H h as i->Bn h z TI TO i1 i2 l1 l2 S its1.toArray its2.toArray i->(∀b∈[z,TI,TO,i1,i2],H b=none)->S<h.objs.size->
   NK (Nd X.prog X.w) A (.builtin "list.extend.loop" ⟨[.ref S,.ref z,res],[]⟩) R {s1 with heap:=h}:=by
 let q1:=↑r1
 let q2:=↑r2
 let w:∀b∈[z,TI,TO,i1,i2],b<S:=λb K=>by
  simp only[JO,KD,or_false] at K
  rcases K with rfl|rfl|rfl|rfl|rfl
  ·show L.z
  ·show L.TI
  ·show L.TO
  ·show L.i1
  ·show L.i2
 let m:∀{b:N8},b∉[z,TI,TO,i1,i2]->b≠z/\b≠TO/\b≠i1/\b≠i2:=λK=>⟨λe=>K (by simp[e]),λe=>K (by simp[e]),λe=>K (by simp[e]),λe=>K (by simp[e])⟩
 intro k
 induction k with
 |zero=>
  intro i H h as hk hi Z0 st fp lt
  let C:i=min ↑xs ↑ys:=by lia
  show Nt PySem.F.entry_extend_loop ?_
  rw[Nu.under_plainId MN _]
  change Na _ A.in1 (NG (.ref z)>>=_) _ _ _
  show JD (Fw (s:={s1 with heap:=h}) (A:=A.in1) hh D st n1 n2 ?_ λh' M=>?_)
  ·rcases Nat.le_total ↑xs ↑ys with c|c
   ·show .inl (LY (by simp;lia))
   ·show .inr (LY (by simp;lia))
  ·show JE (hR H h' as ?_)
   let T:=aH.turnedFp (h':=h') (t':=s1.toks) Z0.inv (λb J=>Q.fpOk (K b J) (fp b J)) λb u J e=>let ⟨o1,o2,o3,o4⟩:=m J;M b u o1 o2 o3 o4 e
   show⟨T,Z0.sm,Z0.ls,by rw[Z0.len,C],Z0.prs⟩
 |succ k ih=>
  intro i H h as hk hi Z0 st fp lt
  let p:i<↑xs/\i<↑ys:=by lia
  let hx:xs[i]?=some xs[i]:=JU p.1
  let hy:ys[i]?=some ys[i]:=JU p.2
  let⟨u1,I,v⟩:=r1.get hx
  let⟨u2,B,F⟩:=r2.get hy
  show Nt PySem.F.entry_extend_loop ?_
  rw[Nu.under_plainId MN _]
  change Na _ A.in1 (NG (.ref z)>>=_) _ _ _
  show JD (Bq (s:={s1 with heap:=h}) (S:=S) D L st lt n1 n2 (by simpa using I) (by simpa using B) λh' W pr sz M=>?_)
  dsimp only at pr sz M|-
  let nT:h.get? h.objs.size=none:=K2 (JG _)
  let T:=aH.turnedLaid (h':=h') (t':=s1.toks) (a:=h.objs.size) (o:=.tup [xs[i],ys[i]]) Z0.inv (λb J=>Q.fpOk (K b J) (fp b J)) (λb u J e=>let ⟨o1,o2,o3,o4⟩:=m J;M b u o1 o2 o3 o4 e) nT
   ⟨by change 2<=N9;decide,_,.cons v (.cons F .nil),_,pr,Z,_,Z⟩
  let E:S≠h.objs.size:=JP lt
  let d:Ob H h.objs.size (.tup [xs[i],ys[i]]) S>.lst (as.map V.ref):=aj E<|Z0.ls
  let⟨zz,l,n,r,hl,e⟩:=T.lstM d
  let lz:↑l=i:=by rw[<-hl,JF,Z0.len]
  let U:=T.lset (f:=(·.push (.ref h.objs.size))) (its':=l++[.ref h.objs.size]) (t':=s1.toks) (ys:=(as++[h.objs.size]).map V.ref) d e (by simp) (JM<|r.append (.cons Z .nil)) (by rw[JF,JQ,Z0.len,My];lia)
  change Na _ A.in1 (updateSeq S (·.push (N7.ref h.objs.size))>>=_) _ _ _
  show JD (Lq e Z (JE ⟨Ny MN _,ih (i+1) _ _ (as++[h.objs.size]) () () ⟨U,λb u O=>?_,ag,by rw[JQ,Z0.len];rfl,λj a P=>?_⟩ (W.keep L λb o J O=>(KS _ _ (JH J)).trans O) (λb J=>?_) ?_⟩) (by rw[J8,lz];lia) (by change(l.toArray.push _).size<=_;rw[Array.size_push,J8,lz];lia))
  ·let f1:b≠S:=λz=>by rw[z,Q.hok.fresh N] at O;cases O
   let f2:b≠h.objs.size:=λz=>by rw[z,Q.hok.fresh (J1 N (Kh lt))] at O;cases O
   rw[aj f1,aj f2];show Z0.sm b u O
  ·let tr:∀{a:N8} {Y:-V},Ob H h.objs.size (.tup [xs[i],ys[i]]) a>.tup Y->Ob (Ob H h.objs.size (.tup [xs[i],ys[i]])) S (.lst ((as++[h.objs.size]).map V.ref)) a>.tup Y:=fun{a Y} q=>by
    rw[aj λz=>by rw[z,d] at q;cases q];show q
   rcases Nat.lt_trichotomy j ↑as with g|g|g
   ·rw[K3 g] at P
    let⟨p1,x,y,p2,p3,p4⟩:=Z0.prs j a P
    show⟨p1,x,y,p2,p3,tr ?_⟩
    rw[aj λz=>by rw[z,Z0.inv.hok.none_of nT] at p4;cases p4];show p4
   ·subst g
    let ea:h.objs.size=a:=by simpa using P
    subst ea
    show⟨Q.hok.fresh (J1 N (Kh lt)),_,_,Z0.len<|hx,Z0.len<|hy,tr ag⟩
   ·rw[Mj (by rw[JQ,My];lia)] at P;cases P
  ·let g1:=w b J
   rw[aj (JP g1),aj (JP (Nat.lt_trans g1 lt))];show fp b J
  ·have:(h'.update S (Nv.mapSeq (·.push (N7.ref h.objs.size)))).objs.size=h'.objs.size:=(Ng.SameBut.update ..).1
   show Nat.lt_of_lt_of_eq (K4 lt) (by rw[this,sz])
end
theorem wU:NW (.type "zip") "__len__" =pure none:=by rw[NL,NC];kernel_rfl
theorem uu:NW (.type "zip") "__length_hint__" =pure none:=by rw[NL,NC];kernel_rfl
section
variable {s1:N_} {H1:Hp} {z TI TO i1 i2 l1 l2 S:N8} {its1 its2:-N7} {xs ys:-V} {R:Result->N_->Prop}
theorem t7(n:aH X O8 σ H1 s1)(B:A.handled=none)(D:ZA z TI TO i1 i2 l1 l2)(L:Hn z TI TO i1 i2 l1 l2 S)(K:l1≠i1)(y:l2≠i2)(m:∀b∈[z,TI,TO,i1,i2],~~~s1<=b)(l: ~~~s1<=S)
  (x:aZ xs its1) (C:aZ ys its2) (le:↑xs<=N9) (res:N7) (st:Bn h0 z TI TO i1 i2 l1 l2 S its1.toArray its2.toArray 0) (hz:IsZip h0 z TI TO .none) (M:∀b o,s1.heap.get? b>o->h0.get? b>o) (v:h0.get? S=some {cls:=.type "list",data:=.seq #[] c0})
  (J:∀H h as,ZL X O8 σ s1 H1 xs ys S H h as (min ↑xs ↑ys)->R (.ok (.ret res)) {s1 with heap:=h}):
  Na (Nd X.prog X.w) A.in1 (Nc.List.listExtendWith (.ref S) (.ref z) res)
   (λr s'=>match r with| .done f=>R (.ok f) s'| .again c'=>c'.quiet=true/\NK (Nd X.prog X.w) A c' R s') (λe s'=>R (.error e) s') {s1 with heap:=h0}:=by
 let i:S≠z:=Kx L.z
 let p:N_.TypeIs {s1 with heap:=h0} (.ref z) "zip" :=⟨_,hz,Z⟩
 unfold Nc.List.listExtendWith
 show JD (LX p ?_)
 let I:Nc.List.listSameRef (.ref S) (.ref z)=false:=by simp[Nc.List.listSameRef,i]
 rw[N0 (by rw[I];decide)]
 show JD (wpAny_pyIter_zip (s:={s1 with heap:=h0}) hz ?_)
 show JD (J_ ?_)
 unfold Nc.List.listLengthHint
 show JD (LB p wU ?_)
 change Na _ A.in1 (specialOf (N7.ref z) (Nh.ofString "__length_hint__")>>=_) _ _ _
 show JD (LB p uu ?_)
 show JE ?_
 change Na _ A.in1 (rule "list.extend.makes-room" >>=λ_=>Nc.List.listTouch (.ref S)>>=λ_=>
  again (.builtin "list.extend.loop" ⟨[.ref S,.ref z,res],[]⟩)) _ _ _
 show JD (Lp ?_)
 show JD ?_
 change Na _ A.in1 (updateSeq S (·.push .none)>>=λ_=>updateSeq S (·.pop)) _ _ _
 show JD (Lq v Z ?_)
 let c:=Kr (Nv.mapSeq (·.push N7.none)) v Z
 show Lq (hz:=by seq_fits) c Z ?_
 let d:=Kr (Nv.mapSeq (·.pop)) c Z
 let g:∀b o,b≠S->h0.get? b>o->((h0.update S (Nv.mapSeq (·.push N7.none))).update S (Nv.mapSeq (·.pop))).get? b>o:=
  λb o m e=>(KS _ _ (JH m)).trans ((KS _ _ (JH m)).trans e)
 let N:=aH.laid (h':=(h0.update S (Nv.mapSeq (·.push N7.none))).update S (Nv.mapSeq (·.pop))) (t':=s1.toks) (a:=S) (o:=.lst []) n (λb u e=>g b u (JP (Kg (JN e) l)) (M b u e)) l ⟨J4 _,[],_,.nil,d⟩
 show JE ⟨Ny F.plain_extend_loop _,C_ n B D L K y m l x C le res J _ 0 _ _ [] Z (J4 _) ⟨N,λb u e=>?_,ag,Z,λj a E=>?_⟩ (st.keep L λb o k e=>g b o k e) (λb k=>?_) (JN d)⟩
 ·rw[aj λq=>by rw[q,n.hok.fresh l] at e;cases e];show e
 ·cases E
 ·let lt:b<S:=by
   simp only[JO,KD,or_false] at k
   rcases k with rfl|rfl|rfl|rfl|rfl
   ·show L.z
   ·show L.TI
   ·show L.TO
   ·show L.i1
   ·show L.i2
  rw[aj (JP lt)];show n.hok.fresh (m b k)
def Am (K:JI) (c:TA):TE:=λσ H Q=>c σ H λvs H1=>∃(a b:N8) (xs ys:-V),vs=[.ref a,.ref b]/\aN K H1 a xs/\aN K H1 b ys/\
 ∀(l:N8) (as:-N8) (H':Hp),H1 l=none->(∀b u,H1 b>u->H' b>u)->H' l>.lst (as.map V.ref)->↑as=min ↑xs ↑ys->(∀(j:Nat) (a:N8),as[j]?>a->H1 a=none/\∃x y,xs[j]?>x/\ys[j]?>y/\H' a>.tup [x,y])->Q (.ref l) H'
end
theorem mN{TI TO:N8}(O:aH X O8 σ H1 s1)(K:A.handled=none)(D:ZA z TI TO i1 i2 l1 l2)(S:l1≠i1)(J:l2≠i2)(s:∀b∈[z,TI,TO,i1,i2],~~~s1<=b/\b<h.objs.size)
  (I:aZ xs its1) (M:aZ ys its2) (le:↑xs<=N9) (st:HQ z TI TO i1 i2 l1 l2 0 h) (C:h.IsList l1 its1.toArray) (B:h.IsList l2 its2.toArray) (N:∀b o,s1.heap.get? b>o->h.get? b>o)
  (L:∀H h' as,ZL X O8 σ s1 H1 xs ys h.objs.size H h' as (min ↑xs ↑ys)->Q (.ref h.objs.size) {s1 with heap:=h'}):
  Na (Nd X.prog X.w) A (call (.type "list") [.ref z]) Q E {s1 with heap:=h}:=by
 let⟨P,n,⟨a,b,k⟩,i,j⟩:=st
 let R: ~~~s1<=h.objs.size:=J1 (s z (by simp)).1 (Kh (s z (by simp)).2)
 show callType_codes (Q₁:=λv q=>v=.ref h.objs.size/\q={s1 with heap:=h.push {cls:=.type "list",data:=.seq #[]}}) F.called_list (F.typeCall_list_1 _) F.entry_list_init
  (code_list_new _ ⟨Z,Z⟩) λv q r=>?_
 let⟨rfl,rfl⟩:=r
 let u:(h.push {cls:=.type "list",data:=.seq #[]}).get? h.objs.size=some {cls:=.type "list",data:=.seq #[]}:=JT _ Z
 show⟨⟨_,u,Z⟩,F.args_list_init_2 _ _,?_⟩
 change Na _ A.in1.in1 (do let x<-Nc.List.listItems (.ref h.objs.size);Nc.List.listUpdate (.ref h.objs.size) (λ_=> #[]);letGo x.toList.reverse;Nc.List.listExtendWith (.ref h.objs.size) (.ref z) .none) _ _ _
 show JD ?_
 unfold Nc.List.listItems
 show JD (KC u Z (JE ?_))
 change Na _ A.in1.in1 (updateSeq h.objs.size (λ_=> #[])>>=λ_=>letGo (#[]:Array N7).toList.reverse>>=λ_=>Nc.List.listExtendWith (.ref h.objs.size) (.ref z) .none) _ _ _
 show JD (Lq u Z ?_)
 let f:=Kr (Nv.mapSeq (λ_=>(#[]:Array N7))) u Z
 let c:∀b o,h.get? b>o->((h.push {cls:=.type "list",data:=.seq #[]}).update h.objs.size (Nv.mapSeq (λ_=>(#[]:Array N7)))).get? b>o:=
  λb o e=>(KS _ _ (Kx (JN e))).trans (JK _ e)
 show JD (Lb ?_)
 let p:l1<h.objs.size:=by let⟨o,y,_⟩:=C;show JN y
 let l:l2<h.objs.size:=by let⟨o,y,_⟩:=B;show JN y
 let g:=λb (m:b∈[z,TI,TO,i1,i2])=>(s b m).2
 let d:=c _ _ P
 show t7 (A:=A.in1) O K D ⟨g _ (by simp),g _ (by simp),g _ (by simp),g _ (by simp),g _ (by simp),JP p,JP l⟩ S J (λb m=>(s b m).1) R I M le .none ⟨c _ _ n,⟨a,b,c _ _ k⟩,⟨i.at λo=>c _ o,C.at λo=>c _ o⟩,⟨j.at λo=>c _ o,B.at λo=>c _ o⟩,.inl d⟩ d (λb o e=>c b o (N b o e)) f λH h' as Z0=>?_
 show⟨Z,L H h' as Z0⟩
theorem tT(N:X.calm=true)(J:Gl X "list")(M:X.mg "list" =none)(D:Gl X "zip")(w:X.mg "zip" =none)(S:PA X [a,b] ta)
  (E:Nf [Nw.Call (.Name "zip" py) [a,b] [] pos2] X.env=[(false,eval (.Call (.Name "zip" py) [a,b] [] pos2) X.env)]:=by rfl)
  (R:Nf [a,b] X.env=(false,eval a X.env)::Nf [b] X.env:=by rfl) (x:(NF pos2 (Nf [b] X.env)).any (·.1)=false:=by rfl):
  PE X (.Call (.Name "list" px) [.Call (.Name "zip" py) [a,b] [] pos2] [] pos1) (Am X.K ta):=by
 intro O8 s σ H Q I h
 show KQ (fW I J M pB ?_ (by decide) (by decide))
 show PyProof.Rows.callWith_type1 ?_ E Z
 rw[E]
 change Na _ _ (spliced [(false,eval (.Call (.Name "zip" py) [a,b] [] pos2) X.env)]) _ _ s
 show Calls.spliced_cons ?_
 show KQ (fW I D w Ay ?_ (by decide) (by decide))
 show PyProof.Rows.callWith_type1 (bS (S pos2 O8 s σ H _ I h) λT s1 C=>?_) R x
 let⟨vs,H1,I1,F,l1,l2,xs,ys,L,g,p,q⟩:=C
 subst L
 let⟨P,O,rfl,n,f⟩:=fe F
 cases(show P=N7.ref l1 from n)
 cases(show O=N7.ref l2 from f)
 let⟨r,j,B,i⟩:=I1.list g
 let⟨u,l,p2,_⟩:=I1.list p
 let d:l1<~~~s1:=by let⟨o,z,_⟩:=B.isList;show JN z
 let c:l2<~~~s1:=by let⟨o,z,_⟩:=p2.isList;show JN z
 let nd:∀{a b:Nat},(a<b\/b<a)->(a:N8)≠b:=λh e=>by cases e;lia
 let v:∀{a b:Nat} (k:Nat),a<b->(a:N8)≠b+k:=λk h e=>by cases e;lia
 show rR (.inr ⟨Z,Z⟩) B.isList p2.isList λh' st sz y=>Calls.spliced_nil ?_
 show mN (A:=X.A) I1 (I1.ok.hd N) ⟨nd (),nd (),nd (),nd (),nd (),nd (),nd (),nd (),nd (),nd (),v 4 d,v 3 d,v 1 d,v 4 c,v 3 c,v 0 c⟩ (v 0 d) (v 1 c) (λb m=>?_) j l i st (B.isList.at λo=>y _ o) (p2.isList.at λo=>y _ o) y λH' h2 as Z0=>?_
 ·simp only[JO,KD,or_false] at m
  rw[sz]
  let ok:∀(k:Nat),k<5->~~~s1<= ~~~s1+k/\~~~s1+k<~~~s1+5:=λk h=>⟨Lr _ _,Nat.add_lt_add_left h _⟩
  rcases m with rfl|rfl|rfl|rfl|rfl
  ·show ok 4 (by decide)
  ·show ok 2 (by decide)
  ·show ok 3 (by decide)
  ·show ok 0 (by decide)
  ·show ok 1 (by decide)
 ·show⟨.ref h'.objs.size,H',Z0.inv,Z,q _ as H' (I1.hok.fresh (by rw[sz];lia)) Z0.sm Z0.ls Z0.len Z0.prs⟩
def CU (tk a:TE):TE:=λσ H Q=>∀p,H p=none->tk σ (Ob H p (.dT [])) λx H1=>a σ H1 λy H2=>H2 p>.dT []/\∃(b:N8) (k:-cP),x=.ref b/\H2 b>.tup (k.map kV)/\Q (.ref p) (Ob H2 p (.dT [(k,y)]))
theorem xH(p:X.A.units+1<NE)(r:PE X k tk)(P:PE X v tv):PE X (.Dict [some k] [v] pos) (CU tk tv):=by
 intro O8 s σ H Q I q
 let D:=I.hok.fresh (JG (~~~s))
 let E:=I.laid (a:= ~~~s) (o:=.dT []) (h':=s.heap.push {cls:=.type "dict",data:=.dict #[]}) (t':=s.toks) (λ_ _ q=>JK _ q) (JG _) (qj s.heap I.big)
 let d:=pairTrees_length [some k] [v] X.env pos Z Z
 rw[arm_eval_Dict,zip_pairTrees [some k] [v] X.env pos Z Z,dictDisplay_pairs (pairTrees [some k] [v] X.env pos) (λh=>by rw[h] at d;cases d) (d<|(by decide:1<17))]
 show JD (wpAny_standAt (JD ?_))
 unfold subDict
 show JD (wpAny_alloc ?_)
 show JD (J_ ?_)
 rw[N1 (d<|(by decide:1<=15))]
 show JD (pairTrees_cons_walk (bS (r O8 _ σ _ _ E (q _ D)) λu s1 g=>?_))
 let⟨x,H1,I1',R,L⟩:=g
 show bS (P O8 s1 σ H1 _ I1' L) λB S g=>?_
 let⟨y,H2,I2,C,e,b,J,ex,m,F⟩:=g
 show pairTrees_nil_walk ?_
 subst ex
 cases(show u=N7.ref b from R)
 show J_ ?_
 rw[Mh]
 let⟨z,hd,xs,f,N⟩:=zv I2.hok e
 let O:↑xs<=N9:=by rw[<-Nb.length f];show z
 show JD (JD ?_)
 change Na _ _ (dictSet (~~~s) (.ref b) B>>=λ_=>pure (ForInStep.yield PUnit.unit)) _ _ _
 show JD (wpAny_dictSet_heap (hsz:=O) (show X.A.units<NE from Nat.lt_of_succ_lt p) (gy I2.hok m) N λh' i n=>JE ?_)
 dsimp only
 rw[List.forIn_nil]
 show JE (JE (JE (JE ⟨.ref (~~~s),_,?_,Z,F⟩)))
 let⟨j,es,ep,hq,h2,w,K,_,M⟩:=i
 show o7 I2 (e<|True.intro) n ⟨j,hq⟩ ⟨by change 1<=N9;decide,hd,_,(f.put J m C).keeps λc ys l=>?_,j,es,ep,hq,h2,w,K,M⟩
 rw[aj (bz l e (λz=>by cases z))]
 show l
theorem lV(a:X.prog=P)(b:X.w=w):cy X (.type "dict") (DQ P w):=by subst a b;show ip
theorem qg (a:X.K=K){k:Nat}(b:aT k X.A):gj X (Nk .NotIn) (A5 K true):=by subst a;show tm b
section
variable {K:Type} [DecidableEq K] {knd:HeapKind prog w K}
theorem C8{e f:-(K×N8×N7)}(k:knd.room A.in1)(i:A.units<NE)(l:(a==NQ)=false)(j:(b==NQ)=false)
  (d:s.heap.DictOfH knd a e) (g:s.heap.DictOfH knd b f) (c:↑e=↑f->gF A.in1 s f e r) (h:Q (.bool (!(↑e==↑f&&r))) s):
  Na (Nd prog w) A (Nk .NotEq (.ref a) (.ref b)) Q E s:=by
 show wpAny_richCompare_same_room (op:=.NotEq) d.typeIs g.typeIs PySem.F.slot_dict_ne (Ka PySem.F.slot_dict_ne d.typeIs PySem.F.entry_dict_ne ?_ (PySem.F.args_dict_ne_2 _ _)) i
 change Na _ _ (Nc.Dict.dictSlotArgs "__ne__" ⟨[.ref a,.ref b],[]⟩>>=_) _ _ s
 show JD ?_
 unfold Nc.Dict.dictSlotArgs
 show JD (LI d.typeIs ?_)
 change Na _ _ (pure (N7.ref a,N7.ref b)) _ _ s
 show JE (JD (KW (T:= "dict") g.typeIs PySem.F.sub_dict_dict ?_))
 simp only[Bool.not_true,LF,if_false]
 show JD (JE (JD (JE (JD (nC k l j d g c ?_)))))
 show JE ⟨_,Z,(λx=>by cases x),?_⟩
 first|show h|simpa using h
end
theorem FD {d kb:-(-cP×V)}{m vb:-(-cP×N8×N7)}(g:KT H d m)(z:KT H kb vb):(∀p∈d,∃i j:Int,p.2=.int i/\aE kb p.1>.int j)->gF A s vb m (d.all λp=>decide (aE kb p.1>p.2)):=by
 unfold KT at g
 induction g with
 |nil=>intro _;show .nil
 | @cons p x ps xs r t ih=>
  intro h
  let⟨i,j,l,n⟩:=h p JZ
  let⟨y,o,c,_,f⟩:=nM z _ (lN n)
  let⟨k,a,v⟩:=x
  let⟨e,_,b⟩:=r
  rw[l] at b
  let⟨B,b⟩:=b
  let⟨w,f⟩:=f
  let e:p.1=k:=e
  let b:v=_:=b
  let c:p.1=y.1:=c
  let u:decide (aE kb p.1>p.2)=(i==j):=by
   rw[n,l,Ly]
   simp only[decide_eq_true_eq,Option.some.injEq,V.int.injEq,beq_iff_eq]
   show eq_comm
  rw[List.all_cons,u]
  show .hit (p:=y.2) (by rw[<-e,c];show o) ?_ (ih λq hq=>h q (J0 _ hq))
  rw[b,f]
  show SeqAt.EqAt.int_int i B j w
def G6:R2:=λx y H Q=>∃a b c kb,x=.ref a/\y=.ref b/\Rd H a (.dT c)/\Rd H b (.dT kb)/\(↑c=kb.length->∀p∈c,∃i j:Int,p.2=.int i/\aE kb p.1>.int j)/\Q (.bl (!(↑c==kb.length&&c.all λp=>decide (aE kb p.1>p.2)))) H
theorem Do(w:aT k X.A):gj X (Nk .NotEq) G6:=by
 intro O8 s σ H x y v u Q I m o h
 let⟨a,b,l,kb,rfl,rfl,ha,hb,i,q⟩:=h
 cases(show v=N7.ref a from m)
 cases(show u=N7.ref b from o)
 let z:=w.units
 let⟨_,j,B,c,n⟩:=gI I.hok ha
 let⟨_,f,vb,d,g⟩:=gI I.hok hb
 show C8 (r:=l.all λp=>decide (aE kb p.1>p.2)) (NA ()) () j f n g (λe=>FD c d (i (Nb.length c<|Nb.length d<|e))) ?_
 rw[<-Nb.length c,<-Nb.length d]
 show⟨.bl _,H,I,Z,q⟩
end L2
namespace Dj
abbrev Far:=Nat->Option Int
abbrev Back:=Nat->Option (Option Nat)
noncomputable def put {α:Type} (f:Nat->Option α) (k:Nat) (x:α):Nat->Option α:=λj=>if j=k then some x else f j
theorem put_eq {a:Type}{f:Nat->Option a}{x:a}:put f k x k>x:=N1 Z
theorem put_ne {a:Type}{f:Nat->Option a}{x:a}(h:j≠k):put f k x j=f j:=N0 h
structure G where
 rows:Nat->-(Nat×Int)
 starts:-(Nat×Int)
 nn:∀m,∀a∈rows m,0<=a.2
structure Mid (g:G) (far:Far) (back:Back) (hp:-(Int×Nat)) (dn:-Nat) (cur:Int) (x:Option (Nat×-(Nat×Int))):Prop where
 here:∀m p,far m>p->m∈dn\/(p,m)∈hp
 low:∀p m,(p,m)∈hp->∃q,far m>q/\q<=p
 dom:∀m,(back m).isSome=(far m).isSome
 was:∀m∈dn,∃p,far m>p/\p<=cur
 arcs:∀m∈dn,∀p,far m>p->(∀pre,x≠some (m,pre))->∀a∈g.rows m,∃q,far a.1>q/\q<=p+a.2
 part:∀m pre,x>(m,pre)->m∈dn/\far m>cur/\∀a∈pre,a∈g.rows m/\∃q,far a.1>q/\q<=cur+a.2
 top:∀p m,(p,m)∈hp->cur<=p
 bn:∀m p,far m>p->back m>none->(m,p)∈g.starts
 bs:∀m p b,far m>p->back m>some b->b∈dn/\(m,p)∉g.starts/\∃q,far b>q/\(m,p - q)∈g.rows b
 sta:∀a∈g.starts,∃q,far a.1>q/\q<=a.2
 ord:∀l m r b,dn=l++m::r->back m>some b->b∈r
 nd:dn.Nodup
section
variable {g:G} {far:Far} {back:Back} {hp:-(Int×Nat)} {dn:-Nat} {cur:Int} {m:Nat} {pre:-(Nat×Int)}
theorem Mid.skip (M:Mid g far back hp dn cur (some (m,pre))){o:Nat}{w q:Int}(f:(o,w)∈g.rows m)(hf:far o>q)(i:¬cur+w<q):Mid g far back hp dn cur (some (m,pre++[(o,w)])):=by
 let⟨h1,h2,e⟩:=M.part m pre Z
 show{M with arcs:=λk d p b c=>M.arcs k d p b λpr z=>?_,part:=λk pr z=>?_}
 ·injection z with z;injection z with z1 z2;show c (pre++[(o,w)]) (by rw[z1])
 ·injection z with z;injection z with z1 z2
  subst z1 z2
  show⟨h1,h2,λa h=>?_⟩
  rcases J3.mp h with h|h
  ·show e a h
  ·rw[JJ.mp h];show⟨f,q,hf,by change q<=cur+w;lia⟩
theorem Mid.more (M:Mid g far back hp dn cur (some (m,pre))){o:Nat}{w:Int}(B:(o,w)∈g.rows m)(y:∀q,far o>q->cur+w<q){u:-(Int×Nat)}(x:∀z,z∈u↔z=(cur+w,o)\/z∈hp):
  Mid g (put far o (cur+w)) (put back o (some m)) u dn cur (some (m,pre++[(o,w)])):=by
 let⟨h1,h2,A⟩:=M.part m pre Z
 let C:=g.nn m _ B
 let C:0<=w:=C
 let D:o∉dn:=λh=>by
  let⟨p,c,d⟩:=M.was o h
  have:=y p c;lia
 let le:∀k q,far k>q->∃i,put far o (cur+w) k>i/\i<=q:=λk q h=>by
  by_cases e:k=o
  ·subst e;show⟨_,put_eq,by have:=y q h;lia⟩
  ·show⟨q,put_ne e<|h,Kt _⟩
 let keep:∀k∈dn,put far o (cur+w) k=far k:=λk j=>put_ne λe=>D (e▸j)
 show⟨λk p h=>?_,λp k h=>?_,λk=>?_,λk j=>?_,λk j p c E a h=>?_,λk pr z=>?_,λp k h=>?_,λk p h hb=>?_,λk p b h hb=>?_,λa h=>?_,λl k r b e hb=>?_,M.nd⟩
 ·by_cases e:k=o
  ·subst e;rw[put_eq] at h;cases h
   show .inr ((x _).mpr (.inl Z))
  ·rw[put_ne e] at h
   rcases M.here k p h with z|z
   ·show .inl z
   ·show .inr ((x _).mpr (.inr z))
 ·rcases(x _).mp h with z|z
  ·cases z;show⟨_,put_eq,Kt _⟩
  ·let⟨q,h1,h2⟩:=M.low p k z
   let⟨i,A,f⟩:=le k q h1
   show⟨i,A,()⟩
 ·by_cases e:k=o
  ·subst e;rw[put_eq,put_eq];rfl
  ·rw[put_ne e,put_ne e];show M.dom k
 ·rw[keep k j];show M.was k j
 ·rw[keep k j] at c
  let⟨q,f,n⟩:=M.arcs k j p c (λpr z=>by injection z with z;injection z with z1 z2;show E (pre++[(o,w)]) (by rw[z1])) a h
  let⟨i,s,v⟩:=le _ q f
  show⟨i,s,()⟩
 ·injection z with z;injection z with z1 z2
  subst z1 z2
  show⟨h1,keep _ h1<|h2,λa h=>?_⟩
  rcases J3.mp h with h|h
  ·let⟨f,q,n,s⟩:=A a h
   let⟨i,v,F⟩:=le _ q n
   show⟨f,i,v,()⟩
  ·rw[JJ.mp h];show⟨B,_,put_eq,Kt _⟩
 ·rcases(x _).mp h with z|z
  ·cases z;lia
  ·show M.top p k z
 ·by_cases e:k=o
  ·subst e;rw[put_eq] at hb;cases hb
  ·rw[put_ne e] at h hb;show M.bn k p h hb
 ·by_cases e:k=o
  ·subst e;rw[put_eq] at h hb;cases h;cases hb
   show⟨h1,λz=>?_,cur,keep _ h1<|h2,by rw[show cur+w - cur=w by lia];show B⟩
   let⟨q,f,n⟩:=M.sta _ z
   have:=y q f
   let n:q<=cur+w:=n
   lia
  ·rw[put_ne e] at h hb
   let⟨f,n,q,s,v⟩:=M.bs k p b h hb
   show⟨f,n,q,keep b f<|s,v⟩
 ·let⟨q,f,n⟩:=M.sta a h
  let⟨i,s,v⟩:=le _ q f
  show⟨i,s,()⟩
 ·let j:k∈dn:=by rw[e];simp
  rw[put_ne λ(z:k=o)=>D (z▸j)] at hb
  show M.ord l k r b e hb
theorem Mid.end (M:Mid g far back hp dn cur (some (m,g.rows m))):Mid g far back hp dn cur none:=by
 let⟨h1,h2,c⟩:=M.part m _ Z
 show{M with arcs:=λk d p b _ a ha=>?_,part:=λ_ _ z=>by cases z}
 by_cases e:k=m
 ·subst e;rw[h2] at b;cases b;show(c a ha).2
 ·show M.arcs k d p b (λpr z=>by injection z with z;injection z with z1 _;show e z1.symm) a ha
theorem Mid.drop (M:Mid g far back hp dn cur none){p:Int}{b:-(Int×Nat)}(c:∀z,z∈hp↔z=(p,m)\/z∈b)(d:∀z∈b,p<=z.1)(h:far m≠some p\/m∈dn):Mid g far back b dn p none:=by
 let e:cur<=p:=M.top p m ((c _).mpr (.inl Z))
 show{M with here:=λk q a=>?_,low:=λq k a=>M.low q k ((c _).mpr (.inr a)),was:=λk a=>?_,top:=λq k a=>d _ a,part:=λ_ _ z=>by cases z}
 ·rcases M.here k q a with z|z
  ·show .inl z
  ·rcases(c _).mp z with z|z
   ·cases z
    rcases h with h|h
    ·show absurd a h
    ·show .inl h
   ·show .inr z
 ·let⟨q,h1,h2⟩:=M.was k a
  show⟨q,h1,()⟩
theorem Mid.take (M:Mid g far back hp dn cur none){p:Int}{d:-(Int×Nat)}(f:∀z,z∈hp↔z=(p,m)\/z∈d)(i:∀z∈d,p<=z.1)(h:far m>p)(n:m∉dn):Mid g far back d (m::dn) p (some (m,[])):=by
 let o:cur<=p:=M.top p m ((f _).mpr (.inl Z))
 show⟨λk q c=>?_,λq k c=>M.low q k ((f _).mpr (.inr c)),M.dom,λk c=>?_,λk c q hq j a ha=>?_,λk pr z=>?_,λq k c=>i _ c,M.bn,λk q b c hb=>?_,M.sta,λl k r b e hb=>?_,Kj.mpr ⟨n,M.nd⟩⟩
 ·rcases M.here k q c with z|z
  ·show .inl (J0 _ z)
  ·rcases(f _).mp z with z|z
   ·cases z;show .inl JZ
   ·show .inr z
 ·rcases JO.mp c with z|z
  ·subst z;show⟨p,h,Kt _⟩
  ·let⟨q,h1,h2⟩:=M.was k z
   show⟨q,h1,()⟩
 ·rcases JO.mp c with z|z
  ·subst z;show absurd Z (j [])
  ·show M.arcs k z q hq (λ_ y=>by cases y) a ha
 ·injection z with z;injection z with z1 z2
  subst z1 z2
  show⟨JZ,h,λa ha=>by cases ha⟩
 ·let⟨h1,h2⟩:=M.bs k q b c hb
  show⟨J0 _ h1,h2⟩
 ·cases l with
  |nil=>
   injection e with e1 e2
   subst e1 e2
   show(M.bs m p b h hb).1
  |cons z l'=>
   injection e with e1 e2
   show M.ord l' k r b e2 hb
structure St (ss:-(Nat×Int)) (far:Far) (back:Back) (hp:-(Int×Nat)):Prop where
 here:∀m p,far m>p->(p,m)∈hp/\(m,p)∈ss
 low:∀p m,(p,m)∈hp->∃q,far m>q/\q<=p
 dom:∀m,(back m).isSome=(far m).isSome
 bn:∀m b,back m>b->b=none
 sta:∀a∈ss,∃q,far a.1>q/\q<=a.2
theorem St.skip {ss:-(Nat×Int)}(S:St ss far back hp){o:Nat}{w q:Int}(hf:far o>q)(b:¬w<q):St (ss++[(o,w)]) far back hp:=by
 show{S with here:=λk p h=>⟨(S.here k p h).1,J3.mpr (.inl (S.here k p h).2)⟩,sta:=λa h=>?_}
 rcases J3.mp h with h|h
 ·show S.sta a h
 ·rw[JJ.mp h];show⟨q,hf,by change q<=w;lia⟩
theorem St.more {ss:-(Nat×Int)}(S:St ss far back hp){o:Nat}{w:Int}(i:∀q,far o>q->w<q){hp':-(Int×Nat)}(d:∀z,z∈hp'↔z=(w,o)\/z∈hp):St (ss++[(o,w)]) (put far o w) (put back o none) hp':=by
 let le:∀k q,far k>q->∃c,put far o w k>c/\c<=q:=λk q h=>by
  by_cases e:k=o
  ·subst e;show⟨_,put_eq,by have:=i q h;lia⟩
  ·show⟨q,put_ne e<|h,Kt _⟩
 show⟨λk p h=>?_,λp k h=>?_,λk=>?_,λk b h=>?_,λa h=>?_⟩
 ·by_cases e:k=o
  ·subst e;rw[put_eq] at h;cases h
   show⟨(d _).mpr (.inl Z),by simp⟩
  ·rw[put_ne e] at h
   show⟨(d _).mpr (.inr (S.here k p h).1),J3.mpr (.inl (S.here k p h).2)⟩
 ·rcases(d _).mp h with z|z
  ·cases z;show⟨_,put_eq,Kt _⟩
  ·let⟨q,h1,h2⟩:=S.low p k z
   let⟨c,f,g⟩:=le k q h1
   show⟨c,f,()⟩
 ·by_cases e:k=o
  ·subst e;rw[put_eq,put_eq];rfl
  ·rw[put_ne e,put_ne e];show S.dom k
 ·by_cases e:k=o
  ·subst e;rw[put_eq] at h;show(Option.some.inj h).symm
  ·rw[put_ne e] at h;show S.bn k b h
 ·rcases J3.mp h with h|h
  ·let⟨q,h1,h2⟩:=S.sta a h
   let⟨c,f,g⟩:=le _ q h1
   show⟨c,f,()⟩
  ·rw[JJ.mp h];show⟨_,put_eq,Kt _⟩
theorem nX:∀(hp:-(Int×Nat)),∃c:Int,∀z∈hp,c<=z.1
 |[]=>⟨0,λ_ h=>by cases h⟩
 |a::r=>by
  let⟨c,h⟩:=nX r
  show⟨min a.1 c,λz hz=>?_⟩
  rcases JO.mp hz with e|hz
  ·subst e;lia
  ·have:=h z hz;lia
theorem St.mid (S:St g.starts far back hp):∃c,Mid g far back hp [] c none:=by
 let⟨c,a⟩:=nX hp
 show⟨c,λm p h=> .inr (S.here m p h).1,S.low,S.dom,(λ_ h=>by cases h),(λ_ h=>by cases h),(λ_ _ z=>by cases z),λp m h=>a _ h,λm p h _=>(S.here m p h).2,(λm p b _ hb=>by have:=S.bn m _ hb;cases this),S.sta,λl m r b e=>?_,LC⟩
 cases l<;>cases e
structure Told (g:G) (far:Far) (back:Back):Prop where
 dom:∀m,(back m).isSome=(far m).isSome
 arcs:∀m p,far m>p->∀a∈g.rows m,∃q,far a.1>q/\q<=p+a.2
 bn:∀m p,far m>p->back m>none->(m,p)∈g.starts
 bs:∀m p b,far m>p->back m>some b->(m,p)∉g.starts/\∃q,far b>q/\(m,p - q)∈g.rows b
 sta:∀a∈g.starts,∃q,far a.1>q/\q<=a.2
 ord:∃dn:-Nat,dn.Nodup/\(∀m,m∈dn↔(far m).isSome=true)/\∀l m r b,dn=l++m::r->back m>some b->b∈r
theorem Mid.told (M:Mid g far back [] dn cur none):Told g far back:=by
 let all:∀m p,far m>p->m∈dn:=λm p h=>by
  rcases M.here m p h with z|z
  ·show z
  ·cases z
 show⟨M.dom,λm p h a ha=>M.arcs m (all m p h) p h (λ_ z=>by cases z) a ha,M.bn,λm p b h hb=>(M.bs m p b h hb).2,M.sta,dn,M.nd,λm=>⟨λh=>?_,λh=>?_⟩,M.ord⟩
 ·let⟨p,h1,_⟩:=M.was m h;rw[h1];rfl
 ·let⟨p,h1⟩:=LU.mp h;show all m p h1
end
def sumF (f:Nat->Nat) (l:-Nat):Nat:=(l.map f).sum
theorem r8 (f:Nat->Nat)(dn:-Nat)(m:Nat)(b:m∉dn):∀(l:-Nat),l.Nodup->m∈l->sumF f (l.filter λk=>decide (k∉m::dn))+f m=sumF f (l.filter λk=>decide (k∉dn))
 |[],_,h=>by cases h
 |a::r,nd,h=>by
  rw[Kj] at nd
  by_cases e:a=m
  ·subst e
   let g:(r.filter λk=>decide (k∉a::dn))=r.filter λk=>decide (k∉dn):=by
    show List.filter_congr λk d=>?_
    have:k≠a:=λz=>nd.1 (z▸d)
    simp[this]
   rw[LH (by simp),g,LG (by simpa using b)]
   unfold sumF
   rw[JW,KI];lia
  ·let hm:m∈r:=by
    rcases JO.mp h with z|z
    ·show absurd z.symm e
    ·show z
   let c:=r8 f dn m b r nd.2 hm
   by_cases ha:a∈dn
   ·rw[LH (by simp[ha]),LH (by simp[ha])];show c
   ·rw[LG (by simp[ha,e]),LG (by simp[ha])]
    unfold sumF at c|-
    rw[JW,KI,JW,KI];lia
noncomputable def bud (g:G) (n:Nat) (dn:-Nat):Nat:=sumF (λk=>↑(g.rows k)) ((List.range n).filter λk=>decide (k∉dn))
theorem bud_cons {g:G}(b:m<n)(a:m∉dn):bud g n (m::dn)+↑(g.rows m)=bud g n dn:=
 r8 _ dn m a _ List.nodup_range (Kk.mpr b)
end Dj
namespace Hp
abbrev par (i:Nat):Nat:=(i - 1)/2
section
variable {α:Type} (lt:α->α->Bool)
structure Ord:Prop where
 irr:∀a,lt a a=false
 tot:∀a b,lt a b=false->lt b a=false->a=b
 trans:∀a b c,lt a b=true->lt b c=true->lt a c=true
variable {lt} (O:Ord lt)
include O
theorem Ord.asym {a b:α}(h:lt a b=true):lt b a=false:=by
 cases e:lt b a with
 |false=>rfl
 |true=>have:=O.trans _ _ _ h e;rw[O.irr] at this;cases this
theorem Ord.le_trans {a b c:α}(h1:lt b a=false)(d:lt c b=false):lt c a=false:=by
 cases e:lt c a with
 |false=>rfl
 |true=>
  cases e2:lt a b with
  |true=>have:=O.trans _ _ _ e e2;rw[d] at this;cases this
  |false=>
   have:=O.tot a b e2 h1
   subst this
   rw[d] at e;cases e
end
section
variable {α:Type} {lt:α->α->Bool} {d:α}
theorem get_set {l:-α}{a:α}(b:i<↑l):(l.set i a).getD j d=if i=j then a else l.getD j d:=by
 rw[JS,List.getElem?_set]
 by_cases h:i=j
 ·subst h;simp[b]
 ·simp[h]
def Hpy (lt:α->α->Bool) (d:α) (ks:-α):Prop:=∀i,0<i->i<↑ks->lt (ks.getD i d) (ks.getD (par i) d)=false
theorem Hpy.least (O:Ord lt){ks:-α}(h:Hpy lt d ks):∀i,i<↑ks->lt (ks.getD i d) (ks.getD 0 d)=false:=by
 intro i
 induction i using Nat.strongRecOn with
 |_ i ih=>
  intro hi
  by_cases h0:i=0
  ·subst h0;show O.irr _
  ·show O.le_trans (ih (par i) (by first|omega|(simp only[par] at*;lia)) (by first|omega|(simp only[par] at*;lia))) (h i (by first|omega|(simp only[par] at*;lia)) hi)
structure Up (lt:α->α->Bool) (d:α) (ks:-α) (p:Nat) (x:α):Prop where
 at':p<↑ks
 ok:∀i,0<i->i<↑ks->i≠p->lt ((ks.set p x).getD i d) ((ks.set p x).getD (par i) d)=false
 over:0<p->∀c,0<c->c<↑ks->par c=p->lt ((ks.set p x).getD c d) ((ks.set p x).getD (par p) d)=false
theorem Up.start {ks:-α}(h:Hpy lt d ks)(x:α):Up lt d (ks++[x]) ↑ks x:=by
 let e:(ks++[x]).set ↑ks x=ks++[x]:=by simp
 show⟨by simp,λi f hi hp=>?_,λf c j g hp=>?_⟩
 ·let a:i<↑ks:=by simp at hi;first|omega|(simp only[par] at*;lia)
  rw[e]
  let b:par i<↑ks:=by first|omega|(simp only[par] at*;lia)
  let h1:(ks++[x]).getD i d=ks.getD i d:=by simp[JS,K3 a]
  let h2:(ks++[x]).getD (par i) d=ks.getD (par i) d:=by simp[JS,K3 b]
  rw[h1,h2]
  show h i f a
 ·simp at g;simp only[par] at hp;lia
theorem Up.step (O:Ord lt){ks:-α}{p:Nat}{x:α}(h:Up lt d ks p x)(r:0<p)(hx:lt x (ks.getD (par p) d)=true):Up lt d (ks.set p (ks.getD (par p) d)) (par p) x:=by
 let⟨ha,ok,ov⟩:=h
 let hq:par p<p:=by simp only[par];lia
 let f:↑(ks.set p (ks.getD (par p) d))=↑ks:=by simp
 let b:∀j,(ks.set p x).getD j d=if p=j then x else ks.getD j d:=λj=>get_set ha
 let g:∀j,((ks.set p (ks.getD (par p) d)).set (par p) x).getD j d=if par p=j then x else if p=j then ks.getD (par p) d else ks.getD j d:=λj=>by
  rw[get_set (by rw[f];first|omega|(simp only[par] at*;lia)),get_set ha]
 show⟨by rw[f];lia,λi e hi l=>?_,λe c u q k=>?_⟩
 ·rw[f] at hi
  rw[g,g,N0 (JH l)]
  let o:=ok i e hi
  rw[b,b] at o
  by_cases hi1:p=i
  ·subst hi1
   rw[N1 Z,N1 Z]
   show O.asym hx
  ·rw[N0 hi1]
   let o:=o (JH hi1)
   rw[N0 hi1] at o
   by_cases hi2:par p=par i
   ·rw[N1 hi2]
    rw[N0 (by first|omega|(simp only[par] at*;lia)),<-hi2] at o
    show O.le_trans (O.asym hx) o
   ·rw[N0 hi2]
    by_cases hi3:p=par i
    ·rw[N1 hi3]
     let v:=ov r i e hi hi3.symm
     rw[b,b,N0 hi1,N0 (by first|omega|(simp only[par] at*;lia))] at v
     show v
    ·rw[N0 hi3]
     rw[N0 hi3] at o
     show o
 ·rw[f] at q
  let a:par (par p)<par p:=by simp only[par] at e|-;lia
  let y:par p≠c:=by first|omega|(simp only[par] at*;lia)
  let s:par p≠par (par p):=by lia
  let w:p≠par (par p):=by lia
  rw[g,g,N0 y,N0 s,N0 w]
  let m:=ok (par p) e (by first|omega|(simp only[par] at*;lia)) (by first|omega|(simp only[par] at*;lia))
  rw[b,b,N0 (by first|omega|(simp only[par] at*;lia)),N0 (by first|omega|(simp only[par] at*;lia))] at m
  by_cases hcq:p=c
  ·rw[N1 hcq];show m
  ·rw[N0 hcq]
   let n:=ok c u q (JH hcq)
   rw[b,b,N0 hcq,k,N0 (by first|omega|(simp only[par] at*;lia))] at n
   show O.le_trans m n
theorem Up.done {ks:-α}{x:α}(h:Up lt d ks p x)(hx:p=0\/lt x (ks.getD (par p) d)=false):Hpy lt d (ks.set p x):=by
 let⟨ha,ok,ov⟩:=h
 intro i a hi
 rw[KU] at hi
 by_cases hip:i=p
 ·subst hip
  rw[get_set ha,get_set ha,N1 Z,N0 (by simp only[par];first|omega|(simp only[par] at*;lia))]
  rcases hx with hx|hx
  ·lia
  ·show hx
 ·show ok i a hi hip
theorem up_perm {ks:-α}{x:α}(f:p<↑ks)(e:q<↑ks)(c:q≠p):((ks.set p (ks.getD q d)).set q x).Perm (ks.set p x):=by
 let b:p<↑(ks.set p x):=KU<|f
 let a:q<↑(ks.set p x):=KU<|e
 let h:(ks.set p x)[p]=x:=by simp
 let g:(ks.set p x)[q]=ks.getD q d:=by
  rw[List.getElem_set_ne (JH c)]
  simp[JS,e]
 have:=List.set_set_perm (as:=ks.set p x) b a
 rw[h,g,List.set_set] at this
 show this
structure Dn (lt:α->α->Bool) (d:α) (ks:-α) (p:Nat) (x:α):Prop where
 at':p<↑ks
 ok:∀i,0<i->i<↑ks->par i≠p->lt ((ks.set p x).getD i d) ((ks.set p x).getD (par i) d)=false
 over:0<p->∀c,0<c->c<↑ks->par c=p->lt ((ks.set p x).getD c d) ((ks.set p x).getD (par p) d)=false
theorem Dn.start {ks:-α}(h:Hpy lt d ks)(h0:0<↑ks)(x:α):Dn lt d ks 0 x:=by
 show⟨h0,λi a hi hp=>?_,λz=>absurd z (Ku _)⟩
 rw[get_set h0,get_set h0,N0 (by first|omega|(simp only[par] at*;lia)),N0 (JH hp)]
 show h i a hi
def Least (lt:α->α->Bool) (d:α) (ks:-α) (p c:Nat):Prop:=par c=p/\0<c/\c<↑ks/\∀e,0<e->e<↑ks->par e=p->lt (ks.getD e d) (ks.getD c d)=false
theorem Dn.step (O:Ord lt){ks:-α}{p c:Nat}{x:α}(h:Dn lt d ks p x)(w:Least lt d ks p c)(hx:lt (ks.getD c d) x=true):Dn lt d (ks.set p (ks.getD c d)) c x:=by
 let⟨ha,ok,ov⟩:=h
 let⟨cp,r,cl,s⟩:=w
 let b:p<c:=by simp only[par] at cp;lia
 let k:↑(ks.set p (ks.getD c d))=↑ks:=by simp
 let g:∀j,(ks.set p x).getD j d=if p=j then x else ks.getD j d:=λj=>get_set ha
 let l:∀j,((ks.set p (ks.getD c d)).set c x).getD j d=if c=j then x else if p=j then ks.getD c d else ks.getD j d:=λj=>by
  rw[get_set (k<|cl),get_set ha]
 show⟨k<|cl,λi n hi m=>?_,λ_ e u q ep=>?_⟩
 ·rw[k] at hi
  rw[l,l,N0 (JH m)]
  by_cases h1:par i=p
  ·rw[N1 h1.symm]
   let f:p<i:=by simp only[par] at h1;lia
   by_cases h2:c=i
   ·rw[N1 h2];show O.asym hx
   ·rw[N0 h2,N0 (by first|omega|(simp only[par] at*;lia))]
    show s i n hi h1
  ·let h2:c≠i:=λz=>h1 (by rw[<-z];show cp)
   rw[N0 h2,N0 (JH h1)]
   by_cases h3:p=i
   ·rw[N1 h3]
    let v:=ov (by first|omega|(simp only[par] at*;lia)) c r cl cp
    rw[g,g,N0 (by first|omega|(simp only[par] at*;lia)),h3,N0 (by simp only[par];first|omega|(simp only[par] at*;lia))] at v
    show v
   ·rw[N0 h3]
    let o:=ok i n hi h1
    rw[g,g,N0 h3,N0 (JH h1)] at o
    show o
 ·rw[k] at q
  let a:c<e:=by simp only[par] at ep;lia
  rw[l,l,N0 (by first|omega|(simp only[par] at*;lia)),N0 (by first|omega|(simp only[par] at*;lia)),cp,N0 (by first|omega|(simp only[par] at*;lia)),N1 Z]
  let o:=ok e u q (by rw[ep];first|omega|(simp only[par] at*;lia))
  rw[g,g,N0 (by first|omega|(simp only[par] at*;lia)),ep,N0 (by first|omega|(simp only[par] at*;lia))] at o
  show o
theorem Dn.done {ks:-α}{x:α}(h:Dn lt d ks p x)(hx:∀c,0<c->c<↑ks->par c=p->lt (ks.getD c d) x=false):Hpy lt d (ks.set p x):=by
 let⟨ha,ok,ov⟩:=h
 intro i b hi
 rw[KU] at hi
 by_cases hip:par i=p
 ·let a:p<i:=by simp only[par] at hip;lia
  rw[get_set ha,get_set ha,N0 (by first|omega|(simp only[par] at*;lia)),N1 hip.symm]
  show hx i b hi hip
 ·show ok i b hi hip
end
end Hp
namespace Dj
inductive Pth (g:G):Nat->Int->Prop
 |st {m:Nat} {p:Int}:(m,p)∈g.starts->Pth g m p
 |ar {m:Nat} {p:Int} {o:Nat} {w:Int}:Pth g m p->(o,w)∈g.rows m->Pth g o (p+w)
structure Fix (g:G) (f:Far):Prop where
 pth:∀m p,f m>p->Pth g m p
 sta:∀a∈g.starts,∃q,f a.1>q/\q<=a.2
 arcs:∀m p,f m>p->∀a∈g.rows m,∃q,f a.1>q/\q<=p+a.2
theorem Fix.least {g:G}{f:Far}(F:Fix g f){m:Nat}{p:Int}(h:Pth g m p):∃q,f m>q/\q<=p:=by
 induction h with
 |st h=>show F.sta _ h
 |ar _ h ih=>
  let⟨q,e,l⟩:=ih
  let⟨a,b,l2⟩:=F.arcs _ q e _ h
  show⟨a,b,by let l2:a<=q+_:=l2;lia⟩
theorem Fix.same {g:G}{f f':Far}(F:Fix g f)(a:Fix g f'):f=f':=by
 funext m
 cases e:f m with
 |none=>
  cases e':f' m with
  |none=>rfl
  |some q=>let⟨p,h,_⟩:=F.least (a.pth m q e');rw[e] at h;cases h
 |some p=>
  let⟨q,h,l⟩:=a.least (F.pth m p e)
  let⟨p2,h2,l2⟩:=F.least (a.pth m q h)
  rw[e] at h2;cases h2
  rw[h,show p=q by lia]
theorem Told.fix {g:G}{far:Far}{d:Back}(T:Told g far d):Fix g far:=by
 show⟨?_,T.sta,T.arcs⟩
 let⟨dn,_,c,f⟩:=T.ord
 let key:∀(r l:-Nat),dn=l++r->∀m∈r,∀p,far m>p->Pth g m p:=by
  intro r
  induction r with
  |nil=>intro _ _ m h;cases h
  |cons k r ih=>
   intro l e m h p hp
   let a:=ih (l++[k]) (by rw[e,Kl];rfl)
   rcases JO.mp h with h|h
   ·subst h
    let hd:=T.dom m
    rw[hp] at hd
    cases hb:d m with
    |none=>rw[hb] at hd;cases hd
    |some b=>
     cases b with
     |none=>show .st (T.bn m p hp hb)
     |some b=>
      let⟨_,q,hq,ha⟩:=T.bs m p b hp hb
      have:=Pth.ar (a b (f l m r b e hb) q hq) ha
      rwa [show q+(p - q)=p by lia] at this
   ·show a m h p hp
 show λm p hp=>key dn [] Z m ((c m).mpr (by rw[hp];rfl)) p hp
noncomputable def low (w:Int) (q:Option Int):Int:=match q with
 |none=>w
 |some q=>if q<w then q else w
noncomputable def rlx (f:Far) (a:Nat×Nat×Int):Far:=match f a.1 with
 |none=>f
 |some p=>put f a.2.1 (low (a.2.2+p) (f a.2.1))
noncomputable def pass (as:-(Nat×Nat×Int)) (f:Far):Far:=as.foldl rlx f
def Lower (f b:Far):Prop:=∀m q,f m>q->∃a,b m>a/\a<=q
theorem Lower.refl {f:Far}:Lower f f:=λ_ q h=>⟨q,h,Kt _⟩
theorem Lower.trans {f g h:Far}(a:Lower f g)(b:Lower g h):Lower f h:=λm q e=>by
 let⟨j,c,l1⟩:=a m q e
 let⟨d,i,l2⟩:=b m j c
 show⟨d,i,()⟩
theorem Lower.anti {f g:Far}(a:Lower f g)(b:Lower g f):f=g:=by
 funext m
 cases e:f m with
 |none=>
  cases e':g m with
  |none=>rfl
  |some q=>let⟨p,h,_⟩:=b m q e';rw[e] at h;cases h
 |some p=>
  let⟨q,h,l⟩:=a m p e
  let⟨p2,h2,l2⟩:=b m q h
  rw[e] at h2;cases h2
  rw[h,show p=q by lia]
theorem low_le (w:Int)(q:Option Int):low w q<=w/\∀x,q>x->low w q<=x:=by
 cases q with
 |none=>show⟨Kt _,λ_ h=>by cases h⟩
 |some y=>
  unfold low
  dsimp only
  show⟨by split<;>lia,λx h=>?_⟩
  cases h
  split<;>lia
theorem low_or (w:Int)(q:Option Int):low w q=w\/q>low w q:=by
 cases q with
 |none=>show .inl Z
 |some y=>
  unfold low
  dsimp only
  split
  ·show .inr Z
  ·show .inl Z
theorem vX (f:Far)(a:Nat×Nat×Int):Lower f (rlx f a):=by
 unfold rlx
 cases e:f a.1 with
 |none=>show Lower.refl
 |some p=>
  intro m q h
  by_cases c:m=a.2.1
  ·subst c;show⟨_,put_eq,(low_le _ _).2 q h⟩
  ·show⟨q,by change put _ _ _ _=_;rw[put_ne c];show h,Kt _⟩
theorem pass_low:∀(as:-(Nat×Nat×Int)) (f:Far),Lower f (pass as f)
 |[],_=>Lower.refl
 |a::r,f=>(vX f a).trans (pass_low r (rlx f a))
theorem mr:∀{as:-(Nat×Nat×Int)} {f:Far},pass as f=f->∀a∈as,∀p,f a.1>p->∃q,f a.2.1>q/\q<=p+a.2.2
 |[],_,_,_,h=>by cases h
 |b::r,f,e,a,h=>by
  let d:rlx f b=f:=((vX f b).anti (by
   have:=pass_low r (rlx f b)
   rw[show pass r (rlx f b)=f from e] at this
   show this)).symm
  rcases JO.mp h with h|h
  ·subst h
   intro p hp
   let c:rlx f a a.2.1=f a.2.1:=by rw[d]
   unfold rlx at c
   rw[hp] at c
   dsimp only at c
   rw[put_eq] at c
   show⟨_,c.symm,?_⟩
   have:=(low_le (a.2.2+p) (f a.2.1)).1
   lia
  ·show mr (by rw[show pass (b::r) f=pass r (rlx f b) from Z,d] at e;show e) a h
theorem Ct {g:G}{f:Far}{a:Nat×Nat×Int}(h:∀m p,f m>p->Pth g m p)(b:(a.2.1,a.2.2)∈g.rows a.1):∀m p,rlx f a m>p->Pth g m p:=by
 intro m p e
 unfold rlx at e
 cases c:f a.1 with
 |none=>rw[c] at e;show h m p e
 |some q=>
  rw[c] at e
  dsimp only at e
  by_cases d:m=a.2.1
  ·subst d
   rw[put_eq] at e
   injection e with e
   rcases low_or (a.2.2+q) (f a.2.1) with z|z
   ·have:=Pth.ar (h _ _ c) b
    rw[<-e,z,LM];show this
   ·rw[e] at z;show h _ _ z
  ·rw[put_ne d] at e;show h m p e
theorem pass_pth {g:G}:∀{as:-(Nat×Nat×Int)} {f:Far},(∀m p,f m>p->Pth g m p)->(∀a∈as,(a.2.1,a.2.2)∈g.rows a.1)->∀m p,pass as f m>p->Pth g m p
 |[],_,h,_=>h
 |a::r,f,h,ha=>pass_pth (as:=r) (f:=rlx f a) (Ct h (ha _ JZ)) λb hb=>ha b (J0 _ hb)
theorem pass_fix {g:G}{as:-(Nat×Nat×Int)}{f f0:Far}(h:∀m p,f m>p->Pth g m p)(b:Lower f0 f)(h0:∀a∈g.starts,∃q,f0 a.1>q/\q<=a.2)
  (j:∀m a,a∈g.rows m->(m,a.1,a.2)∈as) (e:pass as f=f):Fix g f:=by
 show⟨h,λa z=>?_,λm p hp a z=>?_⟩
 ·let⟨q,i,l1⟩:=h0 a z
  let⟨c,d,l2⟩:=b _ q i
  show⟨c,d,()⟩
 ·show mr e _ (j m a z) p hp
noncomputable def AY (l:-Nat) (f:Far):Nat:=(l.map λm=>if (f m).isSome then 0 else 1).sum
noncomputable def tot (l:-Nat) (f:Far):Nat:=(l.map λm=>((f m).getD 0).toNat).sum
theorem IA (l:-Nat){f a:Far}(h:Lower f a)(nn:∀m p,a m>p->0<=p):AY l a<=AY l f/\(AY l a=AY l f->tot l a<=tot l f/\(tot l a=tot l f->∀m∈l,f m=a m)):=by
 induction l with
 |nil=>show⟨JG _,λ_=>⟨JG _,λ_ _ z=>by cases z⟩⟩
 |cons k l ih=>
  let⟨i1,i2⟩:=ih
  let d:∀f:Far,AY (k::l) f=(if (f k).isSome then 0 else 1)+AY l f:=λf=>by unfold AY;rw[JW,KI]
  let i:∀f:Far,tot (k::l) f=((f k).getD 0).toNat+tot l f:=λf=>by unfold tot;rw[JW,KI]
  rw[d,d,i,i]
  cases e:f k with
  |some q=>
   let⟨g,b,le⟩:=h k q e
   let o:=nn k g b
   rw[b]
   simp only[Option.isSome_some,if_true,Option.getD_some]
   show⟨(),λz=>?_⟩
   let⟨n,c⟩:=i2 ()
   show⟨(),λj m hm=>?_⟩
   rcases JO.mp hm with hm|hm
   ·subst hm;rw[e,b,show q=g by lia]
   ·show c () m hm
  |none=>
   cases b:a k with
   |some q=>
    simp only[Option.isSome_some,Option.isSome_none,if_true]
    show⟨by simp;lia,λz=>absurd z (by simp;lia)⟩
   |none=>
    simp only[Option.isSome_none,Option.getD_none]
    show⟨(),λz=>?_⟩
    let⟨n,c⟩:=i2 ()
    show⟨(),λj m hm=>?_⟩
    rcases JO.mp hm with hm|hm
    ·subst hm;rw[e,b]
    ·show c () m hm
noncomputable def goes (as:-(Nat×Nat×Int)) (f:Far):Nat->Far
 |0=>f
 |i+1=>pass as (goes as f i)
theorem ou (as:-(Nat×Nat×Int))(f:Far):∀i,goes as (pass as f) i=goes as f (i+1)
 |0=>rfl
 |i+1=>by change pass as (goes as (pass as f) i)=_;rw[ou as f i];rfl
structure Sup (M:Nat) (f:Far):Prop where
 lt:∀m,(f m).isSome=true->m<M
 nn:∀m p,f m>p->0<=p
theorem Sup.rlx{f:Far}{a:Nat×Nat×Int}(S:Sup M f)(h:a.2.1<M)(b:0<=a.2.2):Sup M (rlx f a):=by
 unfold Dj.rlx
 cases c:f a.1 with
 |none=>show S
 |some p=>
  have:=S.nn _ _ c
  show⟨λm hm=>?_,λm q hq=>?_⟩
  ·by_cases d:m=a.2.1
   ·rw[d];show h
   ·dsimp only at hm;rw[put_ne d] at hm;show S.lt m hm
  ·dsimp only at hq
   by_cases d:m=a.2.1
   ·subst d
    rw[put_eq] at hq
    injection hq with hq
    rcases low_or (a.2.2+p) (f a.2.1) with z|z
    ·lia
    ·have:=S.nn _ _ z;lia
   ·rw[put_ne d] at hq;show S.nn m q hq
theorem Sup.pass:∀{as:-(Nat×Nat×Int)} {f:Far},Sup M f->(∀a∈as,a.2.1<M/\0<=a.2.2)->Sup M (pass as f)
 |[],_,S,_=>S
 |a::r,f,S,h=>Sup.pass (as:=r) (f:=Dj.rlx f a) (S.rlx (h _ JZ).1 (h _ JZ).2) λb hb=>h b (J0 _ hb)
theorem goes_end{as:-(Nat×Nat×Int)}(j:∀a∈as,a.2.1<M/\0<=a.2.2):∀(x y:Nat) (f:Far),Sup M f->AY (List.range M) f<=x->tot (List.range M) f<=y->∃n,pass as (goes as f n)=goes as f n:=by
 intro x
 induction x using Nat.strongRecOn with
 |_ x ihx=>
  intro y
  induction y using Nat.strongRecOn with
  |_ y ihy=>
   intro f S l k
   by_cases c:pass as f=f
   ·show⟨0,c⟩
   ·let b:=S.pass j
    let⟨l1,l2⟩:=IA (List.range M) (pass_low as f) b.nn
    let step:∀n,pass as (goes as (pass as f) n)=goes as (pass as f) n->∃n,pass as (goes as f n)=goes as f n:=λn h=>⟨n+1,by rw[ou] at h;show h⟩
    by_cases d:AY (List.range M) (pass as f)=AY (List.range M) f
    ·let⟨o,i⟩:=l2 d
     by_cases t:tot (List.range M) (pass as f)=tot (List.range M) f
     ·show absurd (funext λm=>?_) c
      by_cases hm:m<M
      ·show(i t m (Kk.mpr hm)).symm
      ·let z:∀{f:Far},Sup M f->f m=none:=fun{f} S=>by
        cases e:f m with
        |none=>rfl
        |some q=>show absurd (S.lt m (by rw[e];rfl)) hm
       rw[z S,z b]
     ·let⟨n,g⟩:=ihy (tot (List.range M) (pass as f)) () _ b () (JG _)
      show step n g
    ·let⟨n,g⟩:=ihx (AY (List.range M) (pass as f)) () _ _ b (JG _) (JG _)
     show step n g
end Dj
namespace K57
open PySem L2
abbrev T3:=-Int
def iK (x:T3):-cP:=x.map Sum.inl
theorem mz(h:iK x=iK y):x=y:=by
 have:=congrArg (List.map kV) h
 unfold iK at this
 rw[fQ,fQ] at this
 show g9 this
theorem f9 {H:Hp}{b:N8}{x:T3}(h:H b>.tup (x.map V.int)):H b>.tup ((iK x).map kV):=by unfold iK;rw[fQ];show h
theorem dg{a:-(-cP×V)}(hd:Rd H d (.dT a))(c:H b>.tup (x.map V.int)):fX H d (.ref b) (aE a (iK x)):=.inr ⟨a,iK x,b,hd,Z,f9 c,Z⟩
theorem dB {b:Type} [DecidableEq b]:∀{xs ys:-b},xs.Nodup->(∀x∈xs,x∈ys)->↑xs<=↑ys
 |[],_,_,_=>J4 _
 |x::xs,ys,nd,h=>by
  rw[Kj] at nd
  have:=dB (ys:=ys.erase x) nd.2 λy a=>(L8 (λz=>nd.1 (by rw[<-z];show a))).mpr (h y (J0 _ a))
  let e:=MG (h x JZ)
  let p:0<↑ys:=MH (h x JZ)
  rw[J9]
  lia
structure gP (L R C:Int):Prop where
 l0:1<=L
 l1:L<=4
 r0:1<=R
 r1:R<=16
 c0:1<=C
 c1:C<=16
def iA (L R C l r c:Int):Prop:=0<=l/\l<L/\0<=r/\r<R/\0<=c/\c<C
instance {L R C l r c : Int} : Decidable (iA L R C l r c) := by unfold iA; infer_instance
theorem Hb:(decide (0<=l)&&decide (l<L)&&(decide (0<=r)&&decide (r<R)&&(decide (0<=c)&&decide (c<C))))=decide (iA L R C l r c):=by
 rw[Ly]
 simp only[Kd,decide_eq_true_eq]
 unfold iA
 constructor<;>intro h<;>omega
noncomputable def sN (R C:Int) (n:Nat):T3:=[(n:Int)/C/R,(n:Int)/C%R,(n:Int)%C]
section
variable {L R C:Int}
theorem iG (S:gP L R C){n:Nat}(h:(n:Int)<L*R*C):iA L R C ((n:Int)/C/R) ((n:Int)/C%R) ((n:Int)%C):=by
 have:=S.r0
 have:=S.c0
 let a:(0:Int)<=(n:Int):=Int.natCast_nonneg n
 let h1:(n:Int)/C<L*R:=Int.ediv_lt_of_lt_mul () h
 show⟨Int.ediv_nonneg (Int.ediv_nonneg a ()) (),Int.ediv_lt_of_lt_mul () h1,Ld _ (),Ls _ (),Ld _ (),Ls _ ()⟩
theorem El (S:gP L R C){n m:Nat}(h:n<m):HT.lexLt (sN R C n) (sN R C m)=true:=by
 let j:=S.r0
 let g:=S.c0
 let d:=Mp (n:Int) C
 let i:=Mp (m:Int) C
 let c:=Mp ((n:Int)/C) R
 let e:=Mp ((m:Int)/C) R
 let a:(n:Int)/C<=(m:Int)/C:=Int.ediv_le_ediv () ()
 let b:(n:Int)/C/R<=(m:Int)/C/R:=Int.ediv_le_ediv () a
 unfold sN
 rw[HT.lexLt_cons]
 by_cases g1:(n:Int)/C/R=(m:Int)/C/R
 ·rw[N1 g1,HT.lexLt_cons]
  by_cases g2:(n:Int)/C%R=(m:Int)/C%R
  ·rw[N1 g2,HT.lexLt_cons]
   rw[g1,g2,e] at c
   rw[<-c] at d
   rw[N0 (by intro f;rw[f] at d;lia)]
   show N3 ()
  ·rw[N0 g2]
   show N3 ?_
   rw[g1] at c
   lia
 ·rw[N0 g1]
  show N3 ()
theorem my (S:gP L R C){n m:Nat}(h:sN R C n=sN R C m):n=m:=by
 rcases Nat.lt_trichotomy n m with g|g|g
 ·have:=El S g;rw[h,cR] at this;cases this
 ·show g
 ·have:=El S g;rw[h,cR] at this;cases this
noncomputable def bg (R C:Int) (ps:-(Nat×V)):-(-cP×V):=ps.map λp=>(iK (sN R C p.1),p.2)
theorem bP (S:gP L R C)(n:Nat):∀ps:-(Nat×V),aE (bg R C ps) (iK (sN R C n))=aE ps n
 |[]=>rfl
 |p::r=>by
  let a:=bP S n r
  unfold bg at a|-
  rw[JW]
  by_cases e:p.1=n
  ·rw[cf e]
   show cf (p:=(iK (sN R C p.1),p.2)) (by rw[e])
  ·rw[bU e,<-a]
   show bU (p:=(iK (sN R C p.1),p.2)) (λz=>e (my S (mz z)))
theorem eS (S:gP L R C)(ps:-(Nat×V))(n:Nat)(v:V):bC (bg R C ps) (iK (sN R C n)) v=bg R C (bC ps n v):=by
 unfold bC
 rw[cZ,cZ,bP S]
 by_cases h:(aE ps n).isSome=true
 ·rw[N1 h,N1 h]
  unfold bg
  rw[Ki,Ki]
  show La λp _=>?_
  change(if iK (sN R C p.1)=iK (sN R C n) then _ else _)=(iK (sN R C (if p.1=n then (p.1,v) else p).1),(if p.1=n then (p.1,v) else p).2)
  by_cases e:p.1=n
  ·rw[N1 (by rw[e]),N1 e]
  ·rw[N0 (λz=>e (my S (mz z))),N0 e]
 ·rw[N0 h,N0 h]
  unfold bg
  rw[JM];rfl
theorem wF {b:Type} [DecidableEq b](a:-(b×V))(k:b)(v:V):(bC a k v).map (·.1)=if (aE a k).isSome=true then a.map (·.1) else a.map (·.1)++[k]:=by
 unfold bC
 rw[cZ]
 by_cases h:(aE a k).isSome=true
 ·rw[N1 h,N1 h,Ki]
  show La λp _=>?_
  change(if p.1=k then (p.1,v) else p).1=p.1
  split<;>rfl
 ·rw[N0 h,N0 h,JM];rfl
theorem fj {b:Type} [DecidableEq b]{a:-(b×V)}{k:b}:(aE a k).isSome=true↔k∈a.map (·.1):=by
 rw[<-cZ]
 simp[List.any_eq_true]
theorem ju {a:Type} [DecidableEq a]{kvs:-(a×V)}{k:a}{v:V}(h:aE kvs k>v):(k,v)∈kvs:=by
 unfold aE at h
 let⟨p,h1,h2⟩:=Kc.mp h
 let c:=List.find?_some h1
 let b:=List.mem_of_find?_eq_some h1
 have:p.1=k:=N4 c
 subst this h2
 show b
structure Tb (M:Nat) (ps:-(Nat×V)):Prop where
 nd:(ps.map (·.1)).Nodup
 lt:∀p∈ps,p.1<M
theorem Tb.nil:Tb M []:=⟨LC,λ_ h=>by cases h⟩
theorem Tb.put{ps:-(Nat×V)}(h:Tb M ps)(d:n<M):Tb M (bC ps n v):=by
 let c:=wF ps n v
 show⟨?_,λp hp=>?_⟩
 ·rw[c]
  split
  ·show h.nd
  ·rename_i g
   show Lc.mpr ⟨h.nd,Kj.mpr ⟨by simp,LC⟩,?_⟩
   intro a ha b hb e
   rw[JJ.mp hb] at e
   show g (fj.mpr (e▸ha))
 ·have:=Lu (f:=(·.1)) hp
  rw[c] at this
  split at this
  ·let⟨q,hq,e⟩:=JL.mp this
   let e:q.1=p.1:=e
   rw[<-e];show h.lt q hq
  ·rcases J3.mp this with t|t
   ·let⟨q,hq,e⟩:=JL.mp t
    let e:q.1=p.1:=e
    rw[<-e];show h.lt q hq
   ·rw[JJ.mp t];show d
theorem Tb.few{ps:-(Nat×V)}(h:Tb M ps):↑ps<=M:=by
 have:↑(ps.map (·.1))<=↑(List.range M):=dB h.nd λn a=>by
  let⟨p,hp,rfl⟩:=JL.mp a
  show Kk.mpr (h.lt p hp)
 simpa using this
noncomputable def rk (b:-Nat):-(Nat×V):=b.foldl (λa n=>bC a n (.bl true)) []
theorem uN (a:-Nat)(n:Nat):rk (a++[n])=bC (rk a) n (.bl true):=by unfold rk;rw[List.foldl_append];rfl
theorem qJ {b:Type}{P:-b->Prop}(h0:P [])(h1:∀xs x,P xs->P (xs++[x]))(l:-b):P l:=by
 have:∀n (xs:-b),↑xs=n->P xs:=by
  intro n
  induction n with
  |zero=>intro xs e;rw[List.length_eq_zero_iff.mp e];show h0
  |succ n ih=>
   intro xs e
   let a:xs≠[]:=λz=>by rw[z] at e;simp at e
   rw[(MI a).symm]
   show h1 _ _ (ih _ (by simp[e]))
 show this _ l Z
theorem FS (n:Nat)(a:-Nat):(aE (rk a) n).isSome=decide (n∈a):=by
 induction a using qJ with
 |h0=>simp[rk,zx]
 |h1 xs x ih=>
  rw[uN,eI]
  by_cases e:n=x
  ·simp[e]
  ·rw[N0 e,ih];simp[e]
theorem FI (S:gP L R C)(a:-Nat):Bl (a.map λn=>(iK (sN R C n),V.bl true))=bg R C (rk a):=by
 induction a using qJ with
 |h0=>rfl
 |h1 xs x ih=>rw[JM,List.map_singleton,qK,ih,uN];show eS S _ _ _
noncomputable def Co (R C:Int) (M:Nat):-T3:=(List.range M).map (sN R C)
theorem iF {a:Nat}(h:a<16):hashInt (a:Int)=a:=by
 have:∀a<16,hashInt ((a:Nat):Int)=a:=by decide+kernel
 show this a h
theorem FY (l r c:Nat)(e:r<16)(f:c<16):x_ (256*l+16*r+c)=reduceHash (Nc.Tuple.tupleHashOf [(l:Int),(r:Int),(c:Int)]):=by
 let a:(256*l+16*r+c)/256=l:=by omega
 let b:(256*l+16*r+c)/16%16=r:=by omega
 let d:(256*l+16*r+c)%16=c:=by omega
 unfold x_
 rw[a,b,d]
theorem Cp(x:-Int):Np (aX P w) (iK x)=reduceHash (Nc.Tuple.tupleHashOf (x.map hashInt)):=by
 unfold Np iK
 rw[Ki]
 rfl
theorem G0(l r c:Nat)(d:l<16)(a:r<16)(b:c<16):Np (aX P w) (iK [(l:Int),(r:Int),(c:Int)])=x_ (256*l+16*r+c):=by
 rw[Cp,FY l r c a b,JW,JW,JW,List.map_nil,iF d,iF a,iF b]
theorem vM (S:gP L R C){n:Nat}(h:(n:Int)<L*R*C){P:Ni}{w:Nr}:∃k:Nat,k<1024/\Np (aX P w) (iK (sN R C n))=x_ k/\(k:Int)=256*((n:Int)/C/R)+16*((n:Int)/C%R)+(n:Int)%C:=by
 let⟨d,e,b,g,a,f⟩:=iG S h
 have:=S.l1
 have:=S.r1
 have:=S.c1
 unfold sN
 revert d e b g a f
 generalize (n:Int)/C/R=l
 generalize (n:Int)/C%R=r
 generalize (n:Int)%C=c
 intro d e b g a f
 let⟨l,rfl⟩:=Mq d
 let⟨r,rfl⟩:=Mq b
 let⟨c,rfl⟩:=Mq a
 show⟨256*l+16*r+c,(),G0 l r c () () (),()⟩
theorem uJ (S:gP L R C){P:Ni}{w:Nr}{n m:Nat}(b:(n:Int)<L*R*C)(a:(m:Int)<L*R*C)(e:Np (aX P w) (iK (sN R C n))=Np (aX P w) (iK (sN R C m))):n=m:=by
 let⟨k,c,f,h⟩:=vM S b (P:=P) (w:=w)
 let⟨j,g,d,i⟩:=vM S a (P:=P) (w:=w)
 let e:=CN c g (f.symm.trans (e.trans d))
 let⟨s,y,q,o,u,l⟩:=iG S b
 let⟨v,b2,x,z,p,r⟩:=iG S a
 have:=S.r1
 have:=S.c1
 show my S ?_
 unfold sN
 rw[show(n:Int)/C/R=(m:Int)/C/R by omega,show(n:Int)/C%R=(m:Int)/C%R by omega,show(n:Int)%C=(m:Int)%C by omega]
theorem k_ {d g:Type}{f:d->g}:∀{xs:-d},xs.Nodup->(∀a∈xs,∀b∈xs,f a=f b->a=b)->(xs.map f).Nodup
 |[],_,_=>LC
 |x::xs,nd,h=>by
  rw[Kj] at nd
  rw[JW,Kj]
  show⟨λz=>?_,k_ nd.2 λa ha b hb=>h a (J0 _ ha) b (J0 _ hb)⟩
  let⟨y,c,e⟩:=JL.mp z
  show nd.1 ((h y (J0 _ c) x JZ e)▸c)
theorem og{P:Ni}{w:Nr}(g:-cP->Int):∀ps:-(Nat×V),(bg R C ps).map (λp=>g p.1)=(ps.map (·.1)).map λn=>g (iK (sN R C n))
 |[]=>rfl
 |p::r=>by
  have:=og (P:=P) (w:=w) g r
  unfold bg at this|-
  rw[JW,JW,JW,JW,this]
theorem iY (S:gP L R C){M:Nat}(b:(M:Int)=L*R*C){ps:-(Nat×V)}(h:Tb M ps){P:Ni}{w:Nr}:oZ P w (bg R C ps):=by
 let key:=og (P:=P) (w:=w) (R:=R) (C:=C) (Np (aX P w)) ps
 unfold oZ
 rw[key]
 show k_ h.nd λn a m hm e=>?_
 let⟨p,hp,rfl⟩:=JL.mp a
 let⟨q,hq,rfl⟩:=JL.mp hm
 let l1:=h.lt p hp
 let l2:=h.lt q hq
 show uJ S () () e
theorem vZ {ps:-(Nat×V)}:BG (bg R C ps):=λp hp=>by
 let⟨q,_,rfl⟩:=JL.mp hp
 show⟨_,Z⟩
theorem A_ {ps:-(Nat×V)}:(bg R C ps).map (·.1)=((ps.map (·.1)).map (sN R C)).map λc=>c.map Sum.inl:=by
 unfold bg
 rw[Ki,Ki,Ki];rfl
theorem bT {ps:-(Nat×V)}:↑(bg R C ps)=↑ps:=by unfold bg;rw[JF]
end
theorem aP(s:aw H0 H')(a:H0 D=none):aw H0 (Ob H' D y):=λb u e=>by
 rw[aj (ai e a)];show s _ _ e
section
variable {tc:TT} {t u:TS} {te ta tb td ty:TE} {D:gV} {σ:St} {H:Hp} {a d:N8} {y v:V} {o:Option V} {K:JI}
theorem dz (c:Ev ty σ H y)(b:Ev td σ H (.ref a))(g:fX H a y o):Ev (v5 ty td) σ H (.bl (!o.isSome)):=λ_ q=>c _ (b _ ⟨a,o,Z,g,q⟩)
theorem c9(h:iq tc σ H b)(e:b=c):iq tc σ H c:=e▸h
theorem fP(h:Ev te σ H v)(e:v=c):Ev te σ H c:=e▸h
theorem iS(c:Ev tv σ H v)(hd:Ev td σ H (.ref a))(b:Ev ty σ H y)(p:fg H a y v H4)(q:u D σ H4):eD (jw td ty tv) u D σ H:=c _ (hd _ (b _ ⟨a,H4,Z,p,q⟩))
theorem kR(c:Ev tv σ H v)(hd:Ev td σ H (.ref a))(b:Ev ty σ H y)(p:fg H a y v H4)(q:D.nx σ H4):jw td ty tv D σ H:=c _ (hd _ (b _ ⟨a,H4,Z,p,q⟩))
theorem pD(h:mM tl σ H vs)(hz:↑vs<=N9)(q:∀p,H p=none->Q (.ref p) (Ob H p (.tup vs))):sR tl σ H Q:=h _ ⟨hz,q⟩
theorem Ey(h:mM tl σ H vs)(hz:↑vs<=N9)(q:∀p,H p=none->Q (.ref p) (Ob H p (.lst vs))):pO tl σ H Q:=h _ ⟨hz,q⟩
theorem lL(h:mM tl σ H vs)(hz:↑vs<=N9)(q:∀p,H p=none->D.rt (.ref p) (Ob H p (.tup vs))):z0 (sR tl) D σ H:=h _ ⟨hz,q⟩
theorem cw(h:mM tl σ H vs)(q:sp vs H Q E0):fS sp [] E0 tl σ H Q:=h _ (J6<|q)
theorem EJ(h:mM tl σ H vs)(q:sp vs H (λv H1=>D.nx (σ.set n (some v)) H1) E0):iC (fS sp [] E0 tl) (dH n) D σ H:=h _ (J6<|q)
theorem vy {b:TA}{vs:-V}{g:TG}{a:TS}(h:mM b σ H vs)(hz:↑vs<=N9)(q:∀p,H p=none->iR (qY K (λ_ H' Q=>Q (.ref p) H')) g a D σ (Ob H p (.lst vs))):iR (qY K (pO b)) g a D σ H:=h _ ⟨hz,q⟩
theorem hU (W:Nat->St->Hp->Prop)(h0:∃m,W m σ H)(d:∀m σ H,W m σ H->∃b,iq tc σ H b/\(b=true->∀N:St->Hp->Prop,(∀c a H',c<m->W c a H'->N a H')->t {D with nx:=N,ct:=N,bk:=u D} σ H)/\(b=false->u D σ H)):
  eD (sQ tc t) u D σ H:=zS (D:={D with nx:=u D}) W h0 d
theorem fT {a:-(-cP×V)}(h1:Ev td σ H (.ref d))(c:Ev ty σ H y)(b:Ev tz σ H z)(hd:H d>.dT a)(g:fX H d y o):Ev (Ib K "dict" zE td (cz ty (cz tz e8))) σ H (o.getD z):=
 λ_ q=>h1 _ ⟨.inr (.inr (.inl ⟨Z,.inr ⟨_,hd⟩⟩)),c _ (b _ ⟨_,_,_,_,Z,Z,g,q⟩)⟩
end
theorem eV(h:bH H as cs)(t:bH H bs ds):bH H (as++bs) (cs++ds):=e_ h t
theorem kE(a:Ev ta σ H x)(b:Ev tb σ H .non):Ev (e9 (λx y H Q=>y=.non/\Q (.bl (!decide (x=.non))) H) ta tb) σ H (.bl (!decide (x=.non))):=λ_ z=>a _ (b _ ⟨Z,z⟩)
theorem Dv{tr:TA}(h:fS sp [] E0 tl σ H (λv H1=>tr σ H1 λvs H2=>sp2 ((v::vs)++[]) H2 Q E0)):fS sp2 [] E0 (cz (fS sp [] E0 tl) tr) σ H Q:=h
theorem kN(h:mM ta σ H [.int j])(h1: -2^62<=j)(a:j<2^62)(q:iR (λ_ H R=>R (Dq 0 j.toNat) H) g tb {D with nx:=u D} σ H):eD (iR (qo ta) g tb) u D σ H:=h _ ⟨j,Z,h1,a,q⟩
theorem Cy(h:mM tl σ H vs)(q:sp vs H (λx H1=>∃a,x=.ref a/\(∃xs,aN K H1 a xs)/\iR (λ_ H R=>R (Gj K a) H) g tb {D with nx:=u D} σ H1) E0):eD (iR (qY K (fS sp [] E0 tl)) g tb) u D σ H:=h _ (J6<|q)
theorem Ck(h:mM tl σ H vs)(q:sp vs H (λx H1=>∃a,x=.ref a/\(∃xs,aN K H1 a xs)/\iR (λ_ H R=>R (Gj K a) H) g tb D σ H1) E0):iR (qY K (fS sp [] E0 tl)) g tb D σ H:=h _ (J6<|q)
theorem EA(h:mM tl σ H vs)(q:∀Q:VK,Q v H->sp vs H Q E0):Ev (fS sp [] E0 tl) σ H v:=λQ z=>h _ (J6<|q Q z)
theorem gH(h:ta σ H λx H1=>tb σ H1 λy H2=>r x y H2 Q):e9 r ta tb σ H Q:=h
def Sb (l:N8) (H a:Hp):Prop:=∀b o,b≠l->H b>o->a b>o
theorem Sb.refl (l:N8)(H:Hp):Sb l H H:=λ_ _ _ h=>h
theorem Sb.trans(a:Sb l H H1)(b:Sb l H1 H2):Sb l H H2:=λc o n h=>b c o n (a c o n h)
theorem Sb.of(s:aw H H'):Sb l H H':=λb o _ h=>s b o h
theorem Sb.set(s:Sb l H H'):Sb l H (Ob H' l y):=λb o n h=>by rw[aj n];show s b o n h
theorem zg {xs:-Int}{i:Nat}{x:V}(h:(xs.map V.int)[i]?>x):∃j,x=.int j/\xs[i]?>j:=by
 rw[JV] at h
 cases e:xs[i]? with
 |none=>rw[e] at h;cases h
 |some j=>rw[e] at h;show⟨j,(Option.some.inj h).symm,Z⟩
theorem bp {a:Type}{xs:-a}{x:a}(h:xs[i]?>x):xs.take (i+1)=xs.take i++[x]:=by rw[K6,h];rfl
theorem BQ (ns:-Int)(lo a:Option Int):∃cs:-Int,mn (ns.map V.int) lo a=cs.map V.int/\↑cs<=ns.length:=by
 let h:=j7 (ns.map V.int) lo a
 unfold mn at h|-
 rw[<-List.map_drop,<-List.map_take] at h|-
 show⟨_,Z,by simp only[JF] at h|-;show h⟩
theorem F3(h:iq t σ H true)(q:ta σ H Q):Ht t ta tb σ H Q:=h _ (gT q)
theorem Ex(h:iq t σ H false)(q:tb σ H Q):Ht t ta tb σ H Q:=h _ (fN q)
theorem nZ(e:H d>u):aw H (Ob (Ob H d (.frz o u)) d u):=λb v z=>by
 by_cases hb:b=d
 ·subst hb;rw[ag,<-e,z]
 ·rw[aj hb,aj hb];show z
theorem oV(h:iq t1 σ H false)(a:iq t2 σ H b):iq (Gi t1 t2) σ H b:=λQ q=>h _ (fN (a _ q))
theorem ic(h:iq tc σ H true):iq (BR tc) σ H false:=λ_ q=>h _ q
theorem kP{fs:-(Nh×V)}(h:Ev ta σ H (.ref p))(e:H p>.ins C dx fs)(c:pJ K C)(n:cB K C f)(l:fs.lookup f>v):Ev (rP K ta f) σ H v:=λ_ q=>h _ ⟨p,C,dx,fs,v,Z,e,c,n,l,q⟩
theorem nN(c:H p=none)(a:H dx=none):aw H (Ob (Ob H dx (.own p)) p (.ins C dx [])):=λb o e=>by
 rw[aj (ai e c),aj (ai e a)];show e
theorem b_ {as:-N8}{i:Nat}{x:V}(h:(as.map V.ref)[i]?>x):∃a,as[i]?>a/\x=.ref a:=by
 rw[JV] at h
 let⟨a,e,z⟩:=Kc.mp h
 show⟨a,e,z.symm⟩
theorem BS{a b:-(-cP×V)}(h:uM H as a)(g:uM H bs b):uM H (as++bs) (a++b):=by
 induction h with
 |nil=>show g
 |cons r _ ih=>show .cons r ih
theorem uM.mono{cs:-(-cP×V)}(h:uM H as cs)(s:∀b xs,H b>.tup xs->H' b>.tup xs):uM H' as cs:=Nb.mapP h λa c d=>by let⟨b,e,f⟩:=d;show⟨b,s _ _ e,s _ _ f⟩
theorem iL(c:Ev ty σ H y)(b:Ev td σ H (.ref a))(g:fX H a y o):Ev (Gs ty td) σ H (.bl o.isSome):=λ_ q=>c _ (b _ ⟨a,o,Z,g,q⟩)
def fM (H a:Hp) (p:N8):Prop:=∀b o,b≠p->H b>o->a b>o
theorem fM.same(s:aw H H1)(n:H p=none)(b:fM H1 H2 p):aw H H2:=λa o e=>b a o (ai e n) (s a o e)
theorem fM.st(b:fM H H1 p)(s:aw H1 H2):fM H H2 p:=λa o n e=>s _ _ (b a o n e)
theorem fM.up(b:fM H H1 p):fM H (Ob H1 p o) p:=λa u n e=>by rw[aj n];show b a u n e
theorem fM.of(s:aw H H1):fM H H1 p:=λa o _ e=>s _ _ e
theorem cn(h:bH H as cs):∀{i:Nat} {a:N8},as[i]?>a->∃c,cs[i]?>c/\H a>.tup (c.map V.int):=by
 induction h with
 |nil=>intro i a e;simp at e
 |cons r _ ih=>
  intro i a e
  cases i with
  |zero=>simp at e;subst e;show⟨_,by simp,r⟩
  |succ i=>simp at e;let⟨p,h1,h2⟩:=ih e;show⟨p,by simpa using h1,h2⟩
theorem gZ(h:te σ H D.rt):z0 te D σ H:=h
theorem dD(s:aw H H')(n:H' t=none):H t=none:=by
 cases e:H t with
 |none=>rfl
 |some o=>rw[s _ _ e] at n;cases n
section
variable {K:JI} {σ σ0:St} {H H1:Hp} {D a:N8} {g:TG} {tt:TT} {te t0:TE} {ta:TA} {n:Nat} {ix:-Nat} {as:-N8} {cs:-T3}
theorem cg(a:H' D>.lst zs)(c:H' t=none):∀b xs,H' b>.tup xs->Ob (Ob H' t o) D (.lst y) b>.tup xs:=λb xs e=>by
 rw[aj (bz e a (λz=>by cases z)),aj (ai e c)];show e
theorem aV(a:H' D>.lst zs):∀b xs,H' b>.tup xs->Ob H' D (.lst y) b>.tup xs:=λb xs e=>by
 rw[aj (bz e a (λz=>by cases z))];show e
theorem aC(h:bH H as cs)(s:∀b xs,H b>.tup xs->H' b>.tup xs):bH H' as cs:=Nb.mapP h λa c e=>s _ _ e
def y_ (H:Hp) (q:N8) (x:T3×Int):Prop:=∃b,H q>.tup [.ref b,.int x.2]/\H b>.tup (x.1.map V.int)
theorem c_{xs:-(T3×Int)}(h:Nb (y_ H) qs xs)(s:∀b ys,H b>.tup ys->H' b>.tup ys):Nb (y_ H') qs xs:=Nb.mapP h λ_ _ a=>by let⟨b,c,d⟩:=a;show⟨b,s _ _ c,s _ _ d⟩
theorem zq(f:T3->Bool)(v:T3->Int)(rest:-(Option V))(p:H1 D=none)(y:∀H',aw H1 H'->aN K H' a (as.map V.ref))(ht:bH H1 as cs)(hz:↑as<=1000)
  (z:∀b c H',c∈cs->H1 b>.tup (c.map V.int)->aw H1 H'->iq tt (some (.ref b)::rest) H' (f c)/\(f c=true->Ev tv (some (.ref b)::rest) H' (.int (v c))))
  (q:∀H' bs,aw H1 H'->H' D>.lst (bs.map V.ref)->Nb (y_ H') bs ((cs.filter f).map λc=>(c,v c))->Q H'):Hm (none::rest) (dH 0) tt (sR (cz (bI 0) (cz tv e8))) (Gj K a) H1 D Q:=by
 let len:↑as=↑cs:=Nb.length ht
 let k:N9=2^24:=rfl
 show aK (K:=K) (xs:=as.map V.ref) (λi n H'=>∃(o:Option V) (bs:-N8),n=o::rest/\aw H1 H'/\H' D>.lst (bs.map V.ref)/\Nb (y_ H') bs (((cs.take i).filter f).map λc=>(c,v c))/\↑bs<=i) ⟨none,[],Z,(aw.refl H1).upd p,ag,.nil,JG _⟩ (λi n H' _ hz=>by let⟨_,_,_,s,_⟩:=hz;show y _ s) ?_ ?_
 ·rintro i x n H' u ⟨o,bs,rfl,s,l,d,r⟩
  let⟨b,hb,rfl⟩:=b_ u
  let⟨c,g,e⟩:=cn ht hb
  let hi:i<↑as:=(JX.mp hb).1
  let⟨w,j⟩:=z b c H' (JY g) e s
  show gn (w _ ?_)
  cases hf:f c with
  |true=>
   show gT ?_
   show pD (vs:=[.ref b,.int (v c)]) (ak ∅ (ak (j hf) ax)) (by change 2<=N9;decide) λt m=>?_
   let h:t≠D:=JH (ai l m)
   show⟨bs.map V.ref,aj (JH h)<|l,by rw[JF];lia,_,bs++[t],Z,aP (s.upd m) p,by rw[ag,JM];rfl,?_,by rw[JQ];change ↑bs+1<=_;lia⟩
   rw[bp g,Le,LG hf,JM]
   show e_ (c_ d (cg l m)) (.cons ⟨b,by rw[aj h,ag],cg l m _ _ (s _ _ e)⟩ .nil)
  |false=>
   show fN ⟨_,bs,Z,s,l,?_,()⟩
   rw[bp g,Le,LH (by rw[hf];decide),Mr,J6]
   show d
 ·rintro n H' ⟨o,bs,rfl,s,l,d,r⟩
  rw[JF,len,Kb] at d
  show q H' bs s l d
theorem kZ(h:mM ta σ H [.int j])(h1: -2^62<=j)(a:j<2^62)(q:∀D,H D=none->Hm (zK n ix σ) g tt te (Dq 0 j.toNat) H D λH'=>u E (σ.set i (some (.ref D))) H'):eD (uv (qo ta) n ix g tt te i) u E σ H:=h _ ⟨j,Z,h1,a,q⟩
end
theorem uS(P:V->Hp->Prop)(h:∀Q:VK,(∀v H1,P v H1->Q v H1)->te σ H Q)(q:∀v H1,P v H1->u D (σ.set n (some v)) H1):eD (iC te (dH n)) u D σ H:=h _ q
theorem qr(h:tv σ H λv H1=>td σ H1 λx H2=>ty σ H2 λy H3=>∃a H4,x=.ref a/\fg H3 a y v H4/\D.nx σ H4):jw td ty tv D σ H:=h
theorem Fg(h:ta σ H λx H1=>tb σ H1 λy H2=>↑[x,y]<=N9/\∀p,H2 p=none->Q (.ref p) (Ob H2 p (.tup [x,y]))):sR (cz ta (cz tb e8)) σ H Q:=h
theorem Dd {b:Type} [DecidableEq b]{a:-(b×V)}{k:b}{v:V}{p:b×V}(h:p∈bC a k v):p∈a\/p=(k,v):=by
 cases e:aE a k with
 |none=>rw[fZ _ e] at h;show(J3.mp h).imp id JJ.mp
 |some w=>
  have:(a.any λc=>decide (c.1=k))=true:=by rw[cZ,e];rfl
  unfold bC at h
  rw[N1 this] at h
  let⟨q,hq,rfl⟩:=JL.mp h
  by_cases z:q.1=k
  ·rw[N1 z];right;rw[z]
  ·rw[N0 z];show .inl hq
def Bt (c:-N8) (H a:Hp):Prop:=∀b o,b∉c->H b>o->a b>o
theorem Bt.refl (a:-N8)(H:Hp):Bt a H H:=λ_ _ _ h=>h
theorem Bt.same(h:Bt ls H H1)(s:aw H1 H2):Bt ls H H2:=λb o n e=>s _ _ (h b o n e)
theorem Bt.set(h:Bt ls H H')(m:l∈ls):Bt ls H (Ob H' l y):=λb o n e=>by
 let a:b≠l:=λz=>n (z<|m)
 rw[aj a];show h b o n e
theorem gX{tr:TA}{Q:-V->Hp->Prop}(h:mM tl σ H vs)(hz:↑vs<=N9)(q:∀p,H p=none->tr σ (Ob H p (.tup vs)) λxs H2=>Q (.ref p::xs) H2):cz (sR tl) tr σ H Q:=h _ ⟨hz,q⟩
theorem Dm(h:ta σ H λxs H1=>↑xs<=N9/\∀p,H1 p=none->D.rt (.ref p) (Ob H1 p (.lst xs))):z0 (pO ta) D σ H:=h
theorem DK (i j:Int):(if j<i then j else i)=min i j:=by simp only[Int.min_def];split<;>split<;>lia
theorem fk {b f:Type}{F:b->f->Prop}{as:-b}{d:-f}(h:Nb F as d):∀{i:Nat} {a:b},as[i]?>a->∃c,d[i]?>c/\F a c:=by
 induction h with
 |nil=>intro i a e;simp at e
 |cons r _ ih=>
  intro i a e
  cases i with
  |zero=>simp at e;subst e;show⟨_,by simp,r⟩
  |succ i=>simp at e;let⟨p,h1,h2⟩:=ih e;show⟨p,by simpa using h1,h2⟩
theorem vH {b:Type}:∀{l:-b} {i:Nat} {a:b},l.Nodup->l[i]?>a->a∉l.take i
 |[],_,_,_,h=>by simp at h
 |x::l,0,a,_,_=>by simp
 |x::l,i+1,a,nd,h=>by
  rw[Kj] at nd
  let h':l[i]?>a:=by simpa using h
  rw[List.take_succ_cons,JO]
  rintro(e|m)
  ·show nd.1 (e▸JY h')
  ·show vH nd.2 h' m
theorem DB(h:Ev te σ H v)(q:g v σ H (u D)):eD (iC te g) u D σ H:=h _ q
theorem tZ (i:Int):(if i<0 then -(i:_) else i)=(i.natAbs:Int):=by split<;>lia
theorem zY(h:te σ H λx H1=>∃j:Int,[x]=[.int j]/\ -2^62<=j/\j<2^62/\iR (λ_ H R=>R (Dq 0 j.toNat) H) g tb {D with nx:=u D} σ H1):eD (iR (qo (cz te e8)) g tb) u D σ H:=h
noncomputable def top (i:Nat):Nn:=PySem.Challenge.pw_wirefloor_k57_hills_of_all_parts.main.body.getD i (.Pass ⟨0,0,0,0⟩)
abbrev u0:Nn:=top 46
abbrev vj:Nn:=top 50
abbrev vW:Nn:=top 51
abbrev rf:Nn:=top 52
abbrev qu:Nn:=top 53
abbrev A6:Nn:=top 54
abbrev vx:Nn:=top 55
abbrev gq:Nn:=bY (top 56) 0
abbrev vg:Nn:=bY (top 56) 5
abbrev uz:Nn:=bY (top 56) 7
abbrev vq:Nn:=bY (top 56) 8
abbrev uw:Nn:=bY (top 56) 9
abbrev yE:Nn:=bY (top 56) 10
abbrev yB:Nn:=bY (top 56) 11
abbrev DF:Nn:=bY (top 56) 13
abbrev zT:Nn:=top 2
abbrev Gp:Nn:=top 3
abbrev DU:Nn:=top 19
abbrev v9:Nn:=top 20
abbrev jz:Nn:=bY (top 21) 0
abbrev dS:Nn:=bY (top 22) 0
abbrev A1:Nn:=bY (top 27) 0
abbrev u6:Nn:=bY (top 27) 1
abbrev GG:Nn:=bY (top 27) 2
abbrev Hd:Nn:=bY (top 27) 3
abbrev zU:Nn:=top 28
abbrev DM:Nn:=bY (top 30) 0
abbrev Eh:Nn:=bY (top 30) 1
abbrev Gq:Nn:=bY (top 30) 2
abbrev DV:Nn:=bY (top 30) 4
abbrev D4:Nn:=bY (top 30) 3
abbrev we:Nn:=top 32
abbrev GK:Nn:=top 33
abbrev q9:Nn:=top 35
abbrev gr:Nn:=top 36
abbrev zu:Nn:=top 38
abbrev zi:Nn:=top 39
abbrev Ek:Nn:=top 40
abbrev vc:Nn:=bY (top 41) 0
abbrev GY:Nn:=top 42
abbrev D9:Nn:=top 43
abbrev Ee:Nn:=top 44
abbrev DL:Nn:=top 58
abbrev Gz:Nn:=top 59
abbrev yJ:Nn:=top 60
abbrev Af:Nn:=top 61
abbrev DR:Nn:=top 62
abbrev DO:Nn:=top 63
abbrev u7:Nn:=top 64
abbrev D7:Nn:=top 65
abbrev D_:Nn:=top 66
abbrev AS:Nn:=top 67
abbrev DW:Nn:=top 68
abbrev Ed:Nn:=top 69
abbrev DI:Nn:=top 70
abbrev AB:Nn:=top 71
abbrev vR:Nn:=top 72
abbrev Hg:Nn:=top 73
abbrev B7:Nn:=top 74
structure Txt (K:JI) (mg:Nh->Option N7) (cThing Og Od Oe Of Oc cMS:N8):Prop where
 len_:mg "len" =none
 range_:mg "range" =none
 isinstance_:mg "isinstance" =none
 int_:mg "int" =none
 bool_:mg "bool" =none
 tuple_:mg "tuple" =none
 list_:mg "list" =none
 dict_:mg "dict" =none
 sorted_:mg "sorted" =none
 zip_:mg "zip" =none
 min_:mg "min" =none
 max_:mg "max" =none
 abs_:mg "abs" =none
 sum_:mg "sum" =none
 reversed_:mg "reversed" =none
 enumerate_:mg "enumerate" =none
 set_:mg "set" =none
 str_:mg "str" =none
 all_:mg "all" =none
 any_:mg "any" =none
 cl_Thing:pJ K cThing
 mg_Thing:mg "Thing" >.ref cThing
 cl_Net:pJ K Og
 mg_Net:mg "Net" >.ref Og
 na_Net_name:cB K Og "name"
 na_Net_half:cB K Og "half"
 na_Net_room:cB K Og "room"
 na_Net_pins:cB K Og "pins"
 cl_TreePaper:pJ K Od
 mg_TreePaper:mg "TreePaper" >.ref Od
 na_TreePaper_wires:cB K Od "wires"
 na_TreePaper_price:cB K Od "price"
 na_TreePaper_hills:cB K Od "hills"
 cl_Parts:pJ K Oe
 mg_Parts:mg "Parts" >.ref Oe
 na_Parts_above:cB K Oe "above"
 na_Parts_left:cB K Oe "left"
 cl_Heap:pJ K Of
 mg_Heap:mg "Heap" >.ref Of
 na_Heap_pairs:cB K Of "pairs"
 cl_Floor:pJ K Oc
 mg_Floor:mg "Floor" >.ref Oc
 na_Floor_sizes:cB K Oc "sizes"
 na_Floor_prices:cB K Oc "prices"
 na_Floor_vias:cB K Oc "vias"
 na_Floor_rocks:cB K Oc "rocks"
 na_Floor_tolls:cB K Oc "tolls"
 g_LETTERS:∃u,mg "LETTERS" >u/\a8 (.str (Nh.ofString "abcdefghijklmnopqrstuvwxyz")) u
 g_FIGURES:∃u,mg "FIGURES" >u/\a8 (.str (Nh.ofString "0123456789")) u
 g_MOST_PRICE:∃u,mg "MOST_PRICE" >u/\a8 (.int 1000000000000) u
 g_MOST_SIGNS:∃u,mg "MOST_SIGNS" >u/\a8 (.int 12) u
 g_MOST_HALF:∃u,mg "MOST_HALF" >u/\a8 (.int 2) u
 g_MOST_ROOM:∃u,mg "MOST_ROOM" >u/\a8 (.int 3) u
 g_MOST_PINS:∃u,mg "MOST_PINS" >u/\a8 (.int 6) u
 g_MOST_SIZES:∃u,mg "MOST_SIZES" >u/\a8 (.ref cMS) u
 t_MOST_SIZES:∀H:Hp,a_ K H cMS [.int 4,.int 16,.int 16]
noncomputable def toll (a:-(Nat×V)) (n:Nat):Int:=match aE a n with
 |some (.int i)=>i
 |_=>0
structure Gd where
 L:Int
 R:Int
 C:Int
 M:Nat
 ps:-T3
 vs:-Int
 rs:-Nat
 ts:-(Nat×V)
def TV (a:-(Nat×V)):Prop:=∀p∈a,∃i:Int,p.2=.int i/\0<=i/\i<=1000000000000
def PP (ps:-T3):Prop:=∀c∈ps,∃a b:Int,c=[a,b]/\1<=a/\a<=1000000000000/\1<=b/\b<=1000000000000
structure dj (g:Gd):Prop where
 S:gP g.L g.R g.C
 M:(g.M:Int)=g.L*g.R*g.C
 m:g.M<=128
 pl:(↑g.ps:Int)=g.L
 pp:PP g.ps
 vl:(↑g.vs:Int)=g.L - 1
 vv:∀v∈g.vs,1<=v/\v<=1000000000000
 rl:↑g.rs<=63
 rr:∀n∈g.rs,n<g.M
 tt:Tb g.M g.ts
 tv:TV g.ts
def iB (H:Hp) (b:N8) (x y w:Int):Prop:=H b>.tup [.int x,.int y,.int w]
def jg (H:Hp) (l:N8) (a:-T3):Prop:=∃as:-N8,H l>.lst (as.map V.ref)/\bH H as a
theorem wZ(h:bH H as cs)(s:∀b xs,H b>.tup xs->H' b>.tup xs):bH H' as cs:=Nb.mapP h λa c e=>s _ _ e
theorem jg.same(h:jg H l cs)(s:aw H H'):jg H' l cs:=by
 let⟨as,h1,h2⟩:=h
 show⟨as,s _ _ h1,wZ h2 λb xs e=>s _ _ e⟩
structure Hu (H:Hp) (z pr vi ro td:N8) (g:Gd):Prop where
 z:iB H z g.L g.R g.C
 pr:jg H pr g.ps
 vi:H vi>.lst (g.vs.map V.int)
 ro:jg H ro (g.rs.map (sN g.R g.C))
 td:H td>.dT (bg g.R g.C g.ts)
theorem Hu.same {H d:Hp}{z pr a c b:N8}{g:Gd}(h:Hu H z pr a c b g)(s:aw H d):Hu d z pr a c b g:=⟨s _ _ h.z,h.pr.same s,s _ _ h.vi,h.ro.same s,s _ _ h.td⟩
noncomputable def fF (z pr a rd b:N8):-(Nh×V):=[("sizes",.ref z),("prices",.ref pr),("vias",.ref a),("rocks",.ref rd),("tolls",.ref b)]
section
variable {z pr vi rd td:N8}
theorem Hl:(fF z pr vi rd td).lookup ("sizes" :Nh)>.ref z:=by kernel_rfl
theorem Jp:(fF z pr vi rd td).lookup ("prices" :Nh)>.ref pr:=by kernel_rfl
theorem JB:(fF z pr vi rd td).lookup ("vias" :Nh)>.ref vi:=by kernel_rfl
theorem Ja:(fF z pr vi rd td).lookup ("rocks" :Nh)>.ref rd:=by kernel_rfl
theorem Jk:(fF z pr vi rd td).lookup ("tolls" :Nh)>.ref td:=by kernel_rfl
theorem Js:(fF z pr vi rd td).lookup ("is_rock" :Nh)=none:=by kernel_rfl
theorem Jz:(fF z pr vi rd td).lookup ("steps" :Nh)=none:=by kernel_rfl
theorem IF:(fF z pr vi rd td).lookup ("is_open" :Nh)=none:=by kernel_rfl
theorem Hz:(fF z pr vi rd td).lookup ("priced" :Nh)=none:=by kernel_rfl
theorem DT:dA "sizes" v []=[(("sizes" :Nh),v)]:=by kernel_rfl
theorem HP:dA "prices" v [("sizes",u)]=[(("sizes" :Nh),u),("prices",v)]:=by kernel_rfl
theorem GH {u v w:V}:dA "vias" w [("sizes",u),("prices",v)]=[(("sizes" :Nh),u),("prices",v),("vias",w)]:=by kernel_rfl
theorem Jx {u v w x:V}:dA "rocks" x [("sizes",u),("prices",v),("vias",w)]=[(("sizes" :Nh),u),("prices",v),("vias",w),("rocks",x)]:=by kernel_rfl
theorem Jw {u v w x y:V}:dA "tolls" y [("sizes",u),("prices",v),("vias",w),("rocks",x)]=[(("sizes" :Nh),u),("prices",v),("vias",w),("rocks",x),("tolls",y)]:=by kernel_rfl
end
structure FA (cF:N8) (H:Hp) (p pr vi rd td:N8) (g:Gd):Prop where
 ex:∃dx z,H p>.ins cF dx (fF z pr vi rd td)/\iB H z g.L g.R g.C
 pr:jg H pr g.ps
 vi:H vi>.lst (g.vs.map V.int)
 rd:H rd>.dT (bg g.R g.C (rk g.rs))
 td:H td>.dT (bg g.R g.C g.ts)
theorem FA.same {c:N8}{H d:Hp}{p pr a rd b:N8}{g:Gd}(h:FA c H p pr a rd b g)(s:aw H d):FA c d p pr a rd b g:=by
 let⟨dx,z,h1,h2⟩:=h.ex
 show⟨⟨dx,z,s _ _ h1,s _ _ h2⟩,h.pr.same s,s _ _ h.vi,s _ _ h.rd,s _ _ h.td⟩
noncomputable def fb (R C:Int) (a:-(Nat×V)) (c:T3):Int:=match aE (bg R C a) (iK c) with
 |some (.int i)=>i
 |_=>0
theorem pb(S:gP L R C){rs:-Nat}{n:Nat}:sN R C n∈rs.map (sN R C)↔n∈rs:=by
 constructor
 ·intro h
  let⟨m,hm,e⟩:=JL.mp h
  show(my S e)▸hm
 ·show λh=>Lu h
theorem vk:↑(Co R C M)=M:=by unfold Co;rw[JF,Kz]
def vo (H:Hp) (l:N8) (xs:-(T3×Int)):Prop:=∃a:-N8,H l>.lst (a.map V.ref)/\Nb (y_ H) a xs
theorem vo.same{xs:-(T3×Int)}(h:vo H l xs)(s:aw H H'):vo H' l xs:=by
 let⟨a,h1,h2⟩:=h
 show⟨a,s _ _ h1,c_ h2 λb ys e=>s _ _ e⟩
theorem FA.bt {n:N8}{c:-N8}{H f:Hp}{p pr i rd d:N8}{g:Gd}(h:FA n H p pr i rd d g)(b:Bt c H f)(j:∀l∈c,(∀xs,H l≠some (.tup xs))/\∀C dx fs,H l≠some (.ins C dx fs))(v:pr∉c)(q:i∉c)(u:rd∉c)(o:d∉c):FA n f p pr i rd d g:=by
 let k:∀a xs,H a>.tup xs->f a>.tup xs:=λa xs e=>b a _ (λm=>(j a m).1 _ e) e
 let⟨dx,z,h1,h2⟩:=h.ex
 let⟨as,s,r⟩:=h.pr
 show⟨⟨dx,z,b _ _ (λm=>(j p m).2 _ _ _ h1) h1,k _ _ h2⟩,⟨as,b _ _ v s,aC r k⟩,b _ _ q h.vi,b _ _ u h.rd,b _ _ o h.td⟩
def Bd (x y w:Int):Prop:=(-10000000000000<=x/\x<=10000000000000)/\(-10000000000000<=y/\y<=10000000000000)/\(-10000000000000<=w/\w<=10000000000000)
theorem t_(h:dj g){n:Nat}(a:n<g.M){x y w:Int}(e:[x,y,w]=sN g.R g.C n):iA g.L g.R g.C x y w:=by
 have:=iG h.S (n:=n) (by have:=h.M;lia)
 unfold sN at e
 injection e with e1 e
 injection e with e2 e
 injection e with e3 _
 rw[e1,e2,e3];show this
inductive kS (vs:-V) (H:Hp) (Q:VK) (E:XK):Prop
 |mk (a b:N8) (L R C l r c:Int) (_:vs=[.ref a,.ref b]) (_:iB H a L R C) (_:iB H b l r c) (_:Q (.bl (decide (iA L R C l r c))) H)
inductive qR (vs:-V) (H:Hp) (Q:VK) (E:XK):Prop
 |mk (z pr vi:N8) (L R C:Int) (xs ys:-V) (_:vs=[.ref z,.ref pr,.ref vi]) (_:iB H z L R C) (_:gP L R C) (_:H pr>.lst xs) (_:(↑xs:Int)=L) (_:H vi>.lst ys) (_:(↑ys:Int)=L - 1) (_:∀H',aw H H'->Q .non H')
inductive rQ (vs:-V) (H:Hp) (Q:VK) (E:XK):Prop
 |mk (x m:Int) (_:vs=[.int x,.int m]) (_:m<=x) (_:x<=1000000000000) (_:Q .non H)
inductive oE (vs:-V) (H:Hp) (Q:VK) (E:XK):Prop
 |mk (pr vi d:N8) (ps:-T3) (ws:-Int) (kvs:-(-cP×V)) (_:vs=[.ref pr,.ref vi,.ref d]) (_:jg H pr ps) (_:PP ps) (_:H vi>.lst (ws.map V.int)) (_:(∀v∈ws,1<=v/\v<=1000000000000)) (_:H d>.dT kvs) (_:(∀p∈kvs,∃i:Int,p.2=.int i/\0<=i/\i<=1000000000000)) (_:∀H',aw H H'->Q .non H')
def IU (H:Hp) (r:V) (g:Gd):Prop:=(r=.non/\g.rs=[])\/∃ro,r=.ref ro/\jg H ro (g.rs.map (sN g.R g.C))
def Ij (H:Hp) (t:V) (g:Gd):Prop:=(t=.non/\g.ts=[])\/∃td,t=.ref td/\H td>.dT (bg g.R g.C g.ts)
inductive pQ (cF:N8) (vs:-V) (H:Hp) (Q:VK) (E:XK):Prop
 |mk (p dx z pr vi:N8) (r t:V) (g:Gd) (_:vs=[.ref p,.ref z,.ref pr,.ref vi,r,t]) (_:H p>.ins cF dx []) (_:dj g) (_:iB H z g.L g.R g.C) (_:jg H pr g.ps) (_:H vi>.lst (g.vs.map V.int)) (_:IU H r g) (_:Ij H t g) (_:∀(H':Hp) (pr' vi' rd' td':N8),fM H H' p->H pr'=none->H vi'=none->H rd'=none->H td'=none->FA cF H' p pr' vi' rd' td' g->Q .non H')
inductive ij (vs:-V) (H:Hp) (Q:VK) (E:XK):Prop
 |mk (a b:N8) (L R C l r c:Int) (_:vs=[.ref a,.ref b]) (_:iB H a L R C) (_:iB H b l r c) (_:iA L R C l r c) (_:Q .non H)
noncomputable def mU (x y w:Int):-T3:=[[x - 1,y,w],[x,y - 1,w],[x,y,w - 1],[x,y,w+1],[x,y+1,w],[x+1,y,w]]
noncomputable def km (g:Gd) (c:T3):Bool:=decide (iA g.L g.R g.C (c.getD 0 0) (c.getD 1 0) (c.getD 2 0))
def Es (g:Gd) (c:T3):Bool:=decide (c∈g.rs.map (sN g.R g.C))
theorem AH(ps:-(Nat×V))(c:T3):(aE (bg R C ps) (iK c)).isSome=decide (c∈(ps.map (·.1)).map (sN R C)):=by
 rw[Ly,fj,A_,decide_eq_true_eq]
 constructor
 ·intro h
  let⟨d,hd,e⟩:=JL.mp h
  show(mz (show iK d=iK c from e))▸hd
 ·intro h
  show JL.mpr ⟨c,h,Z⟩
theorem vT:n∈(rk rs).map (·.1)↔n∈rs:=by
 rw[<-fj,FS,decide_eq_true_eq]
theorem Et(_:gP L R C)(b:-Nat)(c:T3):(aE (bg R C (rk b)) (iK c)).isSome=decide (c∈b.map (sN R C)):=by
 rw[AH]
 show decide_eq_decide.mpr ⟨λh=>?_,λh=>?_⟩
 ·let⟨n,a,e⟩:=JL.mp h
  show JL.mpr ⟨n,vT.mp a,e⟩
 ·let⟨n,a,e⟩:=JL.mp h
  show JL.mpr ⟨n,vT.mpr a,e⟩
theorem hZ{a:-(Nat×V)}(h:TV a)(c:T3):(aE (bg R C a) (iK c)).getD (.int 0)=.int (fb R C a c):=by
 unfold fb
 cases e:aE (bg R C a) (iK c) with
 |none=>rfl
 |some v=>
  let⟨p,hp,d⟩:=JL.mp (ju e)
  let⟨i,f,_⟩:=h p hp
  let b:p.2=v:=congrArg Prod.snd d
  rw[<-b,f];rfl
def nj (g:Gd) (c:T3):Bool:=km g c&&!Es g c
noncomputable def bare (g:Gd) (c d:T3):Int:=if c.getD 0 0≠d.getD 0 0 then g.vs.getD (min (c.getD 0 0) (d.getD 0 0)).toNat 0 else if c.getD 1 0=d.getD 1 0 then (g.ps.getD (c.getD 0 0).toNat []).getD 0 0 else (g.ps.getD (c.getD 0 0).toNat []).getD 1 0
noncomputable def cV (g:Gd) (c d:T3):Int:=fb g.R g.C g.ts c+fb g.R g.C g.ts d+bare g c d
noncomputable def mB (c:T3):-T3:=mU (c.getD 0 0) (c.getD 1 0) (c.getD 2 0)
noncomputable def fD (g:Gd) (c:T3):-(T3×Int):=if Es g c=true then [] else ((mB c).filter (nj g)).map λd=>(d,cV g c d)
noncomputable def ve (R C:Int) (F:-(Nat×V)) (c:T3):Bool:=(aE (bg R C F) (iK c)).isSome
noncomputable def lD (g:Gd) (F:-(Nat×V)) (c:T3):-(T3×Int):=(fD g c).filter λx=>ve g.R g.C F x.1
noncomputable def gM (g:Gd) (F:-(Nat×V)) (c:T3):-(T3×Int):=if ve g.R g.C F c=true then lD g F c else []
inductive uD (vs:-V) (H:Hp) (Q:VK) (E:XK):Prop
 |mk (b:N8) (x y w:Int) (_:vs=[.ref b]) (_:iB H b x y w) (_:∀(H':Hp) (l:N8),aw H H'->H l=none->jg H' l (mU x y w)->Q (.ref l) H')
inductive qG (cF:N8) (vs:-V) (H:Hp) (Q:VK) (E:XK):Prop
 |mk (p pr vi rd td b:N8) (g:Gd) (x y w:Int) (_:vs=[.ref p,.ref b]) (_:FA cF H p pr vi rd td g) (_:dj g) (_:iB H b x y w) (_:iA g.L g.R g.C x y w) (_:Q (.bl (Es g [x,y,w])) H)
inductive kY (cF:N8) (vs:-V) (H:Hp) (Q:VK) (E:XK):Prop
 |mk (p pr vi rd td b:N8) (g:Gd) (x y w:Int) (_:vs=[.ref p,.ref b]) (_:FA cF H p pr vi rd td g) (_:dj g) (_:iB H b x y w) (_:Q (.bl (nj g [x,y,w])) H)
def eQ (x y w b a w':Int):Prop:=[b,a,w']∈mU x y w
inductive kX (cF:N8) (vs:-V) (H:Hp) (Q:VK) (E:XK):Prop
 |mk (p pr vi rd td a b:N8) (g:Gd) (x y w x' y' w':Int) (_:vs=[.ref p,.ref a,.ref b]) (_:FA cF H p pr vi rd td g) (_:dj g) (_:iB H a x y w) (_:iB H b x' y' w') (_:iA g.L g.R g.C x y w) (_:iA g.L g.R g.C x' y' w') (_:eQ x y w x' y' w') (_:Q (.int (cV g [x,y,w] [x',y',w'])) H)
inductive uF (cF:N8) (vs:-V) (H:Hp) (Q:VK) (E:XK):Prop
 |mk (p pr vi rd td b:N8) (g:Gd) (x y w:Int) (_:vs=[.ref p,.ref b]) (_:FA cF H p pr vi rd td g) (_:dj g) (_:iB H b x y w) (_:iA g.L g.R g.C x y w) (_:∀(H':Hp) (l:N8),aw H H'->H l=none->vo H' l (fD g [x,y,w])->Q (.ref l) H')
def j_ (H:Hp) (e:N8) (g:Gd) (F:-(Nat×V)):Prop:=∃ls:-(Nat×V),H e>.dT (bg g.R g.C ls)/\ls.map (·.1)=F.map (·.1)/\∀q∈ls,∃l,q.2=.ref l/\vo H l (lD g F (sN g.R g.C q.1))
inductive ot (cF:N8) (vs:-V) (H:Hp) (Q:VK) (E:XK):Prop
 |mk (p pr vi rd td e:N8) (g:Gd) (F:-(Nat×V)) (_:vs=[.ref p,.ref e]) (_:FA cF H p pr vi rd td g) (_:dj g) (_:H e>.dT (bg g.R g.C F)) (_:Tb g.M F) (_:e≠rd) (_:e≠td) (_:∀(H':Hp) (d:N8),aw H H'->H d=none->j_ H' d g F->Q (.ref d) H')
noncomputable def E8:Nw:=match (bK gr).getD 1 (.Pass ⟨0,0,0,0⟩) with
 | .Return (some e) _=>e
 |_=> .Name "x" ⟨0,0,0,0⟩
noncomputable def pM:Arguments:=match E8 with
 | .Lambda p _ _ _=>p
 |_=>bX B7
def kW:Nw:=match E8 with
 | .Lambda _ b _ _=>b
 |e=>e
noncomputable def jV:NS:=match E8 with
 | .Lambda _ _ s _=>s
 |_=>aM B7
def qh:Nh:=(("arcs_in" :Nh)++ ".<locals>.")++ "<lambda>"
def FC (K:JI):TE:=zf (λxs H Q=>∃p ys,xs=[.ref p]/\(aN K H p ys\/a_ K H p ys)/\∀l,H l=none->Q (.ref l) (Ob H l (.lst ys))) (cz (Ib K "dict" zE (bI 1) (cz (bI 0) (cz (pO e8) e8))) e8)
theorem Ie (c:N8):jq ["spot"] [("leads",c)] jV:=by
 let b:∀p∈jV.names,p.2=.free->p.1= "leads" :=by decide+kernel
 let one:∀(x:Nh) (d:N8),([("leads",c)]:-(Nh×N8)).lookup x>d->x= "leads" :=λx d h=>by
  have:=PySem.mem_of_lookup h
  rw[JJ] at this
  show congrArg Prod.fst this
 show⟨Z,Z,Z,by decide+kernel,by decide+kernel,λx a=>?_,λx a=>?_,?_,λx y d h1 h2=>by rw[one x d h1,one y d h2]⟩
 ·rw[show x= "leads" from b _ (PySem.mem_of_lookup a) Z]
  show⟨c,by simp⟩
 ·rw[show x= "leads" from JJ.mp a]
  decide+kernel
 ·change(["spot", "leads"]:-Nh).Nodup
  decide+kernel
theorem IB (s:N_)(us:-N7)(c b:N8)(pm a:N7)(h:↑us=1):BindsTo s (PySem.W.kla_fn "<lambda>" qh pM kW jV [("leads",c)] pm (.ref b) a) ⟨us,[]⟩ ((["spot"]:-Nh).zip us):=by
 rcases us with _|⟨u,_|⟨v,r⟩⟩
 ·cases h
 ·show .of_eq Z
 ·cases h
def i9 (h:Nh->Option N7) (H:Hp) (f:N8) (g:Gd) (F:-(Nat×V)) (e:N8):Prop:=∃(c a:N8) (b:N7) (d o:Nv) (rd:N8),rd≠e/\
 H f>iN f (LZ "<lambda>" qh pM kW jV [("leads",c)] ((h "__name__").getD .none) a b)/\H a>iN a d/\mF d a qh/\H c>iN c o/\o.data=.cell (some (.ref rd))/\j_ H rd g F
theorem j_.same{F:-(Nat×V)}(h:j_ H e g F)(s:aw H H'):j_ H' e g F:=by
 let⟨ls,h1,h2,a⟩:=h
 show⟨ls,s _ _ h1,h2,λq hq=>let ⟨l,e1,e2⟩:=a q hq;⟨l,e1,e2.same s⟩⟩
theorem j_.keep{F:-(Nat×V)}(h:j_ H e g F)(s:∀b x,H b>x->(∀ps,x≠.tbl ps)->H' b>x):j_ H' e g F:=by
 let⟨ls,h1,h2,d⟩:=h
 show⟨ls,s _ _ h1 (λ_ z=>by cases z),h2,λq hq=>?_⟩
 let⟨l,c,i,a,j⟩:=d q hq
 show⟨l,c,i,s _ _ a (λ_ z=>by cases z),c_ j λb ys f=>s _ _ f (λ_ z=>by cases z)⟩
theorem i9.same{F:-(Nat×V)}(h:i9 mg H f g F e)(s:aw H H'):i9 mg H' f g F e:=by
 let⟨c,d,a,m,o,rd,l,h1,h2,k,b,j,i⟩:=h
 show⟨c,d,a,m,o,rd,l,s _ _ h1,s _ _ h2,k,s _ _ b,j,i.same s⟩
def EY (e:Nh->Option N7) (K:JI) (f:N8) (vs:-V) (H:Hp) (Q:VK):Prop:=∃(c a:N8) (b:N7) (d o:Nv) (u:N7) (v:V),H f>iN f (LZ "<lambda>" qh pM kW jV [("leads",c)] ((e "__name__").getD .none) a b)/\H a>iN a d/\mF d a qh/\H c>iN c o/\o.data=.cell (some u)/\a8 v u/\
 ↑vs=↑(["spot"]:-Nh)/\FC K (vs.map some++[some v]) (drp H c) λr H'=>H' c=none->Q r (Ob H' c (iN c o))
theorem i9.clear{F:-(Nat×V)}{d k:-(-cP×V)}(h:i9 mg H f g F e)(B:H e>.dT d):i9 mg (Ob H e (.dT k)) f g F e:=by
 let⟨c,r,a,D,o,rd,m,h1,h2,A,p,v,ls,n,E,w⟩:=h
 let i:∀{b:N8} {x:HO},H b>x->(∀d,x≠.dT d)->Ob H e (.dT k) b>x:=fun{b x} j s=>by
  rw[aj (λz=>by rw[z,B] at j;cases j;show s _ Z)];show j
 show⟨c,r,a,D,o,rd,m,i h1 (λ_ z=>by cases z),i h2 (λ_ z=>by cases z),A,i p (λ_ z=>by cases z),v,ls,aj m<|n,E,λq hq=>?_⟩
 let⟨l,y,C,u,I⟩:=w q hq
 show⟨l,y,C,i u (λ_ z=>by cases z),c_ I λb ys j=>i j (λ_ z=>by cases z)⟩
def Ia (K:JI) (H:Hp):Prop:=H (fG K "arcs_in").2>(.tbl #[])
def Jb (K:JI) (H a:Hp):Prop:=∀b x,b≠(fG K "arcs_in").2->H b>x->a b>x
inductive mD (K:JI) (mg:Nh->Option N7) (cF:N8) (vs:-V) (H:Hp) (Q:VK) (E:XK):Prop
 |mk (p pr vi rd td e:N8) (g:Gd) (F:-(Nat×V)) (_:vs=[.ref p,.ref e]) (_:FA cF H p pr vi rd td g) (_:dj g) (_:H e>.dT (bg g.R g.C F)) (_:Tb g.M F) (_:e≠rd) (_:e≠td) (_:Ia K H) (_:∀(H':Hp) (f:N8),Jb K H H'->i9 mg H' f g F e->Q (.ref f) H')
abbrev IG:=Int×-(Nat×V)
noncomputable def ht (h:IG) (n:Nat):Int:=match aE h.2 n with
 |some (.int i)=>i
 |_=>h.1
def mK (R C:Int) (H:Hp) (b:N8) (n:Nat):Prop:=H b>.tup ((sN R C n).map V.int)
theorem pV(S:gP L R C)(F:-(Nat×V))(n:Nat):ve R C F (sN R C n)=(aE F n).isSome:=by unfold ve;rw[bP S]
theorem A0{F:-(Nat×V)}(S:gP g.L g.R g.C)(h:i9 mg H f g F e0)(P:mK g.R g.C H b n)
  (q:∀(l:N8) (H':Hp),aw H H'->H l=none->vo H' l (gM g F (sN g.R g.C n))->Q (.ref l) H'):EY mg K f [.ref b] H Q:=by
 let⟨c,O,r,Z0,o,rd,_,h1,h2,T,B,W,ls,N,g2,X⟩:=h
 show⟨c,O,r,Z0,o,.ref rd,.ref rd,h1,h2,T,B,W,Z,Z,?_⟩
 let dn:∀{b:N8} {x:HO},H b>x->(∀y,x≠.ext y)->drp H c b>x:=λe n=>gf e B (jO n)
 let m:drp H c b>.tup ((sN g.R g.C n).map V.int):=dn P (λy z=>by cases z)
 let i:=dn N (λy z=>by cases z)
 let k:Hx K "dict" (.ref rd) (drp H c):=.inr (.inr (.inl ⟨Z,.inr ⟨_,i⟩⟩))
 show⟨_,Z,k,_,Z,J4 _,λs D=>?_⟩
 let s1:aw (drp H c) (Ob (drp H c) s (.lst [])):=(aw.refl _).upd D
 let J:Ob (drp H c) s (.lst []) s>.lst []:=ag
 let sq:=dg (.inl (s1 _ _ i)) (s1 _ _ m)
 rw[bP S] at sq
 show⟨rd,.ref b,.ref s,aE ls n,Z,Z,sq,?_⟩
 let a:∀(p:N8) (ys:-N8),Ob (drp H c) s (.lst []) p>.lst (ys.map V.ref)->Nb (y_ (drp H c)) ys (gM g F (sN g.R g.C n))->∀l,Ob (drp H c) s (.lst []) l=none->Ob (Ob (drp H c) s (.lst [])) l (.lst (ys.map V.ref)) c=none->Q (.ref l) (Ob (Ob (Ob (drp H c) s (.lst [])) l (.lst (ys.map V.ref))) c (iN c o)):=λp ys hp M l u w=>by
  let j:l≠c:=λz=>by rw[z,ag] at w;cases w
  let U:aw H (Ob (Ob (Ob (drp H c) s (.lst [])) l (.lst (ys.map V.ref))) c (iN c o)):=λb x e=>by
   by_cases z:b=c
   ·rw[z,B] at e;rw[z,ag];show e
   ·rw[aj z]
    let A:drp H c b>x:=mj z<|e
    rw[aj (ai (s1 _ _ A) u)]
    show s1 _ _ A
  show q l _ U ?_ ⟨ys,by rw[aj j,ag],c_ M λb xs e=>?_⟩
  ·cases e:H l with
   |none=>rfl
   |some x=>
    have:=s1 _ _ (show drp H c l>x by rw[mj j];show e)
    rw[u] at this;cases this
  ·let Y:b≠c:=λz=>by rw[z,f_] at e;cases e
   rw[aj Y,aj (ai (s1 _ _ e) u)]
   show s1 _ _ e
 let keys:(aE ls n).isSome=ve g.R g.C F (sN g.R g.C n):=by
  rw[pV S,Ly,fj,fj,g2]
 unfold gM at a
 cases e:aE ls n with
 |none=>
  rw[e] at keys
  rw[<-keys] at a
  show⟨s,[],Z,.inl (aN.of J),λl u=>a s [] J .nil l u⟩
 |some v=>
  rw[e] at keys
  rw[<-keys] at a
  let⟨l0,d,E,A,e3⟩:=X _ (ju e)
  let d:v=.ref l0:=d
  subst d
  let I:=s1 _ _ (dn A (λy z=>by cases z))
  show⟨l0,E.map V.ref,Z,.inl (aN.of I),λl u=>a l0 E I (c_ e3 λb xs e=>dn e (λy z=>by cases z)) l u⟩
inductive so (K:JI) (vs:-V) (H:Hp) (Q:VK) (E:XK):Prop
 |mk (a:N8) (ns:-Int) (i:Int) (_:vs=[.ref a,.int i]) (_:aN K H a (ns.map V.int)) (_:0<=i) (_:∀v:Int,Q (.int v) H)
def pX (H:Hp) (m:V) (l:-Int):Prop:=∃b i j k,m=.ref b/\H b>.tup [.int i,.int j,.int k]/\l=[i,j,k]
def wc (H:Hp) (v:V) (k:-Int):Prop:=∃a p m l,v=.ref a/\H a>.tup [.int p,m]/\pX H m l/\k=p::l
def TK (H a:Hp):Prop:=∀b xs,H b>.tup xs->a b>.tup xs
theorem TK.new(h:H a=none):TK H (Ob H a o):=λb xs e=>by rw[aj (ai e h)];show e
theorem TK.lst(h:H a>.lst vs):TK H (Ob H a o):=λb xs e=>by rw[aj (λz=>by rw[z,h] at e;cases e)];show e
theorem pX.kept(h:pX H m l)(k:TK H H'):pX H' m l:=by
 let⟨b,i,j,n,e,q,r⟩:=h
 show⟨b,i,j,n,e,k _ _ q,r⟩
theorem wc.kept(h:wc H m l)(k:TK H H'):wc H' m l:=by
 let⟨a,p,m,l,e,q,r,z⟩:=h
 show⟨a,p,m,l,e,k _ _ q,r.kept k,z⟩
theorem pX.of(h:pX H m l):Jh K H m l:=by
 let⟨b,i,j,n,e,q,r⟩:=h
 show⟨b,i,j,n,e,a_.of q,r⟩
theorem wc.of(h:wc H m l):FZ K H m l:=by
 let⟨a,p,m,l,e,q,r,z⟩:=h
 show⟨a,p,m,l,e,a_.of q,r.of,z⟩
def ji (H:Hp) (vs:-V) (ks:-(-Int)):Prop:=↑vs=↑ks/\∀(i:Nat) v,vs[i]?>v->wc H v (ks.getD i [])
theorem ji.kept{ks:-(-Int)}(h:ji H vs ks)(k:TK H H'):ji H' vs ks:=⟨h.1,λi v e=>(h.2 i v e).kept k⟩
theorem ji.nil (H:Hp):ji H [] []:=⟨Z,λi v e=>by cases e⟩
theorem ji.set{ks:-(-Int)}(h:ji H vs ks)(a:i<↑vs)(b:wc H v k):ji H (vs.set i v) (ks.set i k):=by
 show⟨by rw[KU,KU,h.1],λj w e=>?_⟩
 rw[Hp.get_set (by rw[<-h.1];show a)]
 rw[List.getElem?_set] at e
 by_cases hj:i=j
 ·rw[N1 hj] at e|-
  rw[N1 a] at e;cases e;show b
 ·rw[N0 hj] at e|-
  show h.2 j w e
theorem ji.snoc{ks:-(-Int)}(h:ji H vs ks)(a:wc H v k):ji H (vs++[v]) (ks++[k]):=by
 show⟨by rw[JQ,JQ,h.1];rfl,λj w e=>?_⟩
 rw[JS]
 by_cases hj:j<↑vs
 ·rw[K3 hj] at e
  rw[K3 (by rw[<-h.1];show hj),<-JS]
  show h.2 j w e
 ·rw[Ll ()] at e
  rw[Ll (by rw[<-h.1];lia),<-h.1]
  cases ej:j - ↑vs with
  |zero=>rw[ej] at e;cases e;show a
  |succ n=>rw[ej] at e;cases e
theorem rp:Hp.Ord HT.lexLt:=⟨cR,fw,gi⟩
abbrev lj (ks:-(-Int)):Prop:=Hp.Hpy HT.lexLt [] ks
structure yd (C:N8) (H:Hp) (p a:N8) (vs:-V):Prop where
 ob:∃dx,H p>.ins C dx [("pairs",.ref a)]
 ls:H a>.lst vs
def si (H c:Hp) (p a:N8):Prop:=∀b o,H b>o->b≠p->b≠a->c b>o
inductive zQ (C:N8) (vs:-V) (H:Hp) (Q:VK) (E:XK):Prop
 |mk (p dx:N8) (_:vs=[.ref p]) (_:H p>.ins C dx []) (_:∀(a:N8) (H':Hp),H a=none->yd C H' p a []->si H H' p a->Q .non H')
inductive sW (C:N8) (vs:-V) (H:Hp) (Q:VK) (E:XK):Prop
 |mk (p a:N8) (us:-V) (_:vs=[.ref p]) (_:yd C H p a us) (_:Q (.int (↑us:Nat)) H)
inductive vO (C:N8) (as:-V) (H:Hp) (Q:VK) (E:XK):Prop
 |mk (p a:N8) (vs:-V) (ks:-(-Int)) (pr:Int) (m:V) (l:-Int) (_:as=[.ref p,.int pr,m]) (_:yd C H p a vs) (_:ji H vs ks) (_:lj ks) (_:pX H m l) (_:↑vs<=900) (_:∀H' vs' ks',yd C H' p a vs'->ji H' vs' ks'->lj ks'->ks'.Perm (ks++[pr::l])->si H H' p a->Q .non H')
inductive yH (C:N8) (as:-V) (H:Hp) (Q:VK) (E:XK):Prop
 |mk (p a:N8) (vs:-V) (ks:-(-Int)) (x:V) (kx:-Int) (_:as=[.ref p,x]) (_:yd C H p a vs) (_:ji H vs ks) (_:lj ks) (_:0<↑vs) (_:wc H x kx) (_:↑vs<=900) (_:∀H' vs' ks',yd C H' p a vs'->ji H' vs' ks'->lj ks'->ks'.Perm (ks.set 0 kx)->si H H' p a->Q .non H')
inductive Ah (C:N8) (as:-V) (H:Hp) (Q:VK) (E:XK):Prop
 |mk (p a:N8) (vs:-V) (ks:-(-Int)) (_:as=[.ref p]) (_:yd C H p a vs) (_:ji H vs ks) (_:lj ks) (_:↑vs<=900) (_:vs≠[]) (_:(∀v k H' vs' ks',wc H' v k->yd C H' p a vs'->ji H' vs' ks'->lj ks'->(k::ks').Perm ks->(∀z∈ks,HT.lexLt z k=false)->si H H' p a->Q v H'))
theorem si.refl (H:Hp)(p a:N8):si H H p a:=λ_ _ e _ _=>e
theorem si.tk{fs:-(Nh×V)}(h:si H H' p a)(c:H p>.ins C dx fs)(d:H a>.lst vs):TK H H':=λb xs e=>h b _ e (λz=>by rw[z,c] at e;cases e) (λz=>by rw[z,d] at e;cases e)
theorem gA {vs:-V}{i:Nat}(h:i<↑vs):vs[i]?>vs.getD i .non:=by simp[JS,h]
theorem ji.get{ks:-(-Int)}(h:ji H vs ks){i:Nat}(a:i<↑vs):wc H (vs.getD i .non) (ks.getD i []):=h.2 i _ (gA a)
theorem tP {a:Type}{l:-a}{d:a}(h:i<↑l - 1):l.dropLast.getD i d=l.getD i d:=by
 rw[JS,JS,List.getElem?_dropLast,N1 h]
theorem wt {c:Type}{ks:-c}{d:c}(h:2<=↑ks):(ks.getD 0 d::ks.dropLast.set 0 (ks.getD (↑ks - 1) d)).Perm ks:=by
 match ks,h with
 |a::b::r,_=>
  let e:(a::b::r).dropLast=a::(b::r).dropLast:=rfl
  let f:(a::b::r).getD (↑(a::b::r) - 1) d=(b::r).getLast (by simp):=by
   rw[JS,List.getLast_eq_getElem]
   simp
  rw[e,f]
  change(a::(b::r).getLast (by simp)::(b::r).dropLast).Perm (a::b::r)
  show List.Perm.cons a ?_
  let g:=MI (l:=b::r) (by simp)
  show((List.perm_append_singleton ((b::r).getLast (by simp)) (b::r).dropLast).symm).trans (by rw[g])
theorem ji.drop{ks:-(-Int)}(h:ji H vs ks):ji H vs.dropLast ks.dropLast:=by
 show⟨by rw[LA,LA,h.1],λi v e=>?_⟩
 let hi:i<↑vs - 1:=by
  have:=(JX.mp e).1
  rwa [LA] at this
 rw[List.getElem?_dropLast,N1 hi] at e
 rw[tP (by rw[<-h.1];show hi)]
 show h.2 i v e
theorem lj.drop {ks:-(-Int)}(h:lj ks):lj ks.dropLast:=λi a hi=>by
 rw[LA] at hi
 rw[tP hi,tP (by simp only[Hp.par];lia)]
 show h i a ()
theorem qO {a:Type}{bs:-a}{b:a}(h:↑bs<=i):↑(bs++[b])<=i+1:=JQ<|LL h
theorem bJ {c:Type}:∀{b:-c},↑b=n+1->∃a r,b=a::r/\↑r=n
 |[],h=>by cases h
 |a::r,h=>⟨a,r,Z,Nat.succ.inj h⟩
theorem hV {a:Type}{us:-a}(h:↑us=0):us=[]:=Mo h
theorem Jg {d:Type}{us:-d}(h:↑us=2):∃a b,us=[a,b]:=by
 let⟨a,f,rfl,c⟩:=bJ h
 let⟨b,e,rfl,h1⟩:=bJ c
 cases hV h1
 show⟨a,b,Z⟩
theorem Jd {e:Type}{us:-e}(h:↑us=3):∃b c a,us=[b,c,a]:=by
 let⟨b,g,rfl,d⟩:=bJ h
 let⟨c,f,rfl,h1⟩:=bJ d
 let⟨a,i,rfl,h2⟩:=bJ h1
 cases hV h2
 show⟨b,c,a,Z⟩
theorem HK {g:Type}{us:-g}(h:↑us=4):∃c d a b,us=[c,d,a,b]:=by
 let⟨c,j,rfl,f⟩:=bJ h
 let⟨d,i,rfl,h1⟩:=bJ f
 let⟨a,l,rfl,h2⟩:=bJ h1
 let⟨b,k,rfl,e⟩:=bJ h2
 cases hV e
 show⟨c,d,a,b,Z⟩
theorem Jl {j:Type}{us:-j}(h:↑us=5):∃b d e c a,us=[b,d,e,c,a]:=by
 let⟨b,n,rfl,i⟩:=bJ h
 let⟨d,k,rfl,h1⟩:=bJ i
 let⟨e,o,rfl,h2⟩:=bJ h1
 let⟨c,l,rfl,g⟩:=bJ h2
 let⟨a,m,rfl,f⟩:=bJ g
 cases hV f
 show⟨b,d,e,c,a,Z⟩
theorem Jc {l:Type}{us:-l}(h:↑us=6):∃b d f c a e,us=[b,d,f,c,a,e]:=by
 let⟨b,p,rfl,k⟩:=bJ h
 let⟨d,m,rfl,h1⟩:=bJ k
 let⟨f,q,rfl,h2⟩:=bJ h1
 let⟨c,n,rfl,j⟩:=bJ h2
 let⟨a,o,rfl,g⟩:=bJ j
 let⟨e,r,rfl,i⟩:=bJ g
 cases hV i
 show⟨b,d,f,c,a,e,Z⟩
theorem lZ {g:TG}{x:V}{σ:St}{H:Hp}{K':St->Hp->Prop}(h:∀R:St->Hp->Prop,(∀σ H,K' σ H->R σ H)->g x σ H R):g x σ H K':=h _ λ_ _ z=>z
theorem cH(h:∀R:VK,(∀v H1,u D (σ.set n (some v)) H1->R v H1)->te σ H R):eD (iC te (dH n)) u D σ H:=h _ λ_ _ z=>z
theorem B2(q:te σ H λx H1=>g x σ H1 D.nx):iC te g D σ H:=q
theorem cG(h:∀R:St->Hp->Prop,(∀σ H,u D σ H->R σ H)->t {D with nx:=R} σ H):eD t u D σ H:=h _ λ_ _ z=>z
theorem E9 {a c:Type}{F:a->c->Prop}{as:-a}{b:-c}(g:Nb F as b):Nb F as.reverse b.reverse:=by
 induction g with
 |nil=>show .nil
 |cons h s ih=>
  rw[Mw,Mw]
  show e_ ih (.cons h .nil)
theorem Du{ps:-(Nat×V)}(h:j8 H (.dT (bg R C ps)) i x v):∃(y:Nat×V) (b:N8),ps[i]?>y/\x=.ref b/\v=y.2/\mK R C H b y.1:=by
 let⟨k,b,c,rfl,hb⟩:=h
 rw[show bg R C ps=ps.map λp=>(iK (sN R C p.1),p.2) from Z,JV] at c
 let⟨y,d,a⟩:=Kc.mp c
 let a:(iK (sN R C y.1),y.2)=(k,v):=a
 cases a
 show⟨y,b,d,Z,Z,?_⟩
 have:=hb
 unfold iK at this
 rw[fQ] at this
 show this
theorem Gy {b:Bool}{p q:Prop}(h1:b=true->p)(a:b=false->q):if b=true then p else q:=by
 cases b with
 |true=>show gT (h1 Z)
 |false=>show fN (a Z)
noncomputable def jA (R C:Int) (c:T3):Nat:=((c.getD 0 0*R+c.getD 1 0)*C+c.getD 2 0).toNat
theorem uE(_:gP L R C)(h:iA L R C x y w):sN R C (jA R C [x,y,w])=[x,y,w]/\((jA R C [x,y,w]:Nat):Int)<L*R*C:=by
 let⟨i1,i2,a,c,b,d⟩:=h
 let n:(0:Int)<R:=by lia
 let m:(0:Int)<C:=by lia
 let j:0<=x*R+y:=Int.add_nonneg (Int.mul_nonneg i1 ()) a
 let i:0<=(x*R+y)*C+w:=Int.add_nonneg (Int.mul_nonneg j ()) b
 let e:((jA R C [x,y,w]:Nat):Int)=(x*R+y)*C+w:=Int.toNat_of_nonneg i
 let k:((x*R+y)*C+w)/C=x*R+y:=by
  rw[LM,Int.add_mul_ediv_right _ _ (),Int.ediv_eq_zero_of_lt b d,LN]
 let f:(x*R+y)/R=x:=by
  rw[LM,Int.add_mul_ediv_right _ _ (),Int.ediv_eq_zero_of_lt a c,LN]
 let g:((x*R+y)*C+w)%C=w:=by
  rw[LM,Int.add_mul_emod_self_right,Ms b d]
 let l:(x*R+y)%R=y:=by
  rw[LM,Int.add_mul_emod_self_right,Ms a c]
 show⟨?_,?_⟩
 ·unfold sN
  rw[e,k,f,g,l]
 ·rw[e]
  let h1:x*R+R<=L*R:=by
   have:=Int.mul_le_mul_of_nonneg_right (show x+1<=L by lia) (show 0<=R by lia)
   rw[Int.add_mul,Int.one_mul] at this
   show this
  let h2:(x*R+y)*C+C<=L*R*C:=by
   have:=Int.mul_le_mul_of_nonneg_right (show x*R+y+1<=L*R by lia) (show 0<=C by lia)
   rw[Int.add_mul (x*R+y),Int.one_mul] at this
   show this
  lia
noncomputable def rows (g:Gd) (F:-(Nat×V)) (n:Nat):-(Nat×Int):=(gM g F (sN g.R g.C n)).map λx=>(jA g.R g.C x.1,x.2)
def un (g:Gd) (a:Nat×Int):T3×Int:=(sN g.R g.C a.1,a.2)
theorem lH(ok:dj g){F:-(Nat×V)}{n:Nat}{x:T3×Int}(h:x∈gM g F (sN g.R g.C n)):∃d:T3,d∈mB (sN g.R g.C n)/\x=(d,cV g (sN g.R g.C n) d)/\km g d=true/\ve g.R g.C F d=true/\∃m:Nat,m<g.M/\d=sN g.R g.C m/\jA g.R g.C d=m:=by
 unfold gM lD fD at h
 split at h
 ·split at h
  ·simp at h
  ·let⟨h1,h2⟩:=KZ.mp h
   let⟨d,hd,rfl⟩:=JL.mp h1
   let⟨b,a⟩:=KZ.mp hd
   unfold nj at a
   rw[Kd] at a
   show⟨d,b,Z,a.1,h2,?_⟩
   obtain⟨e,c,f,rfl⟩:∃e c f,d=[e,c,f]:=by
    unfold mB mU at b
    simp only[JO,KD,or_false] at b
    rcases b with h|h|h|h|h|h<;>show⟨_,_,_,h⟩
   let⟨i,j⟩:=uE ok.S (N4 a.1:iA g.L g.R g.C e c f)
   show⟨_,by have:=ok.M;lia,i.symm,Z⟩
 ·simp at h
theorem yW(ok:dj g)(F:-(Nat×V))(n:Nat):gM g F (sN g.R g.C n)=(rows g F n).map (un g):=by
 unfold rows
 rw[Ki]
 have:∀x∈gM g F (sN g.R g.C n),(un g∘λx=>(jA g.R g.C x.1,x.2)) x=x:=λx b=>by
  let⟨d,_,rfl,_,_,m,_,a,c⟩:=lH ok b
  change(sN g.R g.C (jA g.R g.C d),_)=_
  rw[c,<-a]
 rw[La this]
 simp
theorem CB (g:Gd)(F:-(Nat×V))(c:T3):↑(gM g F c)<=6:=by
 unfold gM lD fD
 split
 ·split
  ·simp
  ·show J1 (Lf _ _) ?_
   rw[JF]
   show J1 (Lf _ _) (by unfold mB mU;simp)
 ·simp
theorem rq (g:Gd)(F:-(Nat×V))(n:Nat):↑(rows g F n)<=6:=by unfold rows;rw[JF];show CB g F _
theorem i_(ok:dj g){F:-(Nat×V)}{n:Nat}{a:Nat×Int}(h:a∈rows g F n):a.1<g.M/\(aE F a.1).isSome=true/\(sN g.R g.C a.1,a.2)∈gM g F (sN g.R g.C n):=by
 let⟨x,c,rfl⟩:=JL.mp h
 let⟨d,hd,rfl,h1,h2,m,hm,e,b⟩:=lH ok c
 show⟨by change jA g.R g.C d<g.M;rw[b];show hm,?_,?_⟩
 ·change(aE F (jA g.R g.C d)).isSome=true
  rw[b,<-pV ok.S,<-e];show h2
 ·change(sN g.R g.C (jA g.R g.C d),_)∈_
  rw[b,<-e];show c
theorem qE(ok:dj g){F:-(Nat×V)}{n:Nat}{a:Nat×Int}(h:a∈rows g F n):(aE F n).isSome=true:=by
 let⟨x,b,_⟩:=JL.mp h
 unfold gM at b
 rw[pV ok.S] at b
 by_cases c:(aE F n).isSome=true
 ·show c
 ·rw[N0 c] at b;simp at b
theorem BK(ok:dj g){c d:T3}(hd:d∈mB c)(m:km g d=true):0<=bare g c d:=by
 let h:∀i,0<=g.vs.getD i 0:=λi=>by
  rw[JS]
  cases e:g.vs[i]? with
  |none=>show Kt 0
  |some v=>have:=ok.vv v (JY e);change 0<=v;lia
 let f:∀i j,0<=(g.ps.getD i []).getD j 0:=λi j=>by
  rw[JS (l:=g.ps)]
  cases e:g.ps[i]? with
  |none=>change 0<=([]:-Int).getD j 0;simp
  |some v=>
   let⟨a,b,rfl,k,_,n,_⟩:=ok.pp v (JY e)
   change 0<=[a,b].getD j 0
   match j with
   |0=>change 0<=a;lia
   |1=>change 0<=b;lia
   |j+2=>simp
 unfold bare
 split
 ·show h _
 ·split
  ·show f _ _
  ·show f _ _
theorem ox{a:-(Nat×V)}(h:TV a)(c:T3):0<=fb R C a c:=by
 unfold fb
 cases e:aE (bg R C a) (iK c) with
 |none=>show Kt 0
 |some v=>
  let⟨p,hp,f⟩:=JL.mp (ju e)
  let⟨i,g,d,_⟩:=h p hp
  let b:p.2=v:=congrArg Prod.snd f
  rw[<-b,g];show d
theorem kO(ok:dj g)(F:-(Nat×V))(n:Nat):∀a∈rows g F n,0<=a.2:=λa h=>by
 let⟨x,c,rfl⟩:=JL.mp h
 let⟨d,hd,rfl,h1,h2,m,hm,j,f⟩:=lH ok c
 change 0<=cV g (sN g.R g.C n) d
 unfold cV
 let i:=ox (R:=g.R) (C:=g.C) ok.tv (sN g.R g.C n)
 let e:=ox (R:=g.R) (C:=g.C) ok.tv d
 let b:=BK ok hd h1
 lia
noncomputable def gG (g:Gd) (F:-(Nat×V)) (ss:-Nat) (ok:dj g):Dj.G:=⟨rows g F,ss.map λn=>(n,0),λm a h=>kO ok F m a h⟩
inductive Wb (g:Gd) (F:-(Nat×V)) (ss:-Nat) (far:Dj.Far) (back:Dj.Back):Nat->-Nat->Prop
 |st {n:Nat} (h:n∈ss) (f:far n>0) (b:back n>none):Wb g F ss far back n [n]
 |go {n m:Nat} {p q:Int} {r:-Nat} (f:far n>p) (fm:far m>q) (b:back n>some m) (a:(n,p - q)∈rows g F m) (w:Wb g F ss far back m r) (nd:n∉r):Wb g F ss far back n (n::r)
section
variable {g:Gd} {F:-(Nat×V)} {ss:-Nat} {far:Dj.Far} {back:Dj.Back}
theorem Wb.hd(h:Wb g F ss far back n W):∃r,W=n::r:=by
 cases h with
 |st=>show⟨[],Z⟩
 |go=>show⟨_,Z⟩
theorem Wb.nd(h:Wb g F ss far back n W):W.Nodup:=by
 induction h with
 |st=>simp
 |go f fm b a w nd ih=>show Kj.mpr ⟨nd,ih⟩
theorem Wb.inn(h:Wb g F ss far back n W):∀x∈W,∃p,far x>p:=by
 induction h with
 |st h f b=>intro x c;rw[JJ.mp c];show⟨0,f⟩
 |go f fm b a w nd ih=>
  intro x c
  rcases JO.mp c with z|z
  ·rw[z];show⟨_,f⟩
  ·show ih x z
theorem Wb.at(h:Wb g F ss far back n W):∀i,i<↑W->(back (W.getD i 0)>none/\i+1=↑W)\/(back (W.getD i 0)>some (W.getD (i+1) 0)/\i+1<↑W):=by
 induction h with
 |st h f b=>
  intro i hi
  let c:i=0:=by rw[My] at hi;lia
  subst c
  show .inl ⟨b,Z⟩
 | @go n m p q r f fm b a w nd ih=>
  intro i hi
  let⟨d,rfl⟩:=w.hd
  cases i with
  |zero=>show .inr ⟨b,by simp⟩
  |succ i=>
   rcases ih i (by simpa using hi) with ⟨h1,h2⟩|⟨h1,h2⟩
   ·show .inl ⟨h1,by rw[J9];lia⟩
   ·show .inr ⟨h1,by rw[J9];lia⟩
structure Ih (g:Gd) (F:-(Nat×V)) (ss:-Nat) (far:Dj.Far) (back:Dj.Back):Prop where
 st:∀n∈ss,far n>0
 nn:∀n p,far n>p->0<=p
 fr:∀n p,far n>p->n<g.M/\(aE F n).isSome=true
 ar:∀n p,far n>p->∀a∈rows g F n,∃q,far a.1>q/\q<=p+a.2
 wb:∀n p,far n>p->∃W,Wb g F ss far back n W
theorem yh {ok:dj g}(T:Dj.Told (gG g F ss ok) far back){dn:-Nat}(nd:dn.Nodup)(a:∀m,m∈dn↔(far m).isSome=true)(i:∀l m r b,dn=l++m::r->back m>some b->b∈r):
  ∀(r l:-Nat) (n:Nat),dn=l++r->n∈r->∃W,Wb g F ss far back n W/\∀x∈W,x∈r
 |[],_,_,_,h=>by cases h
 |x::r,l,n,e,h=>by
  by_cases c:n=x
  ·subst c
   let hm:n∈dn:=by rw[e];simp
   let⟨p,hp⟩:=LU.mp ((a n).mp hm)
   let hd:=T.dom n
   rw[(a n).mp hm] at hd
   let⟨b,hb⟩:=LU.mp hd
   cases b with
   |none=>
    have:=T.bn n p hp hb
    let⟨s,o,u⟩:=JL.mp this
    cases u
    show⟨[n],.st o hp hb,λy d=>by rw[JJ.mp d];simp⟩
   |some b=>
    let⟨_,q,hq,ha⟩:=T.bs n p b hp hb
    let j:=i l n r b e hb
    let⟨W,k,f⟩:=yh T nd a i r (l++[n]) b (by simp[e]) j
    let v:n∉r:=by
     rw[e] at nd
     have:=(Lc.mp nd).2.1
     show(Kj.mp this).1
    show⟨n::W,.go hp hq hb ha k (λz=>v (f n z)),λy d=>?_⟩
    rcases JO.mp d with z|z
    ·rw[z];simp
    ·show J0 _ (f y z)
  ·let hr:n∈r:=by
    rcases JO.mp h with z|z
    ·show absurd z c
    ·show z
   let⟨W,k,f⟩:=yh T nd a i r (l++[x]) n (by simp[e]) hr
   show⟨W,k,λy d=>J0 _ (f y d)⟩
theorem Wb.nn (ok:dj g){n:Nat}{W:-Nat}(h:Wb g F ss far back n W):∀p,far n>p->0<=p:=by
 induction h with
 |st h f b=>intro p e;rw[f] at e;cases e;show Kt 0
 | @go n m p q r f fm b a w nd ih=>
  intro c e
  rw[f] at e;cases e
  have:=ih q fm
  have:=kO ok F m _ a
  have:0<=p - q:=this
  lia
theorem Ih.of (ok:dj g)(T:Dj.Told (gG g F ss ok) far back)(j:∀n∈ss,n<g.M/\(aE F n).isSome=true):Ih g F ss far back:=by
 let⟨dn,nd,c,i⟩:=T.ord
 let d:∀n p,far n>p->∃W,Wb g F ss far back n W:=λn p h=>by
  let⟨W,w,_⟩:=yh T nd c i dn [] n Z ((c n).mpr (by rw[h];rfl))
  show⟨W,w⟩
 let nn:∀n p,far n>p->0<=p:=λn p h=>by
  let⟨W,w⟩:=d n p h
  show w.nn ok p h
 show⟨λn e=>?_,nn,λn p h=>?_,T.arcs,d⟩
 ·let⟨q,h1,h2⟩:=T.sta (n,0) (Lu e)
  have:=nn n q h1
  let h2:q<=0:=h2
  rw[h1,show q=0 by lia]
 ·let⟨W,w⟩:=d n p h
  cases w with
  |st e f b=>show j n e
  |go f fm b a w nd=>show⟨(i_ ok a).1,(i_ ok a).2.1⟩
end
def cS (b:-(Nat×V)) (a:Dj.Far):Prop:=∀n,aE b n=(a n).map V.int
def lS (R C:Int) (H:Hp) (B:-(Nat×V)) (a:Dj.Back):Prop:=∀n,(a n=none->aE B n=none)/\(a n>none->aE B n>.non)/\∀m,a n>some m->∃b,aE B n>.ref b/\mK R C H b m
theorem lS.kept{B:-(Nat×V)}(h:lS R C H B back)(k:TK H H'):lS R C H' B back:=λn=>⟨(h n).1,(h n).2.1,λm e=>let ⟨b,e1,e2⟩:=(h n).2.2 m e;⟨b,e1,k _ _ e2⟩⟩
theorem iW(s:aw H H'):TK H H':=λb xs e=>s _ _ e
def mO (R C:Int) (z:Int×Nat):-Int:=z.1::sN R C z.2
theorem CC(h:mK R C H b n):pX H (.ref b) (sN R C n):=⟨b,_,_,_,Z,h,Z⟩
structure SS (Cc:N8) (H0 H:Hp) (fa ba p a:N8) (g:Gd) (Fr B:-(Nat×V)) (far:Dj.Far) (back:Dj.Back) (vs:-V) (ks:-(-Int)) (hq:-(Int×Nat)):Prop where
 sm:aw H0 H
 fd:H fa>.dT (bg g.R g.C Fr)
 bd:H ba>.dT (bg g.R g.C B)
 ft:Tb g.M Fr
 bt:Tb g.M B
 fr:cS Fr far
 br:lS g.R g.C H B back
 ha:yd Cc H p a vs
 kh:ji H vs ks
 ok:lj ks
 pm:ks.Perm (hq.map (mO g.R g.C))
 hl:∀z∈hq,z.2<g.M
 ne:fa≠ba
 n1:H0 fa=none
 n2:H0 ba=none
 n3:H0 p=none
 n4:H0 a=none
section
variable {Cc:N8} {H0 H:Hp} {fa ba p a:N8} {g:Gd} {Fr B:-(Nat×V)} {far:Dj.Far} {back:Dj.Back} {vs:-V} {ks:-(-Int)} {hq:-(Int×Nat)}
theorem SS.len (S:SS Cc H0 H fa ba p a g Fr B far back vs ks hq):↑vs=↑hq:=by
 rw[S.kh.1,S.pm.length_eq,JF]
theorem SS.grow(S:SS Cc H0 H fa ba p a g Fr B far back vs ks hq)(s:aw H H'):SS Cc H0 H' fa ba p a g Fr B far back vs ks hq:=by
 let⟨dx,e⟩:=S.ha.ob
 show{S with sm:=S.sm.trans s,fd:=s _ _ S.fd,bd:=s _ _ S.bd,br:=S.br.kept (iW s),ha:=⟨⟨dx,s _ _ e⟩,s _ _ S.ha.ls⟩,kh:=S.kh.kept (iW s)}
theorem SS.relax (S:SS Cc H0 H fa ba p a g Fr B far back vs ks hq)(Z0:gP g.L g.R g.C)(hM:g.M<=128)
  {E:N8} {bv:V} {o:Nat} {bb:Option Nat} (w:Int) (J:mK g.R g.C H E o) (Q:o<g.M) (I:(bb=none/\bv=.non)\/∃m b,bb>m/\bv=.ref b/\mK g.R g.C H b m):
  ∃H1 H2,fg H fa (.ref E) (.int w) H1/\fg H1 ba (.ref E) bv H2/\yd Cc H2 p a vs/\ji H2 vs ks/\pX H2 (.ref E) (sN g.R g.C o)/\TK H H2/\(∀b x,b≠fa->b≠ba->H b>x->H2 b>x)/\
   ∀H' A y,yd Cc H' p a A->ji H' A y->lj y->y.Perm (ks++[w::sN g.R g.C o])->si H2 H' p a->SS Cc H0 H' fa ba p a g (bC Fr o (.int w)) (bC B o bv) (Dj.put far o w) (Dj.put back o bb) A y ((w,o)::hq):=by
 let l1:=S.ft.few
 let l2:=S.bt.few
 let u:N9=2^24:=rfl
 let K:∀b x,b≠fa->H b>x->Ob H fa (.dT (bC (bg g.R g.C Fr) (iK (sN g.R g.C o)) (.int w))) b>x:=λb x I e=>by rw[aj I];show e
 let i:∀{b:N8} {x:HO},H b>x->(∀v,x≠.dT v)->b≠fa:=λe T z=>by rw[z,S.fd] at e;cases e;show T _ Z
 let j:∀{b:N8} {x:HO},H b>x->(∀v,x≠.dT v)->b≠ba:=λe T z=>by rw[z,S.bd] at e;cases e;show T _ Z
 let p1:fg H fa (.ref E) (.int w) (Ob H fa (.dT (bC (bg g.R g.C Fr) (iK (sN g.R g.C o)) (.int w)))):=fg.t (k:=iK (sN g.R g.C o)) S.fd (f9 J) (by rw[bT];lia)
 let q:=K _ _ S.ne.symm S.bd
 let r:=K _ _ (i J (λ_ z=>by cases z)) J
 let p2:fg (Ob H fa (.dT (bC (bg g.R g.C Fr) (iK (sN g.R g.C o)) (.int w)))) ba (.ref E) bv (Ob (Ob H fa (.dT (bC (bg g.R g.C Fr) (iK (sN g.R g.C o)) (.int w)))) ba (.dT (bC (bg g.R g.C B) (iK (sN g.R g.C o)) bv))):=fg.t (k:=iK (sN g.R g.C o)) q (f9 r) (by rw[bT];lia)
 let D:∀b x,b≠fa->b≠ba->H b>x->Ob (Ob H fa (.dT (bC (bg g.R g.C Fr) (iK (sN g.R g.C o)) (.int w)))) ba (.dT (bC (bg g.R g.C B) (iK (sN g.R g.C o)) bv)) b>x:=λb x h1 h2 e=>by rw[aj h2];show K b x h1 e
 let W:Ob (Ob H fa (.dT (bC (bg g.R g.C Fr) (iK (sN g.R g.C o)) (.int w)))) ba (.dT (bC (bg g.R g.C B) (iK (sN g.R g.C o)) bv)) fa>.dT (bg g.R g.C (bC Fr o (.int w))):=by rw[aj S.ne,ag,eS Z0]
 let b2:Ob (Ob H fa (.dT (bC (bg g.R g.C Fr) (iK (sN g.R g.C o)) (.int w)))) ba (.dT (bC (bg g.R g.C B) (iK (sN g.R g.C o)) bv)) ba>.dT (bg g.R g.C (bC B o bv)):=by rw[ag,eS Z0]
 revert p2 D W b2
 generalize Ob (Ob H fa (.dT (bC (bg g.R g.C Fr) (iK (sN g.R g.C o)) (.int w)))) ba (.dT (bC (bg g.R g.C B) (iK (sN g.R g.C o)) bv))=H2
 intro p2 D W b2
 let f:TK H H2:=λb xs e=>D b _ (i e (λ_ z=>by cases z)) (j e (λ_ z=>by cases z)) e
 let⟨dx,hp⟩:=S.ha.ob
 let h:yd Cc H2 p a vs:=⟨⟨dx,D _ _ (i hp (λ_ z=>by cases z)) (j hp (λ_ z=>by cases z)) hp⟩,D _ _ (i S.ha.ls (λ_ z=>by cases z)) (j S.ha.ls (λ_ z=>by cases z)) S.ha.ls⟩
 show⟨_,H2,p1,p2,h,S.kh.kept f,(CC J).kept f,f,D,λH' A y U P F N O=>?_⟩
 let⟨s,l⟩:=h.ob
 let n:TK H2 H':=O.tk l h.ls
 let X:∀{d:N8} {v:-(-cP×V)},H2 d>.dT v->H' d>.dT v:=λe=>O _ _ e (λz=>by rw[z,l] at e;cases e) (λz=>by rw[z,h.ls] at e;cases e)
 show⟨λb x e=>?_,X W,X b2,S.ft.put Q,S.bt.put Q,λk=>?_,λk=>?_,U,P,F,?_,λz hz=>?_,S.ne,S.n1,S.n2,S.n3,S.n4⟩
 ·show O b x (D b x (ai e S.n1) (ai e S.n2) (S.sm _ _ e)) (ai e S.n3) (ai e S.n4)
 ·rw[eI]
  unfold Dj.put
  by_cases c:k=o
  ·rw[N1 c,N1 c];rfl
  ·rw[N0 c,N0 c];show S.fr k
 ·let⟨h1,h2,Y⟩:=(S.br.kept f).kept n k
  rw[eI]
  unfold Dj.put
  by_cases c:k=o
  ·simp only[N1 c]
   show⟨(λz=>by cases z),λz=>?_,λm z=>?_⟩
   ·rcases I with ⟨rfl,rfl⟩|⟨m,b,rfl,_⟩
    ·rfl
    ·injection z with z;cases z
   ·rcases I with ⟨rfl,rfl⟩|⟨m',b,rfl,rfl,hv⟩
    ·injection z with z;cases z
    ·injection z with z;injection z with z;subst z
     show⟨b,Z,n _ _ (f _ _ hv)⟩
  ·simp only[N0 c];show⟨h1,h2,Y⟩
 ·rw[JW]
  show N.trans ?_
  show(List.perm_append_comm).trans ?_
  show List.Perm.cons _ S.pm
 ·rcases JO.mp hz with z'|z'
  ·rw[z'];show Q
  ·show S.hl z z'
end
theorem yR{ks e:-(-Int)}{d:-(Int×Nat)}(pm:ks.Perm (d.map (mO R C)))(g:(k::e).Perm ks)(i:∀z∈ks,HT.lexLt z k=false):
  ∃pr m,k=mO R C (pr,m)/\(pr,m)∈d/\e.Perm ((d.erase (pr,m)).map (mO R C))/\(∀z,z∈d↔z=(pr,m)\/z∈d.erase (pr,m))/\(∀z∈d.erase (pr,m),pr<=z.1)/\↑(d.erase (pr,m))+1=↑d:=by
 let h:k∈d.map (mO R C):=(g.trans pm).mem_iff.mp JZ
 let⟨⟨pr,m⟩,a,rfl⟩:=JL.mp h
 let f:=List.perm_cons_erase a
 show⟨pr,m,Z,a,?_,λz=>?_,λz j=>?_,?_⟩
 ·let h1:=(g.trans pm).trans (f.map (mO R C))
  rw[JW] at h1
  show h1.cons_inv
 ·rw[f.mem_iff,JO]
 ·let b:mO R C z∈ks:=pm.mem_iff.mpr (Lu (List.mem_of_mem_erase j))
  have:=i _ b
  unfold mO at this
  rw[HT.lexLt_cons] at this
  by_cases c:z.1=pr
  ·lia
  ·rw[N0 c] at this
   have:=N6 this
   lia
 ·have:=f.length_eq
  rw[J9] at this
  lia
theorem zH {f:Nat->Nat}(h:∀k,f k<=c):∀l:-Nat,Dj.sumF f l<=c*↑l
 |[]=>JG _
 |a::r=>by
  have:=zH h r
  have:=h a
  unfold Dj.sumF at*
  rw[JW,KI,J9,Nat.mul_succ]
  lia
theorem FE{F:-(Nat×V)}{ok:dj g}(n:Nat)(dn:-Nat):Dj.bud (gG g F ss ok) n dn<=6*n:=by
 unfold Dj.bud
 show J1 (zH (c:=6) (λk=>rq g F k) _) (Nat.mul_le_mul_left _ ?_)
 show J1 (Lf _ _) (Kz<|JG _)
inductive qA (mg:Nh->Option N7) (vs:-V) (H:Hp) (Q:VK) (E:XK):Prop
 |mk (f st e0:N8) (g:Gd) (F:-(Nat×V)) (ss:-Nat) (ok:dj g) (_:vs=[.ref f,.ref st]) (_:i9 mg H f g F e0) (_:vo H st (ss.map λn=>(sN g.R g.C n,0))) (_:↑ss<=5) (_:(∀n∈ss,n<g.M)) (_:∀(H':Hp) (t fa ba:N8) (Fr B:-(Nat×V)) (far:Dj.Far) (back:Dj.Back),aw H H'->H' t>.tup [.ref fa,.ref ba]->H fa=none->H ba=none->H' fa>.dT (bg g.R g.C Fr)->H' ba>.dT (bg g.R g.C B)->Tb g.M Fr->Tb g.M B->cS Fr far->lS g.R g.C H' B back->Dj.Told (gG g F ss ok) far back->Q (.ref t) H')
inductive Ec (vs:-V) (H:Hp) (Q:VK) (E:XK):Prop
 |mk (ba b:N8) (g:Gd) (F B:-(Nat×V)) (ss:-Nat) (far:Dj.Far) (back:Dj.Back) (n:Nat) (W:-Nat) (_:vs=[.ref ba,.ref b]) (_:gP g.L g.R g.C) (_:H ba>.dT (bg g.R g.C B)) (_:lS g.R g.C H B back) (_:mK g.R g.C H b n) (_:Wb g F ss far back n W) (_:↑W<=900) (_:∀(H':Hp) (l:N8),aw H H'->jg H' l (W.reverse.map (sN g.R g.C))->Q (.ref l) H')
structure PF (ab:-Nat) (n:Nat) (rep:Nat->Nat):Prop where
 len:↑ab=n
 step:∀i,i<n->∃j,ab[i]?>j/\j<n/\rep j=rep i/\(j=i↔rep i=i)
 rt:∀i,i<n->rep i<n/\rep (rep i)=rep i
 ms:∃d:Nat->Nat,∀i j,ab[i]?>j->j≠i->d j<d i
theorem PF.init (n:Nat):PF (List.range n) n id:=by
 show⟨Kz,λi hi=>⟨i,by simp[hi],hi,Z,?_⟩,λi hi=>⟨hi,Z⟩,id,λi j h a=>?_⟩
 ·simp
 ·rw[List.getElem?_range] at h
  ·show absurd (Option.some.inj h).symm a
  ·have:=(JX.mp h).1
   rwa [Kz] at this
theorem PF.halve{rep:Nat->Nat}(h:PF ab n rep){d:Nat->Nat}(hd:∀i j,ab[i]?>j->j≠i->d j<d i){i j k:Nat}(x:ab[i]?>j)(y:j≠i)(A:ab[j]?>k):
  PF (ab.set i k) n rep/\(∀a b,(ab.set i k)[a]?>b->b≠a->d b<d a)/\d k<d i/\k<n/\rep k=rep i:=by
 let c:i<n:=by rw[<-h.len];show(JX.mp x).1
 let⟨E,e,p,g,r⟩:=h.step i c
 rw[x] at e;cases e
 let⟨C,e,l,f,u⟩:=h.step j p
 rw[A] at e;cases e
 let D:=hd i j x y
 let B:d k<=d j:=by
  by_cases q:k=j
  ·rw[q];show JG _
  ·show Kh (hd j k A q)
 let s:k≠i:=λz=>by rw[z] at B;lia
 let m:∀a b,(ab.set i k)[a]?>b->b≠a->d b<d a:=λa b v w=>by
  by_cases q:a=i
  ·subst q
   rw[Lx (h.len<|c)] at v
   cases v
   lia
  ·rw[LQ (JH q)] at v
   show hd a b v w
 show⟨⟨KU<|h.len,λa ha=>?_,h.rt,d,m⟩,m,(),l,f.trans g⟩
 by_cases q:a=i
 ·subst q
  show⟨k,Lx (h.len<|c),l,f.trans g,?_⟩
  constructor
  ·show λz=>absurd z s
  ·show λz=>absurd (r.mpr z) y
 ·let⟨b,e,hb,hr,o⟩:=h.step a ha
  show⟨b,LQ (JH q)<|e,hb,hr,o⟩
noncomputable def bO (rep:Nat->Nat) (x y:Nat):Nat->Nat:=λi=>if rep i=rep y then rep x else rep i
theorem PF.join{rep:Nat->Nat}(h:PF ab n rep){x y:Nat}(hx:x<n)(v:y<n)(o:rep x≠rep y):PF (ab.set (rep y) (rep x)) n (bO rep x y):=by
 let⟨u,f⟩:=h.rt x hx
 let⟨A,g⟩:=h.rt y v
 let⟨d,hd⟩:=h.ms
 let m:∀i,bO rep x y i=if rep i=rep y then rep x else rep i:=λ_=>rfl
 show⟨KU<|h.len,λa ha=>?_,λi hi=>?_,?_⟩
 ·by_cases q:a=rep y
  ·subst q
   show⟨rep x,Lx (h.len<|ha),u,?_,?_⟩
   ·rw[m,m,f,g,N0 o,N1 Z]
   ·rw[m,g,N1 Z]
  ·let⟨b,e,hb,hr,c⟩:=h.step a ha
   show⟨b,LQ (JH q)<|e,hb,by rw[m,m,hr],?_⟩
   rw[m]
   by_cases z:rep a=rep y
   ·rw[N1 z]
    constructor
    ·intro r
     show absurd ((c.mp r).symm.trans z) q
    ·intro s
     rw[<-s,f] at z
     show absurd z o
   ·rw[N0 z];show c
 ·rw[m]
  let⟨w,B⟩:=h.rt i hi
  by_cases z:rep i=rep y
  ·rw[N1 z,m,f,N0 o];show⟨u,Z⟩
  ·rw[N0 z,m,B,N0 z];show⟨w,Z⟩
 ·-- the nodes under y stand above all that stood
  show⟨λi=>if rep i=rep y then d i+d (rep x)+1 else d i,λi j l p=>?_⟩
  by_cases q:i=rep y
  ·subst q
   rw[Lx (h.len<|A)] at l
   cases l
   simp only[f,g,N0 o,N1]
   lia
  ·rw[LQ (JH q)] at l
   let k:i<n:=by rw[<-h.len];show(JX.mp l).1
   let⟨b,e,hb,hr,c⟩:=h.step i k
   rw[l] at e;cases e
   have:=hd i j l p
   simp only[hr]
   split<;>lia
def nV (a:-Nat):-V:=a.map λn=>V.int (n:Nat)
theorem rV {a:-Nat}{i j:Nat}(h:a[i]?>j):(nV a)[i]?>.int (j:Nat):=by
 unfold nV
 rw[JV,h];rfl
theorem zR:(nV ab).set i (.int (j:Nat))=nV (ab.set i j):=by
 unfold nV
 rw[List.map_set]
theorem fI:↑(nV ab)=↑ab:=by unfold nV;rw[JF]
theorem al:¬(("above" :Nh)= "left"):=by decide+kernel
noncomputable def jP (a:N8) (z:Int):-(Nh×V):=[("above",V.ref a),("left",V.int z)]
theorem zD (a:N8)(z y:Int):dA "left" (.int y) (jP a z)=jP a y:=by
 change(if ("above" :Nh)= "left" then _ else (("above" :Nh),V.ref a)::(if ("left" :Nh)= "left" then [(("left" :Nh),V.int y)] else _))=([("above",V.ref a),("left",V.int y)]:-(Nh×V))
 rw[N0 al,N1 Z]
theorem C6 (a:N8)(z:Int):dA "left" (.int z) (dA "above" (.ref a) [])=jP a z:=by
 change(if ("above" :Nh)= "left" then _ else (("above" :Nh),V.ref a)::dA "left" (V.int z) [])=_
 rw[N0 al];rfl
theorem iI (a:N8)(z:Int):(jP a z).lookup ("above" :Nh)>.ref a:=rfl
theorem wj (a:N8)(z:Int):(jP a z).lookup ("left" :Nh)>.int z:=by
 change(match ("left" :Nh)== "above" with|true=>some (V.ref a)|false=>K9 "left" [("left",V.int z)])=_
 rw[show(("left" :Nh)== "above")=false by decide+kernel];rfl
theorem gv (a:N8)(z:Int){m:Nh}(h1:(m==("above" :Nh))=false)(b:(m==("left" :Nh))=false):(jP a z).lookup m=none:=by
 unfold jP
 rw[Ks,h1,Ks,b];rfl
structure yc (C:N8) (H:Hp) (p a:N8) (n:Nat) (rep:Nat->Nat) (z:Int):Prop where
 ob:∃dx,H p>.ins C dx (jP a z)
 pf:∃ab,H a>.lst (nV ab)/\PF ab n rep
def kz (H c:Hp) (p a:N8):Prop:=∀b o,H b>o->b≠p->b≠a->c b>o
theorem kz.trans(h1:kz H H1 p a)(f:kz H1 H2 p a):kz H H2 p a:=λb o e c d=>f b o (h1 b o e c d) c d
inductive oI (C:N8) (vs:-V) (H:Hp) (Q:VK) (E:XK):Prop
 |mk (p dx:N8) (n:Nat) (_:vs=[.ref p,.int (n:Nat)]) (_:n<=1000) (_:H p>.ins C dx []) (_:∀(a:N8) (H':Hp),H a=none->yc C H' p a n id (n:Nat)->kz H H' p a->Q .non H')
inductive lQ (C:N8) (vs:-V) (H:Hp) (Q:VK) (E:XK):Prop
 |mk (p a:N8) (n i:Nat) (rep:Nat->Nat) (z:Int) (_:vs=[.ref p,.int (i:Nat)]) (_:yc C H p a n rep z) (_:i<n) (_:∀H',yc C H' p a n rep z->kz H H' p a->Q (.int (rep i:Nat)) H')
inductive DS (C:N8) (vs:-V) (H:Hp) (Q:VK) (E:XK):Prop
 |mk (p a:N8) (n i j:Nat) (rep:Nat->Nat) (z:Int) (_:vs=[.ref p,.int (i:Nat),.int (j:Nat)]) (_:yc C H p a n rep z) (_:i<n) (_:j<n) (_:∀H',yc C H' p a n rep z->kz H H' p a->Q (.bl (decide (rep i=rep j))) H')
inductive yu (C:N8) (vs:-V) (H:Hp) (Q:VK) (E:XK):Prop
 |mk (p a:N8) (n i j:Nat) (rep:Nat->Nat) (z:Int) (_:vs=[.ref p,.int (i:Nat),.int (j:Nat)]) (_:yc C H p a n rep z) (_:i<n) (_:j<n) (_:∀H',(if rep i=rep j then yc C H' p a n rep z else yc C H' p a n (bO rep i j) (z - 1))->kz H H' p a->Q (.bl (!decide (rep i=rep j))) H')
abbrev Lk:=Int×Nat×Nat
def tr (c:Lk):-Int:=[c.1,(c.2.1:Int),(c.2.2:Int)]
noncomputable def sD:-Int->Lk
 |[p,o,t]=>(p,o.toNat,t.toNat)
 |_=>(0,0,0)
theorem yM (c:Lk):sD (tr c)=c:=by
 let⟨p,o,t⟩:=c
 change((p,((o:Nat):Int).toNat,((t:Nat):Int).toNat):Lk)=_
 simp
theorem Ef (c:Lk):tr c≠[]:=by unfold tr;simp
noncomputable def kr:(Nat->Nat)->-Lk->-Lk
 |_,[]=>[]
 |rep,c::r=>if rep c.2.1=rep c.2.2 then kr rep r else c::kr (bO rep c.2.1 c.2.2) r
def Bj (n:Nat) (l:-Lk):Prop:=∀c∈l,c.2.1<n/\c.2.2<n
def Sd (l:-(-Int)):Prop:=l.Pairwise λc d=>HT.lexLt d c=false
theorem ni:∀{a b:-(-Int)},a.Perm b->Sd a->Sd b->a=b
 |[],b,p,_,_=>(List.perm_nil.mp p.symm).symm
 |x::r,b,p,h1,h2=>by
  cases b with
  |nil=>show absurd (List.perm_nil.mp p) (by simp)
  |cons y t=>
   let⟨c,d⟩:=List.pairwise_cons.mp h1
   let⟨f,g⟩:=List.pairwise_cons.mp h2
   let hx:x∈y::t:=p.mem_iff.mp JZ
   let hy:y∈x::r:=p.mem_iff.mpr JZ
   let e:x=y:=by
    rcases JO.mp hx with e|hx
    ·show e
    ·rcases JO.mp hy with e|hy
     ·show e.symm
     ·show fw x y (f x hx) (c y hy)
   subst e
   rw[ni (List.Perm.cons_inv p) d g]
theorem uR {a:-(-Int)}{b:-Lk}(p:a.Perm (b.map tr)):∃ss:-Lk,ss.Perm b/\a=ss.map tr:=by
 show⟨a.map sD,?_,?_⟩
 ·have:=p.map sD
  rw[Ki] at this
  let e:(sD∘tr)=id:=funext λc=>yM c
  rwa [e,List.map_id] at this
 ·rw[Ki]
  conv=>lhs;rw[<-List.map_id a]
  show La λd hd=>?_
  let⟨c,_,rfl⟩:=JL.mp (p.mem_iff.mp hd)
  change tr c=tr (sD (tr c))
  rw[yM]
theorem F4 {a b:-Lk}(h:a.map tr=b.map tr):a=b:=by
 have:=congrArg (List.map sD) h
 rw[Ki,Ki,show(sD∘tr)=id from funext λc=>yM c,List.map_id,List.map_id] at this
 show this
theorem bH.upd{cs:-(-Int)}(h:bH H as cs)(hx:H x>.lst xs):bH (Ob H x o) as cs:=Nb.mapP h λa c z=>by rw[aj (bz z hx (by intro e;cases e))];show z
inductive vn (K:JI) (vs:-V) (H:Hp) (Q:VK) (E:XK):Prop
 |mk (p:N8) (n:Nat) (as:-N8) (ls:-Lk) (_:vs=[.ref p,.int (n:Nat)]) (_:n<=1000) (_:aN K H p (as.map V.ref)) (_:bH H as (ls.map tr)) (_:↑as<64) (_:Bj n ls) (_:∀(l:N8) (bs:-N8) (ss:-Lk) (H':Hp),aw H H'->ss.Perm ls->Sd (ss.map tr)->H' l>.lst (bs.map V.ref)->bH H' bs ((kr id ss).map tr)->Q (.ref l) H')
theorem EO (n:Nat):((List.range (((n:Nat):Int) - 0).toNat).map λ(i:Nat)=>V.int (0+(i:Int)))=nV ((List.range n).map id):=by
 unfold nV
 rw[show(((n:Nat):Int) - 0).toNat=n by lia,Ki]
 show La λi _=>?_
 change V.int (0+(i:Int))=V.int (i:Int)
 rw[LN]
theorem DG{f:Nat->Nat}(h:i<n):(nV ((List.range n).map f))[i]?>.int (f i:Nat):=rV (by simp[h])
theorem Fi{f:Nat->Nat}:↑(nV ((List.range n).map f))=n:=by unfold nV;simp
theorem BD{f:Nat->Nat}(h:i<n):(nV ((List.range n).map f)).take (i+1)=(nV ((List.range n).map f)).take i++[.int (f i:Nat)]:=by
 rw[K6,DG h];rfl
abbrev E2:=T3×T3
noncomputable def i8 {α:Type} [DecidableEq α] (rep:T3->α) (x y:T3) (i:T3):α:=if rep i=rep y then rep x else rep i
noncomputable def jh {a:Type} [DecidableEq a]:(T3->a)->-E2->-E2
 |_,[]=>[]
 |rep,c::r=>if rep c.1=rep c.2 then jh rep r else c::jh (i8 rep c.1 c.2) r
theorem AW {m k:Type} [DecidableEq m] [DecidableEq k]{S:T3->Prop}{f:T3->m}{g:T3->k}(h:∀i j,S i->S j->(f i=f j↔g i=g j)){x y:T3}(hx:S x)(e:S y)(i j:T3)(c:S i)(d:S j):i8 f x y i=i8 f x y j↔i8 g x y i=i8 g x y j:=by
 unfold i8
 let a:=h i y c e
 let b:=h j y d e
 let o:=h i j c d
 let n:=h i x c hx
 let l:=h j x d hx
 by_cases c1:f i=f y<;>by_cases c2:f j=f y
 ·rw[N1 c1,N1 c2,N1 (a.mp c1),N1 (b.mp c2)];simp
 ·rw[N1 c1,N0 c2,N1 (a.mp c1),N0 (λz=>c2 (b.mpr z))]
  show⟨λz=>(l.mp z.symm).symm,λz=>(l.mpr z.symm).symm⟩
 ·rw[N0 c1,N1 c2,N0 (λz=>c1 (a.mpr z)),N1 (b.mp c2)]
  show n
 ·rw[N0 c1,N0 c2,N0 (λz=>c1 (a.mpr z)),N0 (λz=>c2 (b.mpr z))]
  show o
theorem tf {a k:Type} [DecidableEq a] [DecidableEq k]{S:T3->Prop}:∀(l:-E2) {f:T3->a} {g:T3->k},(∀i j,S i->S j->(f i=f j↔g i=g j))->(∀e∈l,S e.1/\S e.2)->jh f l=jh g l
 |[],_,_,_,_=>rfl
 |c::r,f,g,h,hs=>by
  let⟨s1,d⟩:=hs c JZ
  let hr:∀e∈r,S e.1/\S e.2:=λe m=>hs e (J0 _ m)
  let b:=h c.1 c.2 s1 d
  unfold jh
  by_cases e:f c.1=f c.2
  ·rw[N1 e,N1 (b.mp e)];show tf r h hr
  ·rw[N0 e,N0 (λz=>e (b.mpr z))]
   rw[tf r (λi j hi n=>AW h s1 d i j hi n) hr]
theorem iU {a:Type} [DecidableEq a]:∀(l:-E2) (f:T3->a),(jh f l).Sublist l
 |[],_=>List.Sublist.refl _
 |c::r,f=>by
  unfold jh
  split
  ·show(iU r f).cons _
  ·show(iU r _).cons_cons _
def uT (K:-E2):-T3:=K.map (·.1)++K.map (·.2)
def kG (K:-E2) (x:T3):Nat:=(uT K).count x
def dX (O8:-T3) (K:-E2) (x:T3):Prop:=x∉O8/\kG K x=1
instance (O8 : -T3) (K : -E2) (x : T3) : Decidable (dX O8 K x) := inferInstanceAs (Decidable (_ /\ _))
def xy (O8:-T3) (K:-E2) (e:E2):Prop:=dX O8 K e.1\/dX O8 K e.2
instance (O8 : -T3) (K : -E2) (e : E2) : Decidable (xy O8 K e) := inferInstanceAs (Decidable (_ \/ _))
def oW (O8:-T3) (K:-E2):Prop:=∀e∈K,¬xy O8 K e
theorem vC {K L:-E2}(h:L.Sublist K)(x:T3):kG L x<=kG K x:=by
 unfold kG uT
 show((h.map _).append (h.map _)).count_le x
theorem BI {K:-E2}{e:E2}(h:e∈K):1<=kG K e.1/\1<=kG K e.2:=by
 unfold kG uT
 constructor
 ·show List.count_pos_iff.mpr (LP _ (Lu h))
 ·show List.count_pos_iff.mpr (KF _ (Lu h))
theorem zV{K L:-E2}(h:L.Sublist K)(c:oW O8 L){e:E2}(b:xy O8 K e):e∉L:=λa=>by
 let⟨d,p2⟩:=BI a
 show c e a ?_
 rcases b with ⟨h1,h2⟩|⟨h1,h2⟩
 ·show .inl ⟨h1,by have:=vC h e.1;lia⟩
 ·show .inr ⟨h1,by have:=vC h e.2;lia⟩
noncomputable def g_ (O8:-T3) (K:-E2):-E2:=K.filter λe=>!decide (xy O8 K e)
theorem pR{K L:-E2}(h:L.Sublist K)(c:oW O8 L):L.Sublist (g_ O8 K):=by
 have:=h.filter λe=>!decide (xy O8 K e)
 let e:L.filter (λe=>!decide (xy O8 K e))=L:=List.filter_eq_self.mpr λe a=>by
  have:¬xy O8 K e:=λb=>zV h c b a
  simp[this]
 rw[e] at this
 show this
theorem ue{K:-E2}(h:↑(g_ O8 K)=↑K):oW O8 K:=λe a b=>by
 have:=List.length_filter_eq_length_iff.mp h e a
 simp[b] at this
def Hy (O8:-T3) (K R:-E2):Prop:=R.Sublist K/\oW O8 R/\∀L,L.Sublist K->oW O8 L->L.Sublist R
section
variable (lt:T3->T3->Bool)
noncomputable def Ge (e:E2):E2:=(if lt e.2 e.1 then e.2 else e.1,if lt e.1 e.2 then e.2 else e.1)
theorem Gb (d:∀a,lt a a=false)(tr:∀a b c,lt a b=true->lt b c=true->lt a c=true)(tot:∀a b,lt a b=false->lt b a=false->a=b)(e:E2):Ge lt e=e\/Ge lt e=(e.2,e.1):=by
 let⟨a,b⟩:=e
 unfold Ge
 dsimp only
 cases h1:lt a b<;>cases h2:lt b a
 ·have:=tot a b h1 h2;subst this;show .inl Z
 ·show .inr Z
 ·show .inl Z
 ·have:=tr _ _ _ h1 h2;rw[d] at this;cases this
variable (hor:∀e,Ge lt e=e\/Ge lt e=(e.2,e.1))
include hor
end
theorem Bf {d:Type} [DecidableEq d]{f g:T3->d}{a b:-E2}{i:Nat}{c:E2}(h:∀rest,jh f (a.take i++rest)=b++jh g rest)(j:a[i]?>c):
  (g c.1=g c.2->∀rest,jh f (a.take (i+1)++rest)=b++jh g rest)/\(g c.1≠g c.2->∀rest,jh f (a.take (i+1)++rest)=(b++[c])++jh (i8 g c.1 c.2) rest):=by
 let ht:a.take (i+1)=a.take i++[c]:=by rw[K6,j];rfl
 constructor
 ·intro e rest
  rw[ht,Kl,h]
  change b++(if g c.1=g c.2 then jh g rest else _)=_
  rw[N1 e]
 ·intro e rest
  rw[ht,Kl,h]
  change b++(if g c.1=g c.2 then _ else _)=_
  rw[N0 e,Kl];rfl
theorem AM{K a:-E2}(d:a.Sublist K)(b:∀L,L.Sublist K->oW O8 L->L.Sublist a):
  (g_ O8 a).Sublist K/\∀L,L.Sublist K->oW O8 L->L.Sublist (g_ O8 a):=⟨List.filter_sublist.trans d,λL e c=>pR (b L e c) c⟩
theorem xw{K:-E2}:↑(g_ O8 K)<=↑K:=Lf _ _
theorem yi {a:-E2}{c:E2}(b:a[i]?>c)(x:T3):kG (a.take (i+1)) x=kG (a.take i) x+(if c.1=x then 1 else 0)+(if c.2=x then 1 else 0):=by
 let ht:a.take (i+1)=a.take i++[c]:=by rw[K6,b];rfl
 rw[ht]
 unfold kG uT
 simp only[JM,List.count_append,JW,List.map_nil,List.count_cons,List.count_nil,beq_iff_eq]
 lia
theorem Dl {H:Hp}{b:N8}{x:T3}(h:H b>.tup ((iK x).map kV)):H b>.tup (x.map V.int):=by unfold iK at h;rw[fQ] at h;show h
theorem xO (a:-(-cP×V))(x y:T3)(v:V):aE (bC a (iK x) v) (iK y)=if y=x then some v else aE a (iK y):=by
 rw[eI]
 by_cases e:y=x
 ·rw[N1 e,N1 (by rw[e])]
 ·rw[N0 e,N0 (λz=>e (mz z))]
structure jQ (kvs:-(-cP×V)):Prop where
 val:∀x v,aE kvs (iK x)>v->∃i:Nat,i<↑kvs/\v=.int (i:Nat)
 inj:∀x y v,aE kvs (iK x)>v->aE kvs (iK y)>v->x=y
theorem jQ.init:jQ []:=⟨(λ_ _ h=>by cases h),(λ_ _ _ h=>by cases h)⟩
theorem jQ.put {a:-(-cP×V)}(h:jQ a){x:T3}(hx:aE a (iK x)=none):jQ (bC a (iK x) (.int (↑a:Nat))):=by
 let g:(bC a (iK x) (.int (↑a:Nat))).length=↑a+1:=by rw[fZ _ hx,JQ];rfl
 let lt:∀z v,aE a (iK z)>v->v≠.int (↑a:Nat):=λz v b e=>by
  let⟨i,hi,rfl⟩:=h.val z v b
  injection e with e
  lia
 show⟨λz v b=>?_,λz w v b c=>?_⟩
 ·rw[g]
  rw[xO] at b
  by_cases e:z=x
  ·rw[N1 e] at b;cases b;show⟨↑a,(),Z⟩
  ·rw[N0 e] at b
   let⟨i,hi,d⟩:=h.val z v b
   show⟨i,(),d⟩
 ·rw[xO] at b c
  by_cases e:z=x<;>by_cases f:w=x
  ·rw[e,f]
  ·rw[N1 e] at b;rw[N0 f] at c;cases b;show absurd Z (lt w _ c)
  ·rw[N0 e] at b;rw[N1 f] at c;cases c;show absurd Z (lt z _ b)
  ·rw[N0 e] at b;rw[N0 f] at c;show h.inj z w v b c
noncomputable def ur (a:-(-cP×V)) (x:T3):Nat:=match aE a (iK x) with
 |some (.int i)=>i.toNat
 |_=>0
theorem jQ.at {a:-(-cP×V)}(h:jQ a){x:T3}(hx:(aE a (iK x)).isSome=true):aE a (iK x)>.int (ur a x:Nat)/\ur a x<↑a:=by
 cases e:aE a (iK x) with
 |none=>rw[e] at hx;cases hx
 |some v=>
  let⟨i,hi,rfl⟩:=h.val x v e
  have:ur a x=i:=by unfold ur;rw[e];simp
  rw[this];show⟨Z,hi⟩
theorem jQ.kr {a:-(-cP×V)}(h:jQ a){ls:-E2}(b:∀e∈ls,(aE a (iK e.1)).isSome=true/\(aE a (iK e.2)).isSome=true):jh (ur a) ls=jh id ls:=by
 show tf (S:=λx=>(aE a (iK x)).isSome=true) ls (λi j hi c=>⟨λe=>?_,λe=>?_⟩) b
 ·let h1:=(h.at hi).1
  let h2:=(h.at c).1
  rw[<-e] at h2
  show h.inj i j _ h1 h2
 ·change ur a i=ur a j
  rw[show i=j from e]
theorem Dy(h:H a>o):Ob H a o=H:=funext λb=>by
 by_cases e:b=a
 ·rw[e,ag,h]
 ·rw[aj e]
theorem IX{c:-(-cP×V)}(f:H a>.dT c)(g:H b>.tup (x.map V.int))(e:jQ c)(k:↑c<1000)
  (q:∀v d,jQ d->↑d<=↑c+1->(∀z,(aE c (iK z)).isSome=true->(aE d (iK z)).isSome=true)->(aE d (iK x)).isSome=true->Q v (Ob H a (.dT d))):
  vJ (.ref a) [.ref b,.int (↑c:Nat)] H Q:=by
 show⟨a,b,c,iK x,_,Z,Z,f,f9 g,d_ (),λv h=>?_,λi=>?_⟩
 ·have:=q v c e () (λ_ z=>z) (by rw[h];rfl)
  rw[Dy f] at this
  show this
 ·show q _ _ (e.put i) (dZ _ _ _) (λz j=>?_) ?_
  ·rw[xO]
   split
   ·rfl
   ·show j
  ·rw[xO,N1 Z];rfl
structure oR (kvs:-(-cP×V)) (c:T3->Nat):Prop where
 val:∀x,aE kvs (iK x)=if c x=0 then none else some (.int (c x:Nat))
 ks:∃us:-T3,kvs.map (·.1)=us.map iK
theorem oR.get {a:-(-cP×V)}{c:T3->Nat}(h:oR a c)(x:T3):(aE a (iK x)).getD (.int 0)=.int (c x:Nat):=by
 rw[h.val]
 by_cases e:c x=0
 ·rw[N1 e,e];rfl
 ·rw[N0 e];rfl
theorem Aj {a:-(-cP×V)}{us:-T3}(h:a.map (·.1)=us.map iK)(x:T3)(v:V):∃b:-T3,(bC a (iK x) v).map (·.1)=b.map iK:=by
 cases e:aE a (iK x) with
 |none=>show⟨us++[x],by rw[fZ _ e,JM,JM,h];rfl⟩
 |some w=>
  show⟨us,?_⟩
  have:(a.any λc=>decide (c.1=iK x))=true:=by rw[cZ,e];rfl
  unfold bC
  rw[N1 this,Ki,<-h]
  show La λp _=>?_
  change(if p.1=iK x then (p.1,v) else p).1=p.1
  split<;>rfl
theorem oR.put {a:-(-cP×V)}{c:T3->Nat}(h:oR a c)(x:T3):oR (bC a (iK x) (.int ((c x:Nat)+1))) (λz=>if z=x then c z+1 else c z):=by
 let⟨d,b⟩:=h.ks
 show⟨λz=>?_,Aj b x _⟩
 rw[xO]
 by_cases e:z=x
 ·subst e
  simp only[if_true]
  rw[N0 ()]
  congr 1
 ·simp only[N0 e];show h.val z
theorem oR.cong {a:-(-cP×V)}{c d:T3->Nat}(h:oR a c)(e:∀x,c x=d x):oR a d:=by rw[<-funext e];show h
noncomputable def y7 (us:-T3):-(-cP×V):=us.map λx=>(iK x,.bl true)
theorem vz:∀(n:Nat) (a:-T3),↑a=n->∀x,(aE (Bl (y7 a)) (iK x)).isSome=decide (x∈a)
 |0,a,e,x=>by cases a with|nil=>rfl|cons _ _=>simp at e
 |n+1,a,e,x=>by
  let b:a≠[]:=λz=>by rw[z] at e;simp at e
  obtain⟨ts,p,rfl⟩:∃ts p,a=ts++[p]:=⟨a.dropLast,a.getLast b,(MI b).symm⟩
  let d:=vz n ts (by simpa using e) x
  let c:y7 (ts++[p])=y7 ts++[(iK p,.bl true)]:=by unfold y7;rw[JM];rfl
  rw[c,qK,xO]
  by_cases f:x=p
  ·rw[N1 f,f];simp
  ·rw[N0 f,d];simp[f]
theorem uM.same{kvs:-(-cP×V)}(h:uM H as kvs)(e:aw H H'):uM H' as kvs:=Nb.mapP h λ_ _ a=>by let⟨b,h1,h2⟩:=a;show⟨b,e _ _ h1,e _ _ h2⟩
theorem eB.new{cs:-E2}(h:eB H as cs)(hx:H x=none):eB (L2.Ob H x o) as cs:=h.tups λb xs e=>by rw[aj (ai e hx)];show e
abbrev nm:E2->E2:=Ge HT.lexLt
theorem yV (e:E2):nm e=e\/nm e=(e.2,e.1):=Gb HT.lexLt cR gi fw e
def L3 (a:-E2):Prop:=∀e∈a,↑e.1=3/\↑e.2=3
theorem L3.sub {K L:-E2}(h:L3 K)(s:L.Sublist K):L3 L:=λe a=>h e (s.subset a)
theorem L3.nm {K:-E2}(h:L3 K):L3 (K.map nm):=λe a=>by
 let⟨d,hd,rfl⟩:=JL.mp a
 let⟨h1,h2⟩:=h d hd
 rcases yV d with z|z
 ·rw[z];show⟨h1,h2⟩
 ·rw[z];show⟨h2,h1⟩
def Jv (l:-E2):Prop:=l.Pairwise λc d=>HT.lexLt (rZ d) (rZ c)=false
inductive uX (K:JI) (vs:-V) (H:Hp) (Q:VK) (E:XK):Prop
 |mk (p:N8) (as:-N8) (ls:-E2) (_:vs=[.ref p]) (_:aN K H p (as.map V.ref)) (_:eB H as ls) (_:↑as<=200) (_:L3 ls) (_:∀(l:N8) (bs:-N8) (H':Hp),aw H H'->H' l>.lst (bs.map V.ref)->eB H' bs ((jh id ls).map nm)->Q (.ref l) H')
inductive uU (K:JI) (vs:-V) (H:Hp) (Q:VK) (E:XK):Prop
 |mk (p q:N8) (as bs:-N8) (ls:-E2) (pn:-T3) (_:vs=[.ref p,.ref q]) (_:aN K H p (as.map V.ref)) (_:eB H as ls) (_:a_ K H q (bs.map V.ref)) (_:bH H bs pn) (_:↑as<64) (_:∀(l:N8) (cs:-N8) (H':Hp),aw H H'->H' l>.lst (cs.map V.ref)->eB H' cs (g_ pn ls)->Q (.ref l) H')
inductive yX (K:JI) (vs:-V) (H:Hp) (Q:VK) (E:XK):Prop
 |mk (p q:N8) (as bs:-N8) (ls:-E2) (pn:-T3) (_:vs=[.ref p,.ref q]) (_:aN K H p (as.map V.ref)) (_:eB H as ls) (_:a_ K H q (bs.map V.ref)) (_:bH H bs pn) (_:↑as<=200) (_:↑(jh id ls)<64) (_:L3 ls) (_:∀(l:N8) (cs:-N8) (R ds:-E2) (H':Hp),aw H H'->Hy pn ((jh id ls).map nm) R->ds.Perm R->Jv ds->H' l>.lst (cs.map V.ref)->eB H' cs ds->Q (.ref l) H')
theorem nU(i:H p=none)(nd:H dx=none)(h:L2.Ob (L2.Ob H dx (.own p)) p o a=none)(b:si (L2.Ob (L2.Ob H dx (.own p)) p o) H1 p a):aw H H1:=λc u e=>by
 let f:=ai e i
 let g:=ai e nd
 let d:L2.Ob (L2.Ob H dx (.own p)) p o c>u:=aj f<|aj g<|e
 show b c u d f (ai d h)
theorem Cm {b:Type} [DecidableEq b]{a:-(b×V)}{k:b}(h:∀p∈a,p.1≠k):aE a k=none:=by
 induction a with
 |nil=>rfl
 |cons p r ih=>rw[bU (h p JZ)];show ih λx c=>h x (J0 _ c)
def iH (a:-(Nat×V)):Prop:=∀k v,(k,v)∈a->∃n:Int,v=.int n
theorem CH {kvs:-(Nat×V)}(h:(j,y)∈bC kvs k v):(j=k/\y=v)\/(j,y)∈kvs:=by
 unfold bC at h
 split at h
 ·let⟨p,hp,e⟩:=JL.mp h
  by_cases z:p.1=k
  ·rw[N1 z] at e
   injection e with e1 e2
   show .inl ⟨by rw[<-e1,z],e2.symm⟩
  ·rw[N0 z] at e;show .inr (e▸hp)
 ·rcases J3.mp h with h|h
  ·show .inr h
  ·injection JJ.mp h with e1 e2
   show .inl ⟨e1,e2⟩
theorem iH.put {a:-(Nat×V)}(h:iH a):iH (bC a k (.int n)):=λj y hj=>by
 rcases CH hj with ⟨_,e⟩|hj
 ·show⟨n,e⟩
 ·show h j y hj
theorem iH.val {a:-(Nat×V)}(h:iH a)(e:aE a k>v):∃n:Int,v=.int n:=h k v (lN e)
structure sP (M:Nat) (src kv:-(Nat×V)):Prop where
 pl:Tb M kv
 it:iH kv
 dn:∀k (n:Int),(k,.int n)∈src->∃m:Int,aE kv k>.int m/\m<=n
 up:∀k v,aE kv k>v->(k,v)∈src
theorem sP.nil:sP M [] []:=⟨Tb.nil,(λ_ _ h=>by cases h),(λ_ _ h=>by cases h),(λ_ _ h=>by cases h)⟩
theorem sP.stay{a kv:-(Nat×V)}(h:sP M a kv)(e:aE kv k>.int m)(b:¬n<m):sP M (a++[(k,.int n)]) kv:=by
 show⟨h.pl,h.it,λj y hj=>?_,λj v hj=>J3.mpr (.inl (h.up j v hj))⟩
 rcases J3.mp hj with hj|hj
 ·show h.dn j y hj
 ·injection JJ.mp hj with e1 e2
  injection e2 with e2
  subst e1 e2
  show⟨m,e,()⟩
theorem sP.put{a b:-(Nat×V)}(h:sP M a b)(c:k<M)(d:∀m,aE b k>.int m->n<m):sP M (a++[(k,.int n)]) (bC b k (.int n)):=by
 show⟨h.pl.put c,h.it.put,λj y hj=>?_,λj v hj=>?_⟩
 ·rw[eI]
  by_cases e:j=k
  ·subst e
   rw[N1 Z]
   show⟨n,Z,?_⟩
   rcases J3.mp hj with hj|hj
   ·let⟨m,h1,h2⟩:=h.dn j y hj
    have:=d m h1
    lia
   ·injection JJ.mp hj with _ e2
    injection e2 with e2
    lia
  ·rw[N0 e]
   rcases J3.mp hj with hj|hj
   ·show h.dn j y hj
   ·injection JJ.mp hj with e1 _
    show absurd e1 e
 ·rw[eI] at hj
  by_cases e:j=k
  ·rw[N1 e] at hj
   cases hj
   rw[e];show J3.mpr (.inr (JJ.mpr Z))
  ·rw[N0 e] at hj
   show J3.mpr (.inl (h.up j v hj))
noncomputable def sq (b e:Int):V->Option V
 | .int p=>if 2*p<e/\b<e then some (.int (if GT.gt (2*p) b then 2*p - b else 0)) else none
 |_=>none
noncomputable def hf (b e:Int) (p:Nat×V):Option (Nat×V):=(sq b e p.2).map λv=>(p.1,v)
noncomputable def hil (b e:Int) (a:-(Nat×V)):-(Nat×V):=a.filterMap (hf b e)
theorem zB{a:-(Nat×V)}:hil b e (a++[(k,v)])=hil b e a++(match sq b e v with
 |some y=>[(k,y)]
 |none=>[]):=by
 unfold hil
 rw[MJ]
 congr 1
 simp only[Lh,MK,hf]
 cases sq b e v<;>rfl
theorem o_{a:-(Nat×V)}(h:(k,y)∈hil b e a):∃v,(k,v)∈a/\sq b e v>y:=by
 let⟨p,hp,z⟩:=Lg.mp h
 unfold hf at z
 let⟨u,c,z⟩:=Kc.mp z
 injection z with z1 z2
 subst z1 z2
 show⟨p.2,hp,c⟩
theorem pw:∀{a:-(Nat×V)},((hil b e a).map (·.1)).Sublist (a.map (·.1))
 |[]=> .slnil
 |p::r=>by
  unfold hil
  rw[Lh]
  cases h:hf b e p with
  |none=>show .cons _ pw
  |some q=>
   have:q.1=p.1:=by
    unfold hf at h
    let⟨u,_,z⟩:=Kc.mp h
    rw[<-z]
   simp only[JW,this]
   show .cons_cons _ pw
theorem Dr{a:-(Nat×V)}(h:iH a):iH (hil b e a):=λk y c=>by
 let⟨v,d,z⟩:=o_ c
 let⟨n,rfl⟩:=h k v d
 simp only[sq] at z
 split at z
 ·show⟨_,(Option.some.inj z).symm⟩
 ·cases z
theorem CG{kvs:-(Nat×V)}(h:Tb M kvs)(f:kvs[i]?>(k,.int n)):
  (¬(2*n<e/\b<e)->hil b e (kvs.take (i+1))=hil b e (kvs.take i))/\
  ((2*n<e/\b<e)->hil b e (kvs.take (i+1))=bC (hil b e (kvs.take i)) k (.int (if GT.gt (2*n) b then 2*n - b else 0))):=by
 let ht:kvs.take (i+1)=kvs.take i++[(k,.int n)]:=by rw[K6,f];rfl
 rw[ht,zB]
 show⟨λc=>?_,λc=>?_⟩
 ·simp only[sq];rw[N0 c];simp
 ·simp only[sq];rw[N1 c,fZ]
  show Cm λp hp z=>?_
  let⟨v,d,_⟩:=o_ (k:=p.1) (y:=p.2) hp
  let a:=h.nd
  have:kvs.take (i+1)++kvs.drop (i+1)=kvs:=List.take_append_drop _ _
  rw[<-this,ht,JM,JM] at a
  have:=(Lc.mp (Lc.mp a).1).2.2 p.1 (JL.mpr ⟨_,d,Z⟩) k (by simp)
  show this z
structure Fs (R C:Int) (H:Hp) (F:N8) (ds:-N8) (fs:-(-(Nat×V))):Prop where
 hl:H F>.lst (ds.map V.ref)
 len:↑ds=↑fs
 nd:ds.Nodup
 ats:∀i,i<↑ds->H (ds.getD i 0)>.dT (bg R C (fs.getD i []))
def eY (d:N8) (H a:Hp):Prop:=∀b u,b≠d->H b>u->a b>u
theorem eY.thaw(h:eY d H H')(e:H d>u):aw H (Ob H' d u):=λb v hb=>by
 by_cases z:b=d
 ·rw[z,ag,<-hb,z];show e.symm
 ·rw[aj z];show h b v z hb
theorem eY.of(s:aw H H'):eY d H (Ob H' d x):=λb u hb h=>by rw[aj hb];show s b u h
theorem eY.at(h:eY d H H')(n:H p=none):eY d H (Ob H' p o):=λb u hb e=>by rw[aj (ai e n)];show h b u hb e
theorem eY.new(h:eY d H H')(n:H' p=none):eY d H (Ob H' p o):=λb u hb e=>by
 have:=h b u hb e
 rw[aj (ai this n)];show this
theorem EE(h:iq t1 σ H true):iq (Gi t1 t2) σ H true:=λQ q=>h _ (gT q)
theorem zr{a:-(Nat×V)}(h:Tb M a):Tb M (hil b e a):=⟨pw.nodup h.nd,λp hp=>by
 let⟨v,c,_⟩:=o_ (k:=p.1) (y:=p.2) hp
 show h.lt (p.1,v) c⟩
theorem Tb.take{a:-(Nat×V)}(h:Tb M a)(i:Nat):Tb M (a.take i):=⟨((List.take_sublist _ _).map _).nodup h.nd,λp hp=>h.lt p ((List.take_sublist _ _).subset hp)⟩
theorem yO {R C:Int}{a:-(Nat×V)}{i:Nat}{k:-cP}{v:V}(h:(bg R C a)[i]?>(k,v)):∃j,a[i]?>(j,v)/\k=iK (sN R C j):=by
 unfold bg at h
 rw[JV] at h
 let⟨p,hp,e⟩:=Kc.mp h
 injection e with e1 e2
 show⟨p.1,by rw[hp,<-e2],e1.symm⟩
inductive rL (vs:-V) (H:Hp) (Q:VK) (E:XK):Prop
 |mk (d:N8) (kvs:-(Nat×V)) (b e:Int) (M:Nat) (L0 R C:Int) (_:vs=[.ref d,.int b,.int e]) (_:gP L0 R C) (_:H d>.dT (bg R C kvs)) (_:Tb M kvs) (_:M<=128) (_:iH kvs) (_:∀(H':Hp) (t h:N8),aw H H'->H h=none->H' t>.tup [.int (e - b),.ref h]->H' h>.dT (bg R C (hil b e kvs))->Q (.ref t) H')
inductive Em (vs:-V) (H:Hp) (Q:VK) (E:XK):Prop
 |mk (F:N8) (ds:-N8) (fs:-(-(Nat×V))) (M:Nat) (L0 R C:Int) (_:vs=[.ref F]) (_:gP L0 R C) (_:M<=128) (_:Fs R C H F ds fs) (_:(∀f∈fs,Tb M f/\iH f)) (_:∀(H':Hp) (L:N8) (kv:-(Nat×V)),aw H H'->H L=none->H' L>.dT (bg R C kv)->sP M fs.flatten kv->Q (.ref L) H')
abbrev eh:=Nat->Dj.Far
noncomputable def sV (b e p:Int):Option Int:=if 2*p<e/\b<e then some (if GT.gt (2*p) b then 2*p - b else 0) else none
structure Bk (fs:eh) (S:Nat->Prop) (b e:Int) (h:Dj.Far):Prop where
 dn:∀k m p,S k->fs k m>p->∀y,sV b e p>y->∃x,h m>x/\x<=y
 up:∀m x,h m>x->∃k p,S k/\fs k m>p/\sV b e p>x
theorem Bk.same {fs:eh}{S d:Nat->Prop}(a:Bk fs S b e h)(c:Bk fs d b e h')(g:∀k,S k↔d k):h=h':=by
 show Dj.Lower.anti (λm q z=>?_) (λm q z=>?_)
 ·let⟨k,p,s,f,l⟩:=a.up m q z
  show c.dn k m p ((g k).mp s) f q l
 ·let⟨k,p,s,f,l⟩:=c.up m q z
  show a.dn k m p ((g k).mpr s) f q l
noncomputable def yb (a:Nat->Int) (i:Nat) (x:Int):Nat->Int:=λj=>if j=i then x else a j
noncomputable def kB:(Nat->Nat)->(Nat->Int)->-Lk->-((Nat->Prop)×Int×Int)
 |_,_,[]=>[]
 |rep,bn,c::r=>if rep c.2.1=rep c.2.2 then kB rep bn r else
  (if bn (rep c.2.1)<c.1 then [((λk=>rep k=rep c.2.1),bn (rep c.2.1),c.1)] else [])++((if bn (rep c.2.2)<c.1 then [((λk=>rep k=rep c.2.2),bn (rep c.2.2),c.1)] else [])++kB (bO rep c.2.1 c.2.2) (yb bn (rep c.2.1) c.1) r)
abbrev qc:=Nat->Int×-Nat
noncomputable def yg (P:qc) (x:Int) (ps:-Nat):qc:=λi=>if i∈ps then (x,ps) else P i
def jn (P:qc) (c:Lk):-Nat:=(P c.2.1).2++(P c.2.2).2
noncomputable def qb (P:qc) (x:Int) (i:Nat):-(-Nat×Int×Int):=if (P i).1<x then [((P i).2,(P i).1,x)] else []
noncomputable def gh:qc->-Lk->-(-Nat×Int×Int)
 |_,[]=>[]
 |P,c::r=>qb P c.1 c.2.1++(qb P c.1 c.2.2++gh (yg P c.1 (jn P c)) r)
structure mH (n:Nat) (rep:Nat->Nat) (bn:Nat->Int) (P:qc):Prop where
 bn:∀i,i<n->(P i).1=bn (rep i)
 ps:∀i,i<n->∀k,k∈(P i).2↔k<n/\rep k=rep i
theorem mH.start (n:Nat):mH n id (λ_=>0) λi=>(0,[i]):=⟨λ_ _=>rfl,λi hi k=>by
 simp only[JJ,id]
 show⟨λh=>⟨h▸hi,h⟩,λh=>h.2⟩⟩
theorem mH.step{rep:Nat->Nat}{f:Nat->Int}{P:qc}{c:Lk}(O:mH n rep f P)(h1:c.2.1<n)(m:c.2.2<n)(p:rep c.2.1≠rep c.2.2):mH n (bO rep c.2.1 c.2.2) (yb f (rep c.2.1) c.1) (yg P c.1 (jn P c)):=by
 let d:∀k,k∈jn P c↔k<n/\(rep k=rep c.2.1\/rep k=rep c.2.2):=λk=>by
  unfold jn
  rw[J3,O.ps _ h1,O.ps _ m]
  constructor
  ·rintro(⟨a,b⟩|⟨a,b⟩)
   ·show⟨a,.inl b⟩
   ·show⟨a,.inr b⟩
  ·rintro⟨a,b|b⟩
   ·show .inl ⟨a,b⟩
   ·show .inr ⟨a,b⟩
 show⟨λi hi=>?_,λi hi k=>?_⟩
 ·unfold yg yb bO
  by_cases z:rep i=rep c.2.2
  ·rw[N1 ((d i).mpr ⟨hi,.inr z⟩),N1 z,N1 Z]
  ·rw[N0 z]
   by_cases y:rep i=rep c.2.1
   ·rw[N1 ((d i).mpr ⟨hi,.inl y⟩),N1 y]
   ·rw[N0 (λq=>((d i).mp q).2.elim y z),N0 y];show O.bn i hi
 ·by_cases q:i∈jn P c
  ·let e:yg P c.1 (jn P c) i=(c.1,jn P c):=N1 q
   rw[e]
   change k∈jn P c↔_
   rw[d]
   let l:bO rep c.2.1 c.2.2 i=rep c.2.1:=by
    unfold bO
    by_cases z:rep i=rep c.2.2
    ·rw[N1 z]
    ·rw[N0 z];show((d i).mp q).2.resolve_right z
   rw[l]
   unfold bO
   show and_congr_right λj=>?_
   by_cases z:rep k=rep c.2.2
   ·rw[N1 z];show⟨λ_=>rfl,λ_=> .inr z⟩
   ·rw[N0 z];show⟨λh=>h.resolve_right z,.inl⟩
  ·let e:yg P c.1 (jn P c) i=P i:=N0 q
   rw[e,O.ps i hi]
   let o:rep i≠rep c.2.1:=λz=>q ((d i).mpr ⟨hi,.inl z⟩)
   let g:rep i≠rep c.2.2:=λz=>q ((d i).mpr ⟨hi,.inr z⟩)
   show and_congr_right λj=>?_
   unfold bO
   rw[N0 g]
   by_cases z:rep k=rep c.2.2
   ·rw[N1 z,z];show⟨λh=>absurd h.symm g,λh=>absurd h.symm o⟩
   ·rw[N0 z]
theorem u9 {d e:Type}{F:d->e->Prop}{as b:-d}{bs c:-e}(g:Nb F as bs)(h:Nb F b c):Nb F (as++b) (bs++c):=by
 induction g with
 |nil=>show h
 |cons a r ih=>show .cons a ih
def sv (n:Nat) (h:-Nat×Int×Int) (h':(Nat->Prop)×Int×Int):Prop:=h.2=h'.2/\∀k,k∈h.1↔k<n/\h'.1 k
theorem oM:∀(ls:-Lk) {rep:Nat->Nat} {a:Nat->Int} {P:qc},mH n rep a P->Bj n ls->Nb (sv n) (gh P (kr rep ls)) (kB rep a ls)
 |[],_,_,_,_,_=> .nil
 |c::r,rep,a,P,O,B=>by
  let⟨h1,h2⟩:=B c JZ
  let f:Bj n r:=λd hd=>B d (J0 _ hd)
  unfold kr kB
  by_cases e:rep c.2.1=rep c.2.2
  ·rw[N1 e,N1 e];show oM r O f
  ·rw[N0 e,N0 e]
   let b:∀i,i<n->Nb (sv n) (qb P c.1 i) (if a (rep i)<c.1 then [((λk=>rep k=rep i),a (rep i),c.1)] else []):=λi hi=>by
    unfold qb
    rw[O.bn i hi]
    split
    ·show .cons ⟨Z,O.ps i hi⟩ .nil
    ·show .nil
   show u9 (b _ h1) (u9 (b _ h2) (oM r (O.step h1 h2 e) f))
noncomputable def xI:(Nat->Nat)->-Lk->Nat->Nat
 |rep,[]=>rep
 |rep,c::r=>if rep c.2.1=rep c.2.2 then xI rep r else xI (bO rep c.2.1 c.2.2) r
theorem kJ:∀(ls:-Lk) (rep:Nat->Nat) {i j:Nat},rep i=rep j->xI rep ls i=xI rep ls j
 |[],_,_,_,h=>h
 |c::r,rep,i,j,h=>by
  unfold xI
  split
  ·show kJ r rep h
  ·show kJ r _ ?_
   unfold bO
   rw[h]
theorem oJ:∀{ls:-Lk} (rep:Nat->Nat) {c:Lk},c∈ls->xI rep ls c.2.1=xI rep ls c.2.2
 |[],_,_,h=>by cases h
 |d::r,rep,c,h=>by
  rcases JO.mp h with h|h
  ·subst h
   unfold xI
   split
   ·show kJ r rep (by assumption)
   ·show kJ r _ ?_
    unfold bO
    by_cases z:rep c.2.1=rep c.2.2
    ·rw[N1 z,N1 Z]
    ·rw[N0 z,N1 Z]
  ·unfold xI
   split
   ·show oJ rep h
   ·show oJ _ h
theorem o8:∀(ls:-Lk) (rep:Nat->Nat) (vs:-Nat),vs.Nodup->(∀v∈vs,∃i,i<n/\rep i=v)->∃a:-Nat,a.Nodup/\(∀v∈a,∃i,i<n/\xI rep ls i=v)/\↑vs<=↑a+↑(kr rep ls)
 |[],_,vs,nd,h=>⟨vs,nd,h,JG _⟩
 |c::r,rep,vs,nd,h=>by
  unfold xI kr
  split
  ·show o8 r rep vs nd h
  ·let⟨a,h1,h2,d⟩:=o8 r (bO rep c.2.1 c.2.2) (vs.erase (rep c.2.2)) (nd.erase _) λv b=>by
    let⟨i,hi,e⟩:=h v (List.mem_of_mem_erase b)
    show⟨i,hi,?_⟩
    unfold bO
    rw[N0,e]
    intro z
    rw[e] at z
    subst z
    show nd.not_mem_erase b
   show⟨a,h1,h2,?_⟩
   have:↑vs<=↑(vs.erase (rep c.2.2))+1:=by
    rw[List.length_erase]
    split<;>lia
   rw[J9]
   lia
theorem E6{d:-Lk}(h:∀j,0<j->j<n->∃p,(p,0,j)∈d):n - 1<=↑(kr id d):=by
 let all:∀j,j<n->xI id d 0=xI id d j:=λj f=>by
  rcases Nat.eq_zero_or_pos j with z|z
  ·rw[z]
  ·let⟨p,hp⟩:=h j z f
   show oJ (c:=(p,0,j)) id hp
 let⟨g,nd,e,le⟩:=o8 (n:=n) d id (List.range n) List.nodup_range λv k=>⟨v,Kk.mp k,Z⟩
 rw[Kz] at le
 have:↑g<=1:=by
  match g,nd,e with
  |[],_,_=>show J4 _
  |[_],_,_=>show JG _
  |a::b::r,nd,e=>
   let⟨i,hi,l⟩:=e a JZ
   let⟨j,f,m⟩:=e b (J0 _ JZ)
   show absurd ?_ (Kj.mp nd).1
   rw[<-l,<-all i hi,all j f,m]
   show JZ
 lia
def eX (a:-Lk):Int:=(a.map (·.1)).sum
theorem v7 {d:Type}{f:d->Int}{a b:-d}(h:a.Sublist b):(∀x∈b,0<=f x)->(a.map f).sum<=(b.map f).sum:=by
 induction h with
 |slnil=>intro _;show Kt _
 |cons x _ ih=>
  intro nn
  let h1:=ih λy c=>nn y (J0 _ c)
  let h2:=nn x JZ
  rw[JW,KI]
  lia
 |cons_cons x _ ih=>
  intro nn
  let h1:=ih λy c=>nn y (J0 _ c)
  rw[JW,KI,JW,KI]
  lia
theorem Bg {c:Type}{f:c->Int}{a b:-c}(h:a.Perm b):(a.map f).sum=(b.map f).sum:=by
 induction h with
 |nil=>rfl
 |cons x _ ih=>rw[JW,KI,JW,KI,ih]
 |swap x y l=>simp only[JW,KI];lia
 |trans _ _ i1 i2=>rw[i1,i2]
theorem zX {c:Type}{pr:c->Int}{nm:c->c}{a ks R i:-c}(nn:∀e∈a,0<=pr e)(k:∀e∈a,pr (nm e)=pr e)(d:ks.Sublist a)(l:R.Sublist (ks.map nm))(hd:i.Perm R):(i.map pr).sum<=(a.map pr).sum:=by
 rw[Bg hd]
 let h:∀e∈ks,pr (nm e)=pr e:=λe b=>k e (d.subset b)
 show Int.le_trans (v7 l λx j=>?_) ?_
 ·let⟨e,b,rfl⟩:=JL.mp j
  rw[h e b];show nn e (d.subset b)
 ·rw[Ki,La (f:=pr∘nm) (g:=pr) h]
  show v7 d nn
noncomputable def hops {c:Type}:-c->-(c×c)
 |a::b::r=>(a,b)::hops (b::r)
 |_=>[]
theorem jf {c:Type}:∀l:-c,hops l=l.zip l.tail
 |[]=>rfl
 |[_]=>rfl
 |a::b::r=>by change(a,b)::hops (b::r)=_;rw[jf (b::r)];rfl
inductive DY (vs:-V) (H:Hp) (Q:VK) (E:XK):Prop
 |mk (c k:Int) (_:vs=[.int c,.int k]) (_:0<=k) (_:k<=100) (_:∀v:Int,0<=v->v<2147483647->Q (.int v) H)
inductive u_ (vs:-V) (H:Hp) (Q:VK) (E:XK):Prop
 |mk (c k:Int) (_:vs=[.int c,.int k]) (_:0<=k) (_:k<=100) (_:∀(v:Int) (H':Hp),aw H H'->1<=v->v<=1000000000000->Q (.int v) H')
inductive lA (vs:-V) (H:Hp) (Q:VK) (E:XK):Prop
 |mk (z:N8) (L R C n:Int) (_:vs=[.ref z,.int n]) (_:iB H z L R C) (_:gP L R C) (_:∀t,H t=none->Q (.ref t) (Ob H t (.tup ((sN R C (n%(L*R*C)).toNat).map V.int))))
def Bm (c d:T3):Bool:=decide (d∈mB c)
theorem Ju {x y:Int}:(x - y).natAbs=0↔y=x:=by lia
theorem Gf {x y:Int}:(x - y).natAbs=1↔y=x - 1\/y=x+1:=by
 rw[Int.natAbs_eq_iff]
 constructor
 ·rintro(h|h)
  ·show .inl (by omega)
  ·show .inr (by omega)
 ·rintro(h|h)
  ·show .inl (by omega)
  ·show .inr (by omega)
theorem HY:a+b+c=1↔(a=1/\b=0/\c=0)\/(a=0/\b=1/\c=0)\/(a=0/\b=0/\c=1):=by
 constructor
 ·intro h
  rcases a with _|a
  ·rcases b with _|b
   ·show .inr (.inr ⟨Z,Z,by simpa using h⟩)
   ·show .inr (.inl ⟨Z,(),()⟩)
  ·show .inl ⟨(),(),()⟩
 ·rintro(⟨rfl,rfl,rfl⟩|⟨rfl,rfl,rfl⟩|⟨rfl,rfl,rfl⟩)<;>rfl
theorem mE(h:[x,y][j]?>u):(j=0/\u=x)\/(j=1/\u=y):=by
 rcases j with _|_|j
 ·show .inl ⟨Z,(Option.some.inj h).symm⟩
 ·show .inr ⟨Z,(Option.some.inj h).symm⟩
 ·cases h
theorem pS (x y w e d w':Int):Bm [x,y,w] [e,d,w']=decide ((x - e).natAbs+(y - d).natAbs+(w - w').natAbs=1):=by
 unfold Bm mB mU
 show decide_eq_decide.mpr ?_
 simp only[List.getD_cons_zero,List.getD_cons_succ,JO,List.cons.injEq,and_true,KD,or_false,HY,Ju,Gf]
 constructor
 ·rintro(⟨a,b,c⟩|⟨a,b,c⟩|⟨a,b,c⟩|⟨a,b,c⟩|⟨a,b,c⟩|⟨a,b,c⟩)
  ·show .inl ⟨.inl a,b,c⟩
  ·show .inr (.inl ⟨a,.inl b,c⟩)
  ·show .inr (.inr ⟨a,b,.inl c⟩)
  ·show .inr (.inr ⟨a,b,.inr c⟩)
  ·show .inr (.inl ⟨a,.inr b,c⟩)
  ·show .inl ⟨.inr a,b,c⟩
 ·rintro(⟨a|a,b,c⟩|⟨a,b|b,c⟩|⟨a,b,c|c⟩)
  ·show .inl ⟨a,b,c⟩
  ·show .inr (.inr (.inr (.inr (.inr ⟨a,b,c⟩))))
  ·show .inr (.inl ⟨a,b,c⟩)
  ·show .inr (.inr (.inr (.inr (.inl ⟨a,b,c⟩))))
  ·show .inr (.inr (.inl ⟨a,b,c⟩))
  ·show .inr (.inr (.inr (.inl ⟨a,b,c⟩)))
inductive uC (vs:-V) (H:Hp) (Q:VK) (E:XK):Prop
 |mk (a b:N8) (x y w x' y' w':Int) (_:vs=[.ref a,.ref b]) (_:iB H a x y w) (_:iB H b x' y' w') (_:Q (.bl (Bm [x,y,w] [x',y',w'])) H)
inductive qp (cF:N8) (vs:-V) (H:Hp) (Q:VK) (E:XK):Prop
 |mk (p pr vi rd td a b:N8) (g:Gd) (x y w x' y' w':Int) (_:vs=[.ref p,.ref a,.ref b]) (_:FA cF H p pr vi rd td g) (_:dj g) (_:iB H a x y w) (_:iB H b x' y' w') (_:Q (.bl (Bm [x,y,w] [x',y',w']&&(nj g [x,y,w]&&nj g [x',y',w']))) H)
inductive uY (cF:N8) (vs:-V) (H:Hp) (Q:VK) (E:XK):Prop
 |mk (p pr vi rd td a b:N8) (g:Gd) (x y w x' y' w':Int) (_:vs=[.ref p,.ref a,.ref b]) (_:FA cF H p pr vi rd td g) (_:dj g) (_:iB H a x y w) (_:iB H b x' y' w') (_:iA g.L g.R g.C x y w) (_:iA g.L g.R g.C x' y' w') (_:(Bm [x,y,w] [x',y',w']&&(nj g [x,y,w]&&nj g [x',y',w']))=true) (_:Q (.int (cV g [x,y,w] [x',y',w'])) H)
theorem eC(vs:-V)(h:mM tl σ H vs)(hz:↑vs<=1000)(q:∀p H',aw H H'->H p=none->H' p>.lst vs->Q (.ref p) H'):pO tl σ H Q:=h _ ⟨by have:N9=2^24:=rfl;lia,λp a=>q p _ ((aw.refl H).upd a) a ag⟩
theorem kH(vs:-V)(h:mM tl σ H vs)(hz:↑vs<=1000)(q:∀p H',aw H H'->H p=none->H' p>.tup vs->Q (.ref p) H'):sR tl σ H Q:=h _ ⟨by have:N9=2^24:=rfl;lia,λp a=>q p _ ((aw.refl H).upd a) a ag⟩
theorem vI(q:∀p H',aw H H'->H p=none->H' p>.dT []->Q (.ref p) H'):AA σ H Q:=λp a=>q p _ ((aw.refl H).upd a) a ag
theorem u4(h1:(1:Int)<=x)(a:(1:Int)<=y)(b:(2:Int)<=z):2<=x*y*z:=by
 let h:1*1<=x*y:=Int.mul_le_mul h1 a (by decide) (by omega)
 have:=Int.mul_le_mul (show(1:Int)<=x*y by omega) b (by decide) (by omega)
 omega
theorem uZ {x y w a b c:Int}(i:(0:Int)<=x)(f:x<=a)(d:(0:Int)<=y)(y1:y<=b)(e:(0:Int)<=w)(g:w<=c)(h:a*b*c<=32):x*y*w<=32:=
 Int.le_trans (Int.mul_le_mul (Int.mul_le_mul f y1 d ()) g e (Int.mul_nonneg () ())) h
theorem Bc (n:Nat):∀ns:-Nat,Gc (.int (n:Nat)) (nV ns)=decide (n∈ns)
 |[]=>rfl
 |m::r=>by
  let a:=Bc n r
  unfold Gc nV at a|-
  rw[JW,List.any_cons,a]
  change((m:Int)==(n:Int)||decide (n∈r))=decide (n∈m::r)
  rw[Ly]
  simp only[Bool.or_eq_true,beq_iff_eq,decide_eq_true_eq,JO]
  show or_congr ⟨λh=>by lia,λh=>by lia⟩ Iff.rfl
theorem ux:∀ns:-Nat,(nV ns).all jc=true
 |[]=>rfl
 |m::r=>by
  let a:=ux r
  unfold nV at a|-
  rw[JW,List.all_cons,a];rfl
theorem lh {ns:-Nat}{i:Nat}{x:V}(h:(nV ns)[i]?>x):∃n,ns[i]?>n/\x=.int (n:Nat):=by
 unfold nV at h
 rw[JV] at h
 let⟨n,h1,h2⟩:=Kc.mp h
 show⟨n,h1,h2.symm⟩
theorem o6(S:gP L R C)(h:σ[i]?>some (.ref z))(hz:iB H z L R C):Ev (e9 (rI qy λi j=>V.int (i*j)) (e9 (rI qy λi j=>V.int (i*j)) (e9 (lE K) (bI i) (tC (.int 0))) (e9 (lE K) (bI i) (tC (.int 1)))) (e9 (lE K) (bI i) (tC (.int 2)))) σ H (.int (L*R*C)):=by
 let e:=S.l0;let l1:=S.l1;let d:=S.r0;let a:=S.r1;let c:=S.c0;let b:=S.c1
 show cY (cY (aJ (v:=.int L) (ae h) aB (a_.of hz) Z) (aJ (v:=.int R) (ae h) aB (a_.of hz) Z) (Eo () ())) (aJ (v:=.int C) (ae h) aB (a_.of hz) Z) (Eo () ())
theorem t8{a:-(-Int)}(f:Ev ta σ H (.ref b))(d:Ev tb σ H (.ref p))(h1:H b>.tup (c.map V.int))(g:a_ K H p (as.map V.ref))(e:bH H as a):Ev (e9 (A5 K true) ta tb) σ H (.bl (!decide (c∈a))):=
 λ_ q=>f _ (d _ ⟨b,p,as,c,a,Z,Z,h1,g,e,q⟩)
theorem vV(h:mM ta σ H [.int i,.int j])(h1: -2^62<=i/\i<2^62/\ -2^62<=j/\j<2^62)(q:iR (λ_ H R=>R (Dq i (j - i).toNat) H) g tb D σ H):iR (DE ta) g tb D σ H:=h _ ⟨i,j,Z,h1,q⟩
noncomputable def j9 (M:Nat) (ss:-Nat):-(Nat×V):=((List.range M).filter λn=>!decide (n∈ss)).map λn=>(n,.bl true)
theorem lJ (M:Nat)(ss:-Nat):(j9 M ss).map (·.1)=(List.range M).filter λn=>!decide (n∈ss):=by
 unfold j9
 simp[Function.comp_def]
theorem kL (M:Nat)(ss:-Nat)(n:Nat):(aE (j9 M ss) n).isSome=(decide (n<M)&&!decide (n∈ss)):=by
 rw[Ly,fj,lJ]
 simp[KZ,Kk]
theorem yY (M:Nat)(ss:-Nat):Tb M (j9 M ss):=⟨lJ<|List.nodup_range.filter _,λp hp=>by
 have:p.1∈(j9 M ss).map (·.1):=Lu hp
 rw[lJ] at this
 show Kk.mp (KZ.mp this).1⟩
theorem rY (i:Nat)(ss:-Nat):j9 (i+1) ss=if i∈ss then j9 i ss else bC (j9 i ss) i (.bl true):=by
 let e:aE (j9 i ss) i=none:=by
  have:=kL i ss i
  cases h:aE (j9 i ss) i with
  |none=>rfl
  |some v=>rw[h] at this;simp at this
 let a:j9 (i+1) ss=j9 i ss++(if i∈ss then [] else [(i,.bl true)]):=by
  unfold j9
  rw[L_,Le,JM]
  by_cases h:i∈ss<;>simp[h]
 rw[a]
 by_cases h:i∈ss
 ·rw[N1 h,N1 h,J6]
 ·rw[N0 h,N0 h,fZ _ e]
noncomputable def kC (ns:-Nat) (f:Dj.Far) (k m:Nat):-Lk:=(List.range m).filterMap λi=>(f (ns.getD (k+1+i) 0)).map λp=>(p,k,k+1+i)
noncomputable def gK (ns:-Nat) (fs:eh) (n:Nat):-Lk:=(List.range n).flatMap λk=>kC ns (fs k) k (ns.length - (k+1))
theorem vp{ns:-Nat}(h:f (ns.getD (k+1+m) 0)=none):kC ns f k (m+1)=kC ns f k m:=by
 unfold kC
 rw[L_,MJ]
 simp only[Lh,MK,h,Option.map_none,J6]
theorem uA{ns:-Nat}(h:f (ns.getD (k+1+m) 0)>p):kC ns f k (m+1)=kC ns f k m++[(p,k,k+1+m)]:=by
 unfold kC
 rw[L_,MJ]
 simp only[Lh,MK,h,LO]
theorem jy (ns:-Nat)(fs:eh)(n:Nat):gK ns fs (n+1)=gK ns fs n++kC ns (fs n) n (ns.length - (n+1)):=by
 unfold gK
 rw[L_,List.flatMap_append]
 simp only[List.flatMap_cons,List.flatMap_nil,J6]
theorem lI{ns:-Nat}:↑(kC ns f k m)<=m:=by
 unfold kC
 have:=List.length_filterMap_le (λi=>(f (ns.getD (k+1+i) 0)).map λp=>((p,k,k+1+i):Lk)) (List.range m)
 rwa [Kz] at this
theorem fE (ns:-Nat)(fs:eh):∀n,↑(gK ns fs n)<=n*ns.length
 |0=>J4 _
 |n+1=>by
  let h1:=fE ns fs n
  let h2:=lI (ns:=ns) (f:=fs n) (k:=n) (m:=ns.length - (n+1))
  rw[jy,JQ,Nat.succ_mul]
  omega
theorem ig{ns:-Nat}{fs:eh}{c:Lk}(h:c∈gK ns fs ns.length):c.2.1<ns.length/\c.2.2<ns.length/\fs c.2.1 (ns.getD c.2.2 0)>c.1:=by
 let⟨k,a,h⟩:=List.mem_flatMap.mp h
 let⟨i,hi,h⟩:=Lg.mp h
 let⟨p,hp,rfl⟩:=Kc.mp h
 let h1:=Kk.mp a
 let h2:=Kk.mp hi
 show⟨h1,by change k+1+i<_;omega,hp⟩
theorem wM{ns:-Nat}{fs:eh}(h0:0<j)(a:j<ns.length)(h:fs 0 (ns.getD j 0)>p):(p,0,j)∈gK ns fs ns.length:=
 List.mem_flatMap.mpr ⟨0,Kk.mpr (),Lg.mpr ⟨j - 1,Kk.mpr (),by rw[show 0+1+(j - 1)=j by lia,h];rfl⟩⟩
theorem qa {g:Type} [DecidableEq g]{S:T3->Prop}:∀(l:-E2) (f:T3->g) (a:-g),a≠[]->(∀x,S x->f x∈a)->(∀e∈l,S e.1/\S e.2)->↑(jh f l)<↑a
 |[],_,_,h,_,_=>List.length_pos_iff.mpr h
 |e::l,f,a,h,hf,hs=>by
  let b:∀d∈l,S d.1/\S d.2:=λd hd=>hs d (J0 _ hd)
  unfold jh
  by_cases c:f e.1=f e.2
  ·rw[N1 c];show qa l f a h hf b
  ·rw[N0 c]
   let⟨s1,k⟩:=hs e JZ
   let i:f e.1∈a.erase (f e.2):=(L8 c).mpr (hf _ s1)
   have:=qa l (i8 f e.1 e.2) (a.erase (f e.2)) (List.ne_nil_of_mem i) (λx j=>by
    unfold i8
    split
    ·show i
    ·show(L8 (by assumption)).mpr (hf x j)) b
   rw[MG (hf _ k)] at this
   rw[J9]
   omega
noncomputable def Gu:(Nat->Nat)->-Lk->Prop
 |_,[]=>True
 |rep,c::r=>rep c.2.1≠rep c.2.2/\Gu (bO rep c.2.1 c.2.2) r
theorem um:∀(ls:-Lk) (rep:Nat->Nat),Gu rep (kr rep ls)
 |[],_=>trivial
 |c::r,rep=>by
  unfold kr
  by_cases e:rep c.2.1=rep c.2.2
  ·rw[N1 e];show um r rep
  ·rw[N0 e];show⟨e,um r _⟩
theorem kU:∀(ls:-Lk) (rep:Nat->Nat),(kr rep ls).Sublist ls
 |[],_=> .slnil
 |c::r,rep=>by
  unfold kr
  split
  ·show .cons _ (kU r rep)
  ·show .cons_cons _ (kU r _)
structure l_ (g:Gd) (e:E2):Prop where
 ex:∃n m:Nat,n<g.M/\m<g.M/\e=(sN g.R g.C n,sN g.R g.C m)/\Bm (sN g.R g.C n) (sN g.R g.C m)=true/\nj g (sN g.R g.C n)=true/\nj g (sN g.R g.C m)=true
theorem Aw (R C:Int)(n m:Nat):Bm (sN R C n) (sN R C m)=Bm (sN R C m) (sN R C n):=by
 let c (a b:Int):(a - b).natAbs=(b - a).natAbs:=by rw[<-Int.natAbs_neg,Int.neg_sub]
 unfold sN
 rw[pS,pS,c,c ((n:Int)/C%R),c ((n:Int)%C)]
theorem l_.symm{e:E2}(h:l_ g e):l_ g (e.2,e.1):=by
 let⟨n,m,h1,h2,rfl,a,b,c⟩:=h.ex
 show⟨m,n,h2,h1,Z,Aw<|a,c,b⟩
theorem l_.nm{e:E2}(h:l_ g e):l_ g (nm e):=by
 rcases yV e with z|z
 ·rw[z];show h
 ·rw[z];show h.symm
theorem tH (g:Gd)(c d:T3):cV g c d=cV g d c:=by
 unfold cV bare
 rw[LM (fb g.R g.C g.ts c) (fb g.R g.C g.ts d)]
 congr 1
 by_cases h:c.getD 0 0=d.getD 0 0
 ·rw[N0 (show¬(c.getD 0 0≠d.getD 0 0) from λz=>z h),N0 (show¬(d.getD 0 0≠c.getD 0 0) from λz=>z h.symm),h]
  by_cases h1:c.getD 1 0=d.getD 1 0
  ·rw[N1 h1,N1 h1.symm]
  ·rw[N0 h1,N0 (λz=>h1 z.symm)]
 ·rw[N1 h,N1 (λz=>h z.symm),Int.min_comm]
theorem yU (g:Gd)(e:E2):cV g (nm e).1 (nm e).2=cV g e.1 e.2:=by
 rcases yV e with z|z
 ·rw[z]
 ·rw[z];show tH g _ _
theorem qt{F:-(Nat×V)}{x:T3×Int}(h:x∈gM g F c):Es g c=false/\nj g x.1=true/\x.1∈mB c/\x.2=cV g c x.1:=by
 unfold gM lD fD at h
 split at h
 ·let⟨h,_⟩:=KZ.mp h
  split at h
  ·cases h
  ·rename_i z
   let⟨d,hd,rfl⟩:=JL.mp h
   let⟨h1,h2⟩:=KZ.mp hd
   show⟨by simpa using z,h2,h1,Z⟩
 ·cases h
theorem wy(ok:dj g){F:-(Nat×V)}(d:Tb g.M F){m n:Nat}{w:Int}(h:(n,w)∈rows g F m):l_ g (sN g.R g.C m,sN g.R g.C n)/\cV g (sN g.R g.C m) (sN g.R g.C n)=w/\0<=w:=by
 let⟨a,_,i⟩:=i_ ok h
 let hm:m<g.M:=by
  let⟨p,hp,e⟩:=JL.mp (fj.mp (qE ok h))
  let e:p.1=m:=e
  rw[<-e];show d.lt p hp
 let⟨j,c,b,f⟩:=qt i
 let hi:=iG ok.S (n:=m) (by have:=ok.M;lia)
 show⟨⟨m,n,hm,a,Z,N3 b,?_,c⟩,f.symm,kO ok F m _ h⟩
 unfold nj
 rw[j,show km g (sN g.R g.C m)=true from N3 hi];rfl
theorem mZ {d:Type}:∀(l:-d) (b x:d),hops (l++[b,x])=hops (l++[b])++[(b,x)]
 |[],_,_=>rfl
 |[_],_,_=>rfl
 |a::c::r,b,x=>by
  change(a,c)::hops ((c::r)++[b,x])=(a,c)::hops ((c::r)++[b])++[(b,x)]
  rw[mZ (c::r) b x];rfl
theorem zd {a:Type}(l:-a):↑(hops l)<=↑l:=by
 rw[jf,List.length_zip]
 show Nat.min_le_left _ _
def EX (g:Gd) (e:E2):Int:=cV g e.1 e.2
theorem Wb.hops{F:-(Nat×V)}(ok:dj g)(o:Tb g.M F){n:Nat}{W:-Nat}(h:Wb g F ss far back n W):
  (∀e∈K57.hops (W.reverse.map (sN g.R g.C)),l_ g e/\0<=EX g e)/\∀p,far n>p->((K57.hops (W.reverse.map (sN g.R g.C))).map (EX g)).sum=p:=by
 induction h with
 |st h f b=>show⟨λe l=>(nomatch l),λp hp=>by rw[f] at hp;cases hp;rfl⟩
 | @go n m p q r f fm b a w nd ih=>
  let⟨c,rfl⟩:=w.hd
  let⟨i1,i2⟩:=ih
  let e:((n::m::c).reverse.map (sN g.R g.C))=c.reverse.map (sN g.R g.C)++[sN g.R g.C m,sN g.R g.C n]:=by simp
  let k:((m::c).reverse.map (sN g.R g.C))=c.reverse.map (sN g.R g.C)++[sN g.R g.C m]:=by simp
  rw[e,mZ]
  rw[k] at i1 i2
  let⟨s1,i,j⟩:=wy ok o a
  show⟨λd hd=>?_,λs hp=>?_⟩
  ·rcases J3.mp hd with z|z
   ·show i1 d z
   ·rw[JJ.mp z]
    show⟨s1,by change 0<=cV g _ _;rw[i];show j⟩
  ·rw[f] at hp
   cases hp
   rw[JM,List.sum_append,i2 q fm]
   change q+([cV g (sN g.R g.C m) (sN g.R g.C n)]).sum=p
   rw[i]
   simp only[KI,List.sum_nil]
   lia
theorem Wb.len{F:-(Nat×V)}(h:Wb g F ss far back n W)(a:∀n p,far n>p->n<M):↑W<=M:=by
 have:=dB (ys:=List.range M) h.nd λx b=>by
  let⟨p,hp⟩:=h.inn x b
  show Kk.mpr (a x p hp)
 rwa [Kz] at this
theorem wm {a:-(Nat×V)}(nd:(a.map (·.1)).Nodup){p:Nat×V}(h:p∈a):aE a p.1>p.2:=by
 induction a with
 |nil=>cases h
 |cons q r ih=>
  rw[JW,Kj] at nd
  rcases JO.mp h with rfl|h
  ·show cf Z
  ·rw[bU (λe=>nd.1 (e▸JL.mpr ⟨p,h,Z⟩))]
   show ih nd.2 h
theorem cS.int {a:-(Nat×V)}(h:cS a f)(nd:(a.map (·.1)).Nodup){m:Nat}{v:V}(b:(m,v)∈a):∃p:Int,v=.int p/\f m>p:=by
 let e:=wm nd b
 rw[h m] at e
 let⟨p,hp,e⟩:=Kc.mp e
 show⟨p,e.symm,hp⟩
theorem cS.intV {kv:-(Nat×V)}(h:cS kv f)(nd:(kv.map (·.1)).Nodup):iH kv:=λk v a=>by
 let⟨p,e,_⟩:=h.int nd a
 show⟨p,e⟩
theorem cS.mem {kv:-(Nat×V)}(h:cS kv f){m:Nat}{p:Int}(e:f m>p):(m,V.int p)∈kv:=ju (by rw[h m,e];rfl)
noncomputable def lC (a:-(Nat×V)):Dj.Far:=λm=>match aE a m with
 |some (.int x)=>some x
 |_=>none
theorem rW {a:-(Nat×V)}(h:iH a):cS a (lC a):=λm=>by
 unfold lC
 cases e:aE a m with
 |none=>rfl
 |some v=>
  let⟨n,rfl⟩:=h.val e
  rfl
theorem pN {a:-(Nat×V)}(h:iH a){m:Nat}{x:Int}(e:lC a m>x):aE a m>.int x:=by rw[rW h m,e];rfl
theorem pZ(m:Nat):∀{a:-(Nat×V)},(a.map (·.1)).Nodup->aE (hil b e a) m=(aE a m).bind (sq b e)
 |[],_=>rfl
 |p::r,nd=>by
  rw[JW,Kj] at nd
  let d:=pZ (b:=b) (e:=e) m nd.2
  let g:hil b e (p::r)=match hf b e p with
   |none=>hil b e r
   |some q=>q::hil b e r:=by unfold hil;rw[Lh];cases hf b e p<;>rfl
  rw[g]
  by_cases c:p.1=m
  ·rw[cf c]
   change _=sq b e p.2
   let hr:aE r m=none:=by
    cases z:aE r m with
    |none=>rfl
    |some v=>show absurd (Lu (f:=(·.1)) (ju z)) (by rw[<-c];show nd.1)
   cases z:sq b e p.2 with
   |none=>
    rw[show hf b e p=none by unfold hf;rw[z];rfl]
    change aE (hil b e r) m=none
    rw[d,hr];rfl
   |some y=>
    rw[show hf b e p>(p.1,y) by unfold hf;rw[z];rfl]
    show cf (p:=(p.1,y)) c
  ·rw[bU c,<-d]
   cases z:sq b e p.2 with
   |none=>rw[show hf b e p=none by unfold hf;rw[z];rfl]
   |some y=>
    rw[show hf b e p>(p.1,y) by unfold hf;rw[z];rfl]
    show bU (p:=(p.1,y)) c
theorem vS:sq b e (.int p)>.int x↔sV b e p>x:=by
 unfold sV
 change(if 2*p<e/\b<e then some (V.int (if GT.gt (2*p) b then 2*p - b else 0)) else none)>.int x↔_
 by_cases c:2*p<e/\b<e
 ·rw[N1 c,N1 c,Option.some.injEq,Option.some.injEq,V.int.injEq]
 ·rw[N0 c,N0 c];simp
theorem Fo(h:sV b e p>y)(l:q<=p):∃x,sV b e q>x/\x<=y:=by
 unfold sV at h
 split at h
 ·rename_i c
  injection h with h
  show⟨_,N1 ⟨(),c.2⟩,?_⟩
  subst h
  split<;>split<;>lia
 ·cases h
theorem yL {M:Nat}{fs:eh}{g:-(-(Nat×V))}{ps:-Nat}{a:-(Nat×V)}{b e:Int}(d:∀k∈ps,Tb M (g.getD k [])/\cS (g.getD k []) (fs k))(L:sP M (ps.map λk=>g.getD k []).flatten a):cS (hil b e a) (lC (hil b e a))/\Bk fs (λk=>k∈ps) b e (lC (hil b e a)):=by
 let j:iH (hil b e a):=Dr L.it
 show⟨rW j,λk m p c hf y n=>?_,λm x r=>?_⟩
 ·let⟨q,h1,h2⟩:=L.dn m p (List.mem_flatten.mpr ⟨_,JL.mpr ⟨k,c,Z⟩,(d k c).2.mem hf⟩)
  let⟨x,h,s⟩:=Fo n h2
  show⟨x,?_,s⟩
  let i:=pZ (b:=b) (e:=e) m L.pl.nd
  rw[h1] at i
  let u:aE (hil b e a) m>.int x:=i.trans (vS.mpr h)
  unfold lC
  rw[u]
 ·let h1:=pN j r
  rw[pZ m L.pl.nd] at h1
  let⟨v,h2,h⟩:=Option.bind_eq_some_iff.mp h1
  let⟨q,rfl⟩:=L.it.val h2
  let⟨l,o,hm⟩:=List.mem_flatten.mp (L.up m _ h2)
  let⟨k,c,rfl⟩:=JL.mp o
  let⟨p,f,w⟩:=(d k c).2.int (d k c).1.nd hm
  injection f with f
  subst f
  show⟨k,q,c,w,vS.mp h⟩
structure wN (M:Nat) (b e:Int) (src kv:-(Nat×V)):Prop where
 tb:Tb M kv
 it:iH kv
 dn:∀m (p:Int),(m,.int p)∈src->∀y,sV b e p>y->∃x:Int,aE kv m>.int x/\x<=y
 up:∀m (x:Int),aE kv m>.int x->∃p:Int,(m,V.int p)∈src/\sV b e p>x
theorem wN.nil:wN M b e [] []:=⟨Tb.nil,(λ_ _ h=>by cases h),(λ_ _ h=>by cases h),λ_ _ h=>by cases h⟩
theorem wN.stay{a kv:-(Nat×V)}(h:wN M b e a kv)(g:sV b e p=none):wN M b e (a++[(m,.int p)]) kv:=by
 show⟨h.tb,h.it,λk q f y c=>?_,λk x d=>?_⟩
 ·rcases J3.mp f with z|z
  ·show h.dn k q z y c
  ·let z:=JJ.mp z
   injection z with _ z
   injection z with z
   rw[z,g] at c;cases c
 ·let⟨q,h1,h2⟩:=h.up k x d
  show⟨q,LP _ h1,h2⟩
theorem wN.put{f d:-(Nat×V)}(h:wN M b e f d)(l:m<M)(i:sV b e p>y):wN M b e (f++[(m,.int p)]) (bC d m (.int (Dj.low y (lC d m)))):=by
 let l1:=Dj.low_le y (lC d m)
 show⟨h.tb.put l,h.it.put,λk q j z g=>?_,λk x a=>?_⟩
 ·rw[eI]
  by_cases c:k=m
  ·rw[N1 c]
   show⟨_,Z,?_⟩
   rcases J3.mp j with w|w
   ·let⟨x,h1,h2⟩:=h.dn k q w z g
    have:lC d m>x:=by unfold lC;rw[<-c,h1]
    have:=l1.2 x this
    lia
   ·let w:=JJ.mp w
    injection w with _ w
    injection w with w
    rw[w,i] at g
    cases g
    show l1.1
  ·rw[N0 c]
   rcases J3.mp j with w|w
   ·show h.dn k q w z g
   ·let w:=JJ.mp w
    injection w with w _
    show absurd w c
 ·rw[eI] at a
  by_cases c:k=m
  ·rw[N1 c] at a
   injection a with a
   injection a with a
   rcases Dj.low_or y (lC d m) with z|z
   ·show⟨p,KF _ (c<|JJ.mpr Z),by rw[<-a,z];show i⟩
   ·rw[a] at z
    let⟨q,h1,h2⟩:=h.up k x (c<|pN h.it z)
    show⟨q,LP _ h1,h2⟩
  ·rw[N0 c] at a
   let⟨q,h1,h2⟩:=h.up k x a
   show⟨q,LP _ h1,h2⟩
theorem wN.hil {M:Nat}{fs:eh}{g:-(-(Nat×V))}{ps:-Nat}{c:-(Nat×V)}{b e:Int}(d:∀k∈ps,Tb M (g.getD k [])/\cS (g.getD k []) (fs k))(L:wN M b e (ps.map λk=>g.getD k []).flatten c):cS c (lC c)/\Bk fs (λk=>k∈ps) b e (lC c):=by
 show⟨rW L.it,λk m p a hf y h=>?_,λm x j=>?_⟩
 ·let⟨x,h1,h2⟩:=L.dn m p (List.mem_flatten.mpr ⟨_,JL.mpr ⟨k,a,Z⟩,(d k a).2.mem hf⟩) y h
  show⟨x,by unfold lC;rw[h1],h2⟩
 ·let⟨q,h1,h2⟩:=L.up m x (pN L.it j)
  let⟨l,i,hm⟩:=List.mem_flatten.mp h1
  let⟨k,a,rfl⟩:=JL.mp i
  let⟨p,f,n⟩:=(d k a).2.int (d k a).1.nd hm
  injection f with f
  subst f
  show⟨k,q,a,n,h2⟩
theorem GI(x:T3):Np (aX P w) (iK x)=dY x:=by
 unfold Np dY iK
 rw[Ki]
 rfl
theorem Dw (P:Ni)(w:Nr){g:Gd}(d:dj g){c:-Nat}(f:c.Nodup)(h:∀n∈c,n<g.M):((c.map (sN g.R g.C)).map dY).Nodup:=by
 show k_ (k_ f λn _ m _ e=>my d.S e) λa ha b hb e=>?_
 let⟨n,f,rfl⟩:=JL.mp ha
 let⟨m,hm,rfl⟩:=JL.mp hb
 let h1:=h n f
 let h2:=h m hm
 let i:=d.M
 show congrArg _ (uJ (P:=P) (w:=w) d.S (n:=n) (m:=m) () () ?_)
 rw[GI,GI]
 show e
def Jr (H:Hp) (t z pr b c d e a:N8):Prop:=H t>.tup [.ref z,.ref pr,.ref b,.ref c,.ref d,.ref e,.ref a]
structure Eb (H:Hp) (t:N8) (g:Gd) (ss ns:-Nat):Prop where
 ex:∃z pr vi ro td sh pi,Jr H t z pr vi ro td sh pi/\Hu H z pr vi ro td g/\jg H sh (ss.map (sN g.R g.C))/\jg H pi (ns.map (sN g.R g.C))
theorem Eb.same{ns:-Nat}(h:Eb H t g ss ns)(s:aw H H'):Eb H' t g ss ns:=by
 let⟨z,pr,vi,ro,td,sh,a,h1,h2,b,c⟩:=h.ex
 show⟨z,pr,vi,ro,td,sh,a,s _ _ h1,h2.same s,b.same s,c.same s⟩
structure G7 (g:Gd) (ss ns:-Nat):Prop where
 ok:dj g
 m:g.M<=32
 pr:∀n∈ns,n<g.M/\n∉g.rs/\n∉ss
 nd:ns.Nodup
 p2:2<=ns.length
 p6:ns.length<=6
inductive vd (vs:-V) (H:Hp) (Q:VK) (E:XK):Prop
 |mk (n:Int) (_:vs=[.int n]) (_:∀(t:N8) (L R C:Int),H t=none->gP L R C->L*R*C<=32->2<=L*R*C->Q (.ref t) (Ob H t (.tup [.int L,.int R,.int C])))
inductive AV (K:JI) (vs:-V) (H:Hp) (Q:VK) (E:XK):Prop
 |mk (a z:N8) (cs:-Int) (L R C:Int) (M:Nat) (_:vs=[.ref a,.ref z]) (_:aN K H a (cs.map V.int)) (_:iB H z L R C) (_:gP L R C) (_:(M:Int)=L*R*C) (_:2<=M) (_:M<=32) (_:∀(H':Hp) (l:N8) (ns:-Nat),aw H H'->jg H' l (ns.map (sN R C))->ns.Nodup->2<=ns.length->ns.length<=6->(∀n∈ns,n<M)->Q (.ref l) H')
inductive qD (K:JI) (vs:-V) (H:Hp) (Q:VK) (E:XK):Prop
 |mk (a:N8) (cs:-Int) (_:vs=[.ref a]) (_:aN K H a (cs.map V.int)) (_:↑cs<=63) (_:∀(H':Hp) (t:N8) (g:Gd) (ss ns:-Nat),aw H H'->Eb H' t g ss ns->G7 g ss ns->Q (.ref t) H')
inductive Ba (vs:-V) (H:Hp) (Q:VK) (E:XK):Prop
 |mk (t:N8) (g:Gd) (ss ns:-Nat) (_:vs=[.ref t]) (_:Eb H t g ss ns) (_:G7 g ss ns) (_:∀(H':Hp) (d:N8),aw H H'->H d=none->H' d>.dT (bg g.R g.C (j9 g.M ss))->Q (.ref d) H')
inductive oQ (vs:-V) (H:Hp) (Q:VK) (E:XK):Prop
 |mk (a b:N8) (L R C l r c:Int) (_:vs=[.ref a,.ref b]) (_:iB H a L R C) (_:iB H b l r c) (_:Q (.bl (decide (iA L R C l r c))) H)
noncomputable def ye (g:Gd) (ss:-Nat) (c:T3):Bool:=!(decide (c∈g.rs.map (sN g.R g.C))||decide (c∈ss.map (sN g.R g.C)))
inductive uL (vs:-V) (H:Hp) (Q:VK) (E:XK):Prop
 |mk (t a b:N8) (g:Gd) (ss ns:-Nat) (x y w x' y' w':Int) (_:vs=[.ref t,.ref a,.ref b]) (_:Eb H t g ss ns) (_:dj g) (_:iB H a x y w) (_:iB H b x' y' w') (_:iA g.L g.R g.C x y w) (_:iA g.L g.R g.C x' y' w') (_:eQ x y w x' y' w') (_:∀H',aw H H'->Q (if (ye g ss [x,y,w]&&ye g ss [x',y',w'])=true then .int (cV g [x,y,w] [x',y',w']) else .non) H')
inductive A8 (vs:-V) (H:Hp) (Q:VK) (E:XK):Prop
 |mk (t b:N8) (g:Gd) (ss ns:-Nat) (n:Nat) (_:vs=[.ref t,.ref b]) (_:Eb H t g ss ns) (_:dj g) (_:n<g.M) (_:mK g.R g.C H b n) (_:∀(H':Hp) (l:N8) (xs:-(T3×Int)),aw H H'->H l=none->vo H' l xs->↑xs<=6->(∀x,x∈xs↔x∈gM g (j9 g.M ss) (sN g.R g.C n))->Q (.ref l) H')
abbrev Ar:=Nat×Nat×Int
def HR (R C:Int) (H:Hp) (q:N8) (a:Ar):Prop:=∃b c,H q>.tup [.ref b,.ref c,.int a.2.2]/\mK R C H b a.1/\mK R C H c a.2.1
def F0 (R C:Int) (H:Hp) (l:N8) (as:-Ar):Prop:=∃a:-N8,H l>.lst (a.map V.ref)/\Nb (HR R C H) a as
theorem rg{as:-Ar}(h:Nb (HR R C H) qs as)(s:∀b ys,H b>.tup ys->H' b>.tup ys):Nb (HR R C H') qs as:=Nb.mapP h λ_ _ a=>by let⟨b,c,d,e,f⟩:=a;show⟨b,c,s _ _ d,s _ _ e,s _ _ f⟩
theorem F0.same{as:-Ar}(h:F0 R C H l as)(s:aw H H'):F0 R C H' l as:=by
 let⟨a,h1,h2⟩:=h
 show⟨a,s _ _ h1,rg h2 λb ys e=>s _ _ e⟩
inductive yT (vs:-V) (H:Hp) (Q:VK) (E:XK):Prop
 |mk (t:N8) (g:Gd) (ss ns:-Nat) (_:vs=[.ref t]) (_:Eb H t g ss ns) (_:G7 g ss ns) (_:∀(H':Hp) (l:N8) (as:-Ar),aw H H'->F0 g.R g.C H' l as->↑as<=200->(∀m o w,(m,o,w)∈as↔(o,w)∈rows g (j9 g.M ss) m)->Q (.ref l) H')
inductive yo (vs:-V) (H:Hp) (Q:VK) (E:XK):Prop
 |mk (l b:N8) (g:Gd) (F:-(Nat×V)) (as:-Ar) (n:Nat) (ok:dj g) (_:vs=[.ref l,.ref b]) (_:F0 g.R g.C H l as) (_:↑as<=200) (_:(∀m o w,(m,o,w)∈as↔(o,w)∈rows g F m)) (_:n<g.M) (_:mK g.R g.C H b n) (_:∀(H':Hp) (d:N8) (Fr:-(Nat×V)) (f:Dj.Far),aw H H'->H d=none->H' d>.dT (bg g.R g.C Fr)->Tb g.M Fr->cS Fr f->Dj.Fix (gG g F [n] ok) f->Q (.ref d) H')
theorem Fs.same{ts:-(-(Nat×V))}(h:Fs R C H F ds ts)(s:aw H H'):Fs R C H' F ds ts:=⟨s _ _ h.hl,h.len,h.nd,λi hi=>s _ _ (h.ats i hi)⟩
structure Aq (R C:Int) (M:Nat) (H:Hp) (l:N8) (ds:-N8) (ts:-(-(Nat×V))) (ff:eh):Prop where
 fs:Fs R C H l ds ts
 ok:∀i,i<↑ds->Tb M (ts.getD i [])/\cS (ts.getD i []) (ff i)
theorem Aq.same{a:-(-(Nat×V))}{fs:eh}(h:Aq R C M H l ds a fs)(s:aw H H'):Aq R C M H' l ds a fs:=⟨h.fs.same s,h.ok⟩
def gN (R C:Int) (M:Nat) (fs:eh) (H:Hp) (a:N8) (x:(Nat->Prop)×Int×Int):Prop:=∃(d:N8) (b:-(Nat×V)) (h:Dj.Far),H a>.tup [.int (x.2.2 - x.2.1),.ref d]/\H d>.dT (bg R C b)/\Tb M b/\cS b h/\Bk fs x.1 x.2.1 x.2.2 h
theorem b9{fs:eh}{xs:-((Nat->Prop)×Int×Int)}(h:Nb (gN R C M fs H) as xs)(st:∀b ys,H b>.tup ys->H' b>.tup ys)(g:∀b ys,H b>.dT ys->H' b>.dT ys):Nb (gN R C M fs H') as xs:=Nb.mapP h λ_ _ a=>by let⟨d,e,f,c,i,j⟩:=a;show⟨d,e,f,st _ _ c,g _ _ i,j⟩
theorem cD(a:H' D>.lst zs):∀b xs,H' b>.dT xs->Ob H' D (.lst y) b>.dT xs:=λb xs e=>by rw[aj (bz e a (λz=>by cases z))];show e
noncomputable def f6 (x:-Nat×Int×Int):(Nat->Prop)×Int×Int:=((λk=>k∈x.1),x.2)
noncomputable def wR (n:Nat) (x:(Nat->Prop)×Int×Int):(Nat->Prop)×Int×Int:=((λk=>k<n/\x.1 k),x.2)
def I0 (H:Hp) (t:N8) (a:-T3):Prop:=∃as:-N8,H t>.tup (as.map V.ref)/\bH H as a
inductive vD (vs:-V) (H:Hp) (Q:VK) (E:XK):Prop
 |mk (l F:N8) (ns:-Nat) (ds:-N8) (ts:-(-(Nat×V))) (fs:eh) (L R C:Int) (M:Nat) (_:vs=[.ref l,.ref F]) (_:gP L R C) (_:jg H l (ns.map (sN R C))) (_:ns.length<=6) (_:Aq R C M H F ds ts fs) (_:↑ds=ns.length) (_:∀(H':Hp) (l':N8) (bs:-N8) (ss:-Lk),aw H H'->H' l'>.lst (bs.map V.ref)->bH H' bs (ss.map tr)->ss.Perm (gK ns fs ns.length)->Sd (ss.map tr)->Q (.ref l') H')
inductive A7 (vs:-V) (H:Hp) (Q:VK) (E:XK):Prop
 |mk (t F:N8) (ns:-Nat) (ds:-N8) (ts:-(-(Nat×V))) (fs:eh) (L R C:Int) (M:Nat) (_:vs=[.ref t,.ref F]) (_:gP L R C) (_:I0 H t (ns.map (sN R C))) (_:ns.length<=6) (_:Aq R C M H F ds ts fs) (_:↑ds=ns.length) (_:∀(H':Hp) (l':N8) (bs:-N8),aw H H'->H' l'>.lst (bs.map V.ref)->bH H' bs ((gK ns fs ns.length).map tr)->Q (.ref l') H')
inductive sg (vs:-V) (H:Hp) (Q:VK) (E:XK):Prop
 |mk (F m:N8) (ds:-N8) (ts:-(-(Nat×V))) (fs:eh) (ms:-Nat) (b e L R C:Int) (M:Nat) (_:vs=[.ref F,.ref m,.int b,.int e]) (_:gP L R C) (_:M<=128) (_:Aq R C M H F ds ts fs) (_:H m>.lst (nV ms)) (_:↑ms<=6) (_:(∀k∈ms,k<↑ds)) (_:b<e) (_:∀(H':Hp) (t:N8),aw H H'->gN R C M fs H' t ((λk=>k∈ms),b,e)->Q (.ref t) H')
inductive Eg (vs:-V) (H:Hp) (Q:VK) (E:XK):Prop
 |mk (l F:N8) (ns:-Nat) (ds:-N8) (ts:-(-(Nat×V))) (fs:eh) (L R C:Int) (M:Nat) (_:vs=[.ref l,.ref F]) (_:gP L R C) (_:M<=128) (_:jg H l (ns.map (sN R C))) (_:ns.length<=6) (_:Aq R C M H F ds ts fs) (_:↑ds=ns.length) (_:∀(H':Hp) (t l':N8) (bs:-N8) (ss:-Lk),aw H H'->H' t>.tup [.int (eX (kr id ss)),.ref l']->H' l'>.lst (bs.map V.ref)->Nb (gN R C M fs H') bs ((kB id (λ_=>0) ss).map (wR ns.length))->ss.Perm (gK ns fs ns.length)->Sd (ss.map tr)->Q (.ref t) H')
def FB (G D:N8) (H:Hp) (as:-N8) (P:qc):Prop:=∀i,i<↑as->∃u,u≠G/\u≠D/\H (as.getD i 0)>.tup [.int (P i).1,.ref u]/\H u>.lst (nV (P i).2)
theorem FB.keep{G:N8}{P:qc}(h:FB G D H as P)(d:∀b ys,H b>.tup ys->H' b>.tup ys)(g:∀b ys,b≠G->b≠D->H b>.lst ys->H' b>.lst ys):FB G D H' as P:=λi hi=>by
 let⟨u,c,a,e,f⟩:=h i hi
 show⟨u,c,a,d _ _ e,g _ _ c a f⟩
inductive Er (vs:-V) (H:Hp) (Q:VK) (E:XK):Prop
 |mk (F l:N8) (ds:-N8) (ts:-(-(Nat×V))) (fs:eh) (as:-N8) (ls:-Lk) (L R C:Int) (M:Nat) (_:vs=[.ref F,.ref l]) (_:gP L R C) (_:M<=128) (_:Aq R C M H F ds ts fs) (_:↑ds<=6) (_:H l>.lst (as.map V.ref)) (_:bH H as (ls.map tr)) (_:Bj ↑ds ls) (_:Gu id ls) (_:↑ls<=60) (_:∀(H':Hp) (l':N8) (bs:-N8),aw H H'->H' l'>.lst (bs.map V.ref)->Nb (gN R C M fs H') bs ((gh (λi=>(0,[i])) ls).map f6)->↑bs<=200->Q (.ref l') H')
structure Cr (x:Nh):Prop where
 as:x.cps.all (· <128)=true
 lo:1<=↑x
 hi:↑x<=12
 fst:∃c r,cp x=c::r/\c∈cp (Nh.ofString "abcdefghijklmnopqrstuvwxyz")
 all:∀c∈cp x,c∈cp (Nh.ofString "abcdefghijklmnopqrstuvwxyz")\/c∈cp (Nh.ofString "0123456789")
theorem HS:Cr (Nh.ofString "n"):=⟨by decide+kernel,by decide+kernel,by decide+kernel,⟨110,[],by decide+kernel,by decide+kernel⟩,by decide+kernel⟩
inductive y9 (vs:-V) (H:Hp) (Q:VK) (E:XK):Prop
 |mk (x:Nh) (_:vs=[.str x]) (_:Cr x) (_:∀H',aw H H'->Q (.bl true) H')
inductive qk (vs:-V) (H:Hp) (Q:VK) (E:XK):Prop
 |mk (l:N8) (as:-N8) (cs:-T3) (_:vs=[.ref l]) (_:H l>.lst (as.map V.ref)) (_:bH H as cs) (_:↑cs<=18) (_:(cs.map dY).Nodup) (_:∀H',aw H H'->Q .non H')
inductive oY (cN:N8) (vs:-V) (H:Hp) (Q:VK) (E:XK):Prop
 |mk (p dx:N8) (x:Nh) (h r:Int) (_:vs=[.ref p,.str x,.int h,.int r]) (_:H p>.ins cN dx []) (_:Cr x) (_:0<=h) (_:h<=2) (_:0<=r) (_:r<=3) (_:∀H' fs,fM H H' p->H' p>.ins cN dx fs->↑fs<=3->Q .non H')
inductive oN (cN:N8) (vs:-V) (H:Hp) (Q:VK) (E:XK):Prop
 |mk (p dx l:N8) (as:-N8) (cs:-T3) (x:Nh) (h r:Int) (_:vs=[.ref p,.str x,.ref l,.int h,.int r]) (_:H p>.ins cN dx []) (_:H l>.lst (as.map V.ref)) (_:bH H as cs) (_:(cs.map dY).Nodup) (_:2<=↑as) (_:↑as<=6) (_:Cr x) (_:0<=h) (_:h<=2) (_:0<=r) (_:r<=3) (_:∀H' fs t,fM H H' p->H' p>.ins cN dx fs->fs.lookup ("pins" :Nh)>.ref t->H' t>.tup (as.map V.ref)->Q .non H')
inductive AC (cF:N8) (vs:-V) (H:Hp) (Q:VK) (E:XK):Prop
 |mk (p pr vi rd td l:N8) (g:Gd) (as:-N8) (ls:-E2) (_:vs=[.ref p,.ref l]) (_:FA cF H p pr vi rd td g) (_:dj g) (_:H l>.lst (as.map V.ref)) (_:eB H as ls) (_:↑ls<=1000) (_:(∀e∈ls,l_ g e)) (_:∀H',aw H H'->Q (.int (ls.map (EX g)).sum) H')
inductive rE (cT:N8) (vs:-V) (H:Hp) (Q:VK) (E:XK):Prop
 |mk (p dx w h:N8) (ws:-V) (x:Int) (as:-N8) (X:-((Nat->Prop)×Int×Int)) (fs:eh) (L R C:Int) (M:Nat) (_:vs=[.ref p,.ref w,.int x,.ref h]) (_:H p>.ins cT dx []) (_:H w>.lst ws) (_:↑ws<=1000) (_:gP L R C) (_:(M:Int)=L*R*C) (_:H h>.lst (as.map V.ref)) (_:Nb (gN R C M fs H) as X) (_:↑as<=1000) (_:∀(H':Hp) (h':N8) (bs:-N8) (gs:-(Nh×V)),fM H H' p->H' p>.ins cT dx gs->gs.lookup ("price" :Nh)>.int x->gs.lookup ("hills" :Nh)>.ref h'->H' h'>.lst (bs.map V.ref)->Nb (gN R C M fs H') bs X->Q .non H')
inductive yk (K:JI) (cF cN cT:N8) (vs:-V) (H:Hp) (Q:VK) (E:XK):Prop
 |mk (p pr vi rd td e nt t dx:N8) (nf:-(Nh×V)) (g:Gd) (F:-(Nat×V)) (ns:-Nat) (fs:eh) (ok:dj g) (_:vs=[.ref p,.ref e,.ref nt]) (_:FA cF H p pr vi rd td g) (_:g.M<=32) (_:H e>.dT (bg g.R g.C F)) (_:Tb g.M F) (_:e≠rd) (_:e≠td) (_:Ia K H) (_:H nt>.ins cN dx nf) (_:nf.lookup ("pins" :Nh)>.ref t) (_:I0 H t (ns.map (sN g.R g.C))) (_:2<=ns.length) (_:ns.length<=6) (_:(∀n∈ns,n<g.M/\(aE F n).isSome=true)) (_:(∀i,i<ns.length->Dj.Fix (gG g F [ns.getD i 0] ok) (fs i))) (_:(∀j,j<ns.length->(fs 0 (ns.getD j 0)).isSome=true)) (_:∀(H':Hp) (q dy h:N8) (gs:-(Nh×V)) (x:Int) (cs:-N8) (ss:-Lk),Jb K H H'->H' q>.ins cT dy gs->gs.lookup ("price" :Nh)>.int x->gs.lookup ("hills" :Nh)>.ref h->H' h>.lst (cs.map V.ref)->Nb (gN g.R g.C g.M fs H') cs ((gh (λi=>(0,[i])) (kr id ss)).map f6)->ss.Perm (gK ns fs ns.length)->Sd (ss.map tr)->x<=eX (kr id ss)->Q (.ref q) H')
inductive vL (K:JI) (vs:-V) (H:Hp) (Q:VK) (E:XK):Prop
 |mk (a:N8) (ns:-Int) (_:vs=[.ref a]) (_:aN K H a (ns.map V.int)) (_:ns.length<=63) (_:H (fG K "arcs_in").2>(.tbl #[])) (_:∀H',Q (.bl true) H')
section
variable {P:Ni} {w:Nr} {K:JI} {mg:Nh->Option N7} {O_:Ng}
set_option maxHeartbeats 1000000
theorem Ii(T:Txt K mg cThing Og Od Oe Of Oc cMS)(f c b:N8)(A:Nu)(a:-O0)(s:N_)(H:Hp)(d:aT 0 (A.deeper (jS qh jV [("leads",c)] (~~~s) f (.ref b)))):
  PE (vU P w K mg O_ ["spot"] [("leads",c)] qh jV f (.ref b) A a s H) kW (FC K):=
 oF dh (by rfl) T.list_ pB (aO (df K7 K_ Lv (fh d) (aq 1) (aO (aq 0) (aO (bL cW) cW))) cW)
theorem De(T:Txt X.K X.mg cThing Og Od Oe Of Oc cMS)(d:aT 1 X.A)(f:N8):cy X (.ref f) (EY X.mg X.K f):=
 wo (k:=0) (name:= "<lambda>") (qual:=qh) (params:=pM) (body:=kW) (scope:=jV) (pm:=(X.mg "__name__").getD .none) (te:=FC X.K) (y:= "leads") (ps:=["spot"]) d Ie (λs g c b e h=>IB s g c b _ e h) (λf c b A a s H d=>Ii T f c b A a s H d) f
structure GJ (H0 H:Hp) (ap ar ah at_:N8) (xs:-Int) (R C:Int) (M:Nat) (ps:-Nat) (i j:Nat) (rs ss:-Nat) (ts:-(Nat×V)):Prop where
 s:aw H0 H
 p:H ap>.lst (xs.map V.int)
 ro:jg H ar (rs.map (sN R C))
 sh:jg H ah (ss.map (sN R C))
 td:H at_>.dT (bg R C ts)
 rr:∀n∈rs,n<M/\n∉ps
 sr:∀n∈ss,n∉ps
 rl:↑rs<=i
 sl:↑ss<=j
 tb:Tb M ts
 tv:TV ts
 f1:H0 ar=none
 f2:H0 ah=none
 f3:H0 at_=none
 n1:ar≠ah
 n2:ap≠ar
 n3:ap≠ah
section
variable {H0 H:Hp} {p ro sh td:N8} {xs:-Int} {L R C:Int} {M:Nat} {ps:-Nat} {i j:Nat} {rs ss:-Nat} {ts:-(Nat×V)}
theorem GJ.grow(J:GJ H0 H p ro sh td xs R C M ps i j rs ss ts)(s:aw H H'):GJ H0 H' p ro sh td xs R C M ps i j rs ss ts:=⟨J.s.trans s,s _ _ J.p,J.ro.same s,J.sh.same s,s _ _ J.td,J.rr,J.sr,J.rl,J.sl,J.tb,J.tv,J.f1,J.f2,J.f3,J.n1,J.n2,J.n3⟩
theorem GJ.le(J:GJ H0 H p ro sh td xs R C M ps i j rs ss ts)(h:i<=i')(h':j<=j'):GJ H0 H p ro sh td xs R C M ps i' j' rs ss ts:=⟨J.s,J.p,J.ro,J.sh,J.td,J.rr,J.sr,J1 J.rl h,J1 J.sl h',J.tb,J.tv,J.f1,J.f2,J.f3,J.n1,J.n2,J.n3⟩
theorem GJ.rock(J:GJ H0 H p ro sh td xs R C M ps i j rs ss ts)(a:H ro>.lst (as.map V.ref))(c:bH H as (rs.map (sN R C)))(ht:H t>.tup ((sN R C n).map V.int))(d:n<M)(b:n∉ps):GJ H0 (Ob H ro (.lst (as.map V.ref++[.ref t]))) p ro sh td xs R C M ps (i+1) j (rs++[n]) ss ts:=by
 let⟨bs,e,b2⟩:=J.sh
 show⟨aP J.s J.f1,aj J.n2<|J.p,⟨as++[t],by rw[ag,JM];rfl,?_⟩,⟨bs,aj (JH J.n1)<|e,aC b2 (aV a)⟩,cD a _ _ J.td,λm hm=>?_,J.sr,JQ<|LL J.rl,J.sl,J.tb,J.tv,J.f1,J.f2,J.f3,J.n1,J.n2,J.n3⟩
 ·rw[JM]
  show eV (aC c (aV a)) (.cons (aV a _ _ ht) .nil)
 ·rcases J3.mp hm with h|h
  ·show J.rr m h
  ·rw[JJ.mp h];show⟨d,b⟩
theorem GJ.shut(J:GJ H0 H p ro sh td xs R C M ps i j rs ss ts)(a:H sh>.lst (as.map V.ref))(c:bH H as (ss.map (sN R C)))(ht:H t>.tup ((sN R C n).map V.int))(b:n∉ps):GJ H0 (Ob H sh (.lst (as.map V.ref++[.ref t]))) p ro sh td xs R C M ps i (j+1) rs (ss++[n]) ts:=by
 let⟨bs,d,b2⟩:=J.ro
 show⟨aP J.s J.f2,aj J.n3<|J.p,⟨bs,aj J.n1<|d,aC b2 (aV a)⟩,⟨as++[t],by rw[ag,JM];rfl,?_⟩,cD a _ _ J.td,J.rr,λm hm=>?_,J.rl,JQ<|LL J.sl,J.tb,J.tv,J.f1,J.f2,J.f3,J.n1,J.n2,J.n3⟩
 ·rw[JM]
  show eV (aC c (aV a)) (.cons (aV a _ _ ht) .nil)
 ·rcases J3.mp hm with h|h
  ·show J.sr m h
  ·rw[JJ.mp h];show b
theorem GJ.toll(J:GJ H0 H p ro sh td xs R C M ps i j rs ss ts)(S:gP L R C)(ht:H t>.tup ((sN R C n).map V.int))(r:n<M)(u:M<=32)(q:0<=v)(l:v<=1000000000000):∃H',fg H td (.ref t) (.int v) H'/\GJ H0 H' p ro sh td xs R C M ps i j rs ss (bC ts n (.int v)):=by
 let few:=J.tb.few
 let a:N9=2^24:=rfl
 show⟨_,fg.t (k:=iK (sN R C n)) J.td (f9 ht) (by rw[bT];lia),?_⟩
 let d:∀b ys,H b>.tup ys->Ob H td (.dT (bC (bg R C ts) (iK (sN R C n)) (.int v))) b>.tup ys:=λb ys e=>by rw[aj (bz e J.td (λz=>by cases z))];show e
 let c:∀b ys,H b>.lst ys->Ob H td (.dT (bC (bg R C ts) (iK (sN R C n)) (.int v))) b>.lst ys:=λb ys e=>by rw[aj (bz e J.td (λz=>by cases z))];show e
 let⟨as,g,o⟩:=J.ro
 let⟨bs,m,b2⟩:=J.sh
 show⟨aP J.s J.f3,c _ _ J.p,⟨as,c _ _ g,aC o d⟩,⟨bs,c _ _ m,aC b2 d⟩,by rw[ag,eS S],J.rr,J.sr,J.rl,J.sl,J.tb.put r,λx f=>?_,J.f1,J.f2,J.f3,J.n1,J.n2,J.n3⟩
 rcases Dd f with h|h
 ·show J.tv x h
 ·rw[h];show⟨v,Z,q,l⟩
end
theorem wO {p:Nat->Bool}(h0:p 0=a)(h1:p 1=b)(d:p 2=c):([0,1,2]:-Nat).filter p=(if a then [0] else [])++((if b then [1] else [])++(if c then [2] else [])):=by
 simp only[List.filter_cons,Mr,h0,h1,d]
 cases a<;>cases b<;>cases c<;>rfl
theorem nq {a b:Int}(h:a≠b):(!decide (a=b))=true:=by rw[N5 h];rfl
theorem yq (a:Int):(!decide (a=a))=false:=by rw[N3 Z];rfl
noncomputable def CS (x y w:Int):-T3:=[[x - 1,y,w],[x+1,y,w],[x,y - 1,w],[x,y+1,w],[x,y,w - 1],[x,y,w+1]]
theorem vt {x y w:Int}{d:T3}:d∈CS x y w↔d∈mU x y w:=by
 unfold CS mU
 simp only[JO,KD,or_false]
 constructor<;>rintro(h|h|h|h|h|h)<;>simp[h]
noncomputable def res (g:Gd) (ss:-Nat) (c d:T3):Option (T3×Int):=if (km g d&&(ye g ss c&&ye g ss d))=true then some (d,cV g c d) else none
noncomputable def AU (g:Gd) (ss:-Nat) (x y w:Int) (m:Nat):-(T3×Int):=((CS x y w).take m).filterMap (res g ss [x,y,w])
theorem uW {g:Gd}{ss:-Nat}{x y w:Int}{m:Nat}:↑(AU g ss x y w m)<=m:=by
 have:=List.length_filterMap_le (res g ss [x,y,w]) ((CS x y w).take m)
 rw[KH] at this
 unfold AU
 lia
theorem qH {g:Gd}{ss:-Nat}{x y w:Int}{m:Nat}{d:T3}(h:(CS x y w)[m]?>d):AU g ss x y w (m+1)=AU g ss x y w m++(res g ss [x,y,w] d).toList:=by
 unfold AU
 rw[bp h,MJ]
 have:[d].filterMap (res g ss [x,y,w])=(res g ss [x,y,w] d).toList:=by
  simp only[Lh,MK]
  cases res g ss [x,y,w] d<;>rfl
 rw[this]
theorem uy(S:gP g.L g.R g.C){ss:-Nat}{n:Nat}:ye g ss (sN g.R g.C n)=true↔Es g (sN g.R g.C n)=false/\n∉ss:=by
 unfold ye Es
 rw[L1,Bool.or_eq_false_iff]
 show and_congr_right λ_=>?_
 rw[decide_eq_false_iff_not,pb S]
theorem BZ(ok:dj g){ss:-Nat}{n:Nat}(E:n<g.M){x y w:Int}(e:sN g.R g.C n=[x,y,w])(u:T3×Int):u∈AU g ss x y w 6↔u∈gM g (j9 g.M ss) (sN g.R g.C n):=by
 let S:=ok.S
 let a:∀m,ve g.R g.C (j9 g.M ss) (sN g.R g.C m)=(decide (m<g.M)&&!decide (m∈ss)):=λm=>by rw[pV S,kL]
 let hr:mB (sN g.R g.C n)=mU x y w:=by rw[e];rfl
 let H:(CS x y w).take 6=CS x y w:=rfl
 unfold AU
 rw[H,Lg]
 constructor
 ·rintro⟨d,hd,h⟩
  unfold res at h
  split at h
  ·rename_i c
   rw[Kd,Kd,<-e] at c
   let⟨k,I,p⟩:=c
   injection h with h
   subst h
   obtain⟨j,i,f,rfl⟩:∃j i f,d=[j,i,f]:=by
    unfold CS at hd
    simp only[JO,KD,or_false] at hd
    rcases hd with h|h|h|h|h|h<;>show⟨_,_,_,h⟩
   let⟨l,z⟩:=uE S (N4 k:iA g.L g.R g.C j i f)
   let N:=ok.M
   generalize jA g.R g.C [j,i,f]=m at l z
   rw[<-l] at k p hd|-
   let⟨s,D⟩:=(uy S).mp I
   let⟨v,b2⟩:=(uy S).mp p
   unfold gM lD fD
   rw[N1 (by rw[a,N3 E,N5 D];rfl),N0 (by rw[s];decide),KZ]
   show⟨JL.mpr ⟨_,KZ.mpr ⟨hr<|vt.mp hd,?_⟩,by rw[e]⟩,?_⟩
   ·unfold nj;rw[k,v];rfl
   ·change ve g.R g.C (j9 g.M ss) (sN g.R g.C m)=true
    rw[a,N3 (),N5 b2];rfl
  ·cases h
 ·intro h
  let o:ve g.R g.C (j9 g.M ss) (sN g.R g.C n)=true:=by
   unfold gM at h
   split at h
   ·assumption
   ·cases h
  let⟨d,J,q,F,r,m,K,A,_⟩:=lH ok h
  let⟨B,b,_,_⟩:=qt h
  subst A
  rw[q] at b
  let b:nj g (sN g.R g.C m)=true:=b
  unfold nj at b
  rw[Kd,L1] at b
  rw[a,Kd,L1,decide_eq_false_iff_not] at o r
  show⟨sN g.R g.C m,vt.mpr (by rw[<-hr];show J),?_⟩
  unfold res
  rw[<-e,N1 (by rw[F,(uy S).mpr ⟨B,o.2⟩,(uy S).mpr ⟨b.2,r.2⟩];rfl),q]
theorem xJ {a:Type} [DecidableEq a]{xs ys:-a}(d:xs.Nodup)(h:∀x∈xs,x∈ys)(l:↑ys<=↑xs){y:a}(b:y∈ys):y∈xs:=by
 by_cases c:y∈xs
 ·show c
 ·have:=dB (xs:=y::xs) (ys:=ys) (Kj.mpr ⟨c,d⟩) λz f=>(JO.mp f).elim (λe=>e▸b) (h z)
  rw[J9] at this
  lia
theorem cS.key {a:-(Nat×V)}(h:cS a f){m:Nat}:m∈a.map (·.1)↔∃p,f m>p:=by
 rw[<-fj,h m]
 cases f m with
 |none=>simp
 |some p=>simp
theorem cS.put {a:-(Nat×V)}(h:cS a f)(m:Nat)(x:Int):cS (bC a m (.int x)) (Dj.put f m x):=λk=>by
 rw[eI]
 by_cases c:k=m
 ·rw[N1 c,c,Dj.put_eq];rfl
 ·rw[N0 c,Dj.put_ne c];show h k
noncomputable def D1 (R C:Int) (a b:-(Nat×V)):Bool:=↑(bg R C a)==↑(bg R C b)&&(bg R C a).all λp=>decide (aE (bg R C b) p.1>p.2)
theorem pC{ps:-(Nat×V)}{p:-cP×V}(h:p∈bg R C ps):∃k v,(k,v)∈ps/\p=(iK (sN R C k),v):=by
 unfold bg at h
 let⟨q,hq,e⟩:=JL.mp h
 show⟨q.1,q.2,hq,e.symm⟩
section
variable {L R C:Int} {M:Nat} {Fr Kp:-(Nat×V)} {f f':Dj.Far}
theorem Bo (S:gP L R C)(m:Tb M Fr)(l:Tb M Kp)(d:cS Fr f')(b:cS Kp f)(lo:Dj.Lower f f')(e:↑(bg R C Fr)=↑(bg R C Kp)):∀p∈bg R C Fr,∃i j:Int,p.2=.int i/\aE (bg R C Kp) p.1>.int j:=λp hp=>by
 rw[bT,bT] at e
 let⟨k,v,c,rfl⟩:=pC hp
 let⟨i,rfl,_⟩:=d.int m.nd c
 have:k∈Kp.map (·.1):=xJ l.nd (λx g=>by
  let⟨q,hq⟩:=b.key.mp g
  let⟨h,a,_⟩:=lo x q hq
  show d.key.mpr ⟨h,a⟩) (by rw[JF,JF];lia) (Lu (f:=(·.1)) c)
 let⟨j,n⟩:=b.key.mp this
 show⟨i,j,Z,by change aE (bg R C Kp) (iK (sN R C k))=_;rw[bP S,b k,n];rfl⟩
theorem Az (S:gP L R C)(i:Tb M Fr)(d:cS Fr f')(b:cS Kp f)(lo:Dj.Lower f f')(h:D1 R C Fr Kp=true):f'=f:=by
 unfold D1 at h
 rw[Kd,LD] at h
 let up:∀m q,f' m>q->f m>q:=λm q e=>by
  let hm:=d.mem e
  have:=N4 (h.2 (iK (sN R C m),.int q) (JL.mpr ⟨_,hm,Z⟩))
  let this:aE (bg R C Kp) (iK (sN R C m))>.int q:=this
  rw[bP S,b m] at this
  let⟨g,c,a⟩:=Kc.mp this
  injection a with a
  rw[c,a]
 funext m
 cases e:f' m with
 |some q=>show(up m q e).symm
 |none=>
  cases e':f m with
  |none=>rfl
  |some q=>let⟨g,h1,_⟩:=lo m q e';rw[e] at h1;cases h1
theorem E1 (S:gP L R C)(c:Tb M Fr)(j:Tb M Kp)(b:cS Fr f)(a:cS Kp f):D1 R C Fr Kp=true:=by
 let sub:∀{A B:-(Nat×V)},Tb M A->cS A f->cS B f->↑A<=↑B:=fun{A B} ta e h=>by
  have:=dB (ys:=B.map (·.1)) ta.nd λx d=>h.key.mpr (e.key.mp d)
  rwa [JF,JF] at this
 unfold D1
 rw[Kd,LD,bT,bT]
 show⟨by let h1:=sub c b a;let h2:=sub j a b;simp;lia,λp hp=>?_⟩
 let⟨k,v,g,rfl⟩:=pC hp
 let⟨i,rfl,hi⟩:=b.int c.nd g
 show N3 ?_
 change aE (bg R C Kp) (iK (sN R C k))>.int i
 rw[bP S,a k,hi];rfl
end
theorem xX (as:-Ar)(i:Nat)(a:Ar)(h:as[i]?>a)(f:Dj.Far):Dj.pass (as.take (i+1)) f=Dj.rlx (Dj.pass (as.take i) f) a:=by
 unfold Dj.pass
 rw[bp h,List.foldl_append];rfl
theorem qW (as:-Ar)(f:Dj.Far):∀i,Dj.Lower f (Dj.goes as f i)
 |0=>Dj.Lower.refl
 |i+1=>(qW as f i).trans (Dj.pass_low as _)
theorem rN {g:Dj.G}{as:-Ar}(h:∀m p,f m>p->Dj.Pth g m p)(b:∀a∈as,(a.2.1,a.2.2)∈g.rows a.1):∀i m p,Dj.goes as f i m>p->Dj.Pth g m p
 |0=>h
 |i+1=>Dj.pass_pth (rN h b i) b
theorem eE {as:-N8}{i:Nat}{a:N8}(h:as[i]?>a):jT (as.map V.ref) (i:Int)>.ref a:=cE (by rw[JV,h];rfl)
theorem ke {as:-N8}{i:Nat}(h:i<↑as):as[i]?>as.getD i 0:=by rw[JS,JU h];rfl
theorem rh{ns:-Nat}(a:i<ns.length)(h:(ns.map (sN R C))[i]?>c):c=sN R C (ns.getD i 0):=by
 rw[JV,JU a] at h
 rw[JS,JU a]
 show(Option.some.inj h).symm
theorem Gn(k:Ev ta σ H (.int a))(h:Ev tb σ H (.int b))(j:∀H',aw H H'->Ev tc σ H' (.int c))(q:∀H',aw H H'->Q (.int (min (max a b) c)) H'):
  zf (λxs H Q=>∃(p:N8) (ns:-Int),xs=[.ref p]/\aN K H p (ns.map V.int)/\0<ns.length/\∀M:Int,M∈ns->(∀a∈ns,M<=a)->Q (.int M) H) (cz (pO (cz (zf (λxs H Q=>∃(p:N8) (ns:-Int),xs=[.ref p]/\aN K H p (ns.map V.int)/\0<ns.length/\∀M:Int,M∈ns->(∀a∈ns,a<=M)->Q (.int M) H) (cz (pO (cz ta (cz tb e8))) e8)) (cz tc e8))) e8) σ H Q:=
 k _ (h _ ⟨by change 2<=N9;decide,λp g=>⟨p,[a,b],Z,aN.of ag,Nat.zero_lt_succ _,λm hm e=>j _ ((aw.refl H).upd g) _ ⟨by change 2<=N9;decide,λp2 d=>⟨p2,[m,c],Z,aN.of ag,Nat.zero_lt_succ _,λM i f=>by
  let h1:=e a (by simp)
  let h2:=e b (by simp)
  let n:=f m (by simp)
  let l:=f c (by simp)
  have:M=min (max a b) c:=by
   simp only[JO,KD,or_false] at hm i
   omega
  rw[this]
  show q _ (((aw.refl H).upd g).upd d)⟩⟩⟩⟩)
theorem Bk.cong {fs:eh}{S c:Nat->Prop}(a:Bk fs S b e h)(d:∀k,S k↔c k):Bk fs c b e h:=⟨λk m p s=>a.dn k m p ((d k).mpr s),λm x f=>by
 let⟨k,p,s,r⟩:=a.up m x f
 show⟨k,p,(d k).mp s,r⟩⟩
theorem Ab(h:min (max (2*p) b) e - b<e - b):sV b e p>(min (max (2*p) b) e - b):=by
 unfold sV
 rw[N1 ()]
 congr 1
 split<;>lia
theorem zt(h:¬min (max (2*p) b) e - b<e - b):sV b e p=none:=by
 unfold sV
 rw[N0 (by omega)]
noncomputable def Bh (n:Nat) (rep:Nat->Nat):-V:=nV ((List.range n).map rep)
noncomputable def mX (n:Nat) (a:Nat->Int):-V:=(List.range n).map λk=>V.int (a k)
theorem ph{rep:Nat->Nat}(h:i<n):jT (Bh n rep) (i:Int)>.int (rep i:Nat):=cE (DG h)
theorem EC{a:Nat->Int}(h:i<n):jT (mX n a) (i:Int)>.int (a i):=cE (by unfold mX;simp[h])
theorem CA{a:Nat->Int}:↑(mX n a)=n:=by unfold mX;simp
theorem p7{rep:Nat->Nat}:↑(Bh n rep)=n:=Fi
theorem CZ{a:Nat->Int}:(mX n a).set i (.int x)=mX n (yb a i x):=by
 unfold mX
 show Mi λj=>?_
 rw[List.getElem?_set,JV,JV]
 by_cases c:i=j
 ·subst c
  by_cases h:i<n
  ·simp[h,yb]
  ·simp[h]
 ·rw[N0 c]
  by_cases h:j<n
  ·simp[h,yb,JH c]
  ·simp[h]
theorem Ak (n:Nat):(List.replicate n [V.int 0]).flatten=mX n λ_=>0:=by
 unfold mX
 induction n with
 |zero=>rfl
 |succ n ih=>
  rw[L_,JM,<-ih,List.replicate_succ',List.flatten_append];rfl
theorem tQ{rep:Nat->Nat}(h:i<n):(List.range (i+1)).filter (λk=>decide (rep k=l))=(List.range i).filter (λk=>decide (rep k=l))++(if rep i=l then [i] else []):=by
 rw[L_,Le]
 congr 1
 by_cases c:rep i=l<;>simp[c]
noncomputable def xS (rep:Nat->Nat) (a:Nat->Int) (p:Int) (l:Nat):-((Nat->Prop)×Int×Int):=if a l<p then [((λk=>rep k=l),a l,p)] else []
noncomputable def wB (rep:Nat->Nat) (a:Nat->Int) (c:Lk):Nat->-((Nat->Prop)×Int×Int)
 |0=>[]
 |1=>xS rep a c.1 (rep c.2.1)
 |_=>xS rep a c.1 (rep c.2.1)++xS rep a c.1 (rep c.2.2)
theorem xv {rep:Nat->Nat}{a:Nat->Int}{c:Lk}{r:-Lk}(h:rep c.2.1≠rep c.2.2):kB rep a (c::r)=wB rep a c 2++kB (bO rep c.2.1 c.2.2) (yb a (rep c.2.1) c.1) r:=by
 change(if rep c.2.1=rep c.2.2 then _ else _)=_
 rw[N0 h]
 change xS rep a c.1 (rep c.2.1)++(xS rep a c.1 (rep c.2.2)++_)=(xS rep a c.1 (rep c.2.1)++xS rep a c.1 (rep c.2.2))++_
 rw[Kl]
structure DJ (R C:Int) (M n:Nat) (fs:eh) (ss:-Lk) (H0 H:Hp) (ab ah alb:N8) (i:Nat) (rep:Nat->Nat) (bn:Nat->Int) (as:-N8) (X:-((Nat->Prop)×Int×Int)) (w0:Int):Prop where
 s:aw H0 H
 lb:H alb>.lst (Bh n rep)
 bo:H ab>.lst (mX n bn)
 hl:H ah>.lst (as.map V.ref)
 hs:Nb (gN R C M fs H) as (X.map (wR n))
 ht:X++kB rep bn (ss.drop i)=kB id (λ_=>0) ss
 wh:w0+eX (kr rep (ss.drop i))=eX (kr id ss)
 lt:∀k,k<n->rep k<n
 al:↑as<=2*i
noncomputable def G5 (P:qc) (p:Int) (o w:Nat):Nat->-(-Nat×Int×Int)
 |0=>[]
 |1=>qb P p o
 |_=>qb P p o++qb P p w
theorem GQ{rep:Nat->Nat}{g:Nat->Int}{P:qc}{c:Lk}(O:mH n rep g P)(nd:∀i,i<n->(P i).2.Nodup)(h1:c.2.1<n)(a:c.2.2<n)(f:rep c.2.1≠rep c.2.2):(jn P c).Nodup:=by
 unfold jn
 show Lc.mpr ⟨nd _ h1,nd _ a,λx d y b e=>?_⟩
 subst e
 show f (((O.ps _ h1 x).mp d).2.symm.trans ((O.ps _ a x).mp b).2)
noncomputable def DP (P:qc) (x:Int) (ps:-Nat) (j:Nat):qc:=λi=>if i∈ps.take j then (x,ps) else P i
theorem Fs.pick {R C:Int}{H d:Hp}{F E:N8}{c:-N8}{f:-(-(Nat×V))}{ps:-Nat}(h:Fs R C H F c f)(s:aw H d)(g:d E>.lst (ps.map λk=>V.ref (c.getD k 0)))(nd:ps.Nodup)(lt:∀k∈ps,k<↑c):Fs R C d E (ps.map λk=>c.getD k 0) (ps.map λk=>f.getD k []):=by
 show⟨by rw[g,Ki];rfl,by rw[JF,JF],?_,λi hi=>?_⟩
 ·show k_ nd λa ha b hb e=>?_
  let h1:=lt a ha
  let h2:=lt b hb
  rw[JS,JS,JU h1,JU h2] at e
  show(List.getElem_inj h.nd).mp e
 ·rw[JF] at hi
  let j:=lt _ (LK hi)
  have:=s _ _ (h.ats ps[i] j)
  simpa[JS,hi] using this
structure HJ (R C:Int) (M n:Nat) (fs:eh) (ls:-Lk) (H0 H:Hp) (G D:N8) (i:Nat) (rep:Nat->Nat) (bn:Nat->Int) (P:qc) (as bs:-N8) (X:-(-Nat×Int×Int)):Prop where
 s:aw H0 H
 d:H D>.lst (as.map V.ref)
 al:↑as=n
 pt:FB G D H as P
 g:H G>.lst (bs.map V.ref)
 hs:Nb (gN R C M fs H) bs (X.map f6)
 ht:X++gh P (ls.drop i)=gh (λi=>(0,[i])) ls
 ok:mH n rep bn P
 nd:∀i,i<n->(P i).2.Nodup
 jk:Gu rep (ls.drop i)
 bl:↑bs<=2*i
theorem HI:mn xs (some 1) none=xs.drop 1:=by
 unfold mn
 rw[HT.sIx_none,show(some (1:Int))>((1:Nat):Int) from Z,HT.sIx_nat,Mn (by rw[List.length_drop];lia)]
 cases xs with
 |nil=>rfl
 |cons a r=>rw[Nat.min_eq_left (by simp)]
theorem xQ {b d:Type}{R:b->d->Prop}{as:-b}{cs:-d}(h:↑as=↑cs)(f:∀(j:Nat) a c,as[j]?>a->cs[j]?>c->R a c):Nb R as cs:=by
 induction as generalizing cs with
 |nil=>
  cases cs with
  |nil=>show .nil
  |cons c cs=>cases h
 |cons a as ih=>
  cases cs with
  |nil=>cases h
  |cons c cs=>show .cons (f 0 a c Z Z) (ih (Nat.succ.inj h) λj g e h1 h2=>f (j+1) g e h1 h2)
theorem Cu {a:Type}{l:-a}{e:a×a}(h:(hops l)[j]?>e):l[j]?>e.1/\l[j+1]?>e.2:=by
 rw[jf,List.getElem?_zip_eq_some] at h
 rw[List.getElem?_tail] at h
 show h
theorem zA(d:bH H ws cs)(s:aw H H')(h:↑zs=min ↑(ws.map V.ref) ↑((ws.map V.ref).drop 1))(hz:∀(j:Nat) (a:N8),zs[j]?>a->∃x y,(ws.map V.ref)[j]?>x/\((ws.map V.ref).drop 1)[j]?>y/\H' a>.tup [x,y]):eB H' zs (hops cs):=by
 let len:↑ws=↑cs:=Nb.length d
 show xQ ?_ λj a e ha o=>?_
 ·rw[h,jf,List.length_zip,JF,List.length_drop,JF,List.length_tail,len]
 ·let⟨x,y,h1,h2,n⟩:=hz j a ha
  let⟨m,i⟩:=Cu o
  let⟨k,c,rfl⟩:=b_ h1
  rw[List.getElem?_drop,Nat.add_comm] at h2
  let⟨b2,b,rfl⟩:=b_ h2
  let⟨q,f,p⟩:=cn d c
  let⟨r,g,l⟩:=cn d b
  rw[m] at f
  rw[i] at g
  cases f
  cases g
  show⟨k,b2,n,s _ _ p,s _ _ l⟩
structure Gv (g:Gd) (F:-(Nat×V)) (ok:dj g) (H:Hp) (u d:N8) (tb:-(Nat×V)) (n:Nat) (f:Dj.Far):Prop where
 ex:∃(ba:N8) (B:-(Nat×V)) (back:Dj.Back),H u>.tup [.ref d,.ref ba]/\H d>.dT (bg g.R g.C tb)/\H ba>.dT (bg g.R g.C B)/\Tb g.M tb/\cS tb f/\lS g.R g.C H B back/\Dj.Told (gG g F [n] ok) f back
theorem Gv.keep{F:-(Nat×V)}{ok:dj g}{e:-(Nat×V)}(h:Gv g F ok H u d e n f)(c:TK H H')(i:∀b ys,H b>.dT ys->H' b>.dT ys):Gv g F ok H' u d e n f:=by
 let⟨ba,B,a,p,o,q,k,j,m,l⟩:=h.ex
 show⟨ba,B,a,c _ _ p,i _ _ o,i _ _ q,k,j,m.kept c,l⟩
structure SJ (g:Gd) (F:-(Nat×V)) (ok:dj g) (ns:-Nat) (ff:eh) (H:Hp) (i:Nat) (us ds:-N8) (ts:-(-(Nat×V))):Prop where
 ul:↑us=i
 dl:↑ds=i
 tl:↑ts=i
 nd:ds.Nodup
 sp:∀j,j<i->Gv g F ok H (us.getD j 0) (ds.getD j 0) (ts.getD j []) (ns.getD j 0) (ff j)
theorem SJ.keep{F:-(Nat×V)}{ok:dj g}{ns:-Nat}{a:eh}{ts:-(-(Nat×V))}(h:SJ g F ok ns a H i us ds ts)(c:TK H H')(d:∀b ys,H b>.dT ys->H' b>.dT ys):SJ g F ok ns a H' i us ds ts:=⟨h.ul,h.dl,h.tl,h.nd,λj e=>(h.sp j e).keep c d⟩
theorem fB {a:Type}{l:-a}{x d:a}(b:↑l=i):(l++[x]).getD j d=if j<i then l.getD j d else if j=i then x else d:=by
 rw[JS]
 split
 ·rw[K3 (),JS]
 ·split
  ·rename_i h
   subst h
   rw[<-b,Ll (JG _),Nat.sub_self];rfl
  ·rw[Mj (by rw[JQ];change ↑l+1<=j;lia)];rfl
theorem SJ.snoc{F:-(Nat×V)}{ok:dj g}{ns:-Nat}{f:eh}{k:-(-(Nat×V))}{l:-(Nat×V)}(h:SJ g F ok ns f H i us ds k)(nd:d∉ds)(x:Gv g F ok H u d l (ns.getD i 0) (f i)):SJ g F ok ns f H (i+1) (us++[u]) (ds++[d]) (k++[l]):=by
 show⟨by rw[JQ,h.ul];rfl,by rw[JQ,h.dl];rfl,by rw[JQ,h.tl];rfl,Lc.mpr ⟨h.nd,by simp,λa ha b hb e=>nd (by rw[<-JJ.mp hb,<-e];show ha)⟩,λj m=>?_⟩
 rw[fB h.ul,fB h.dl,fB h.tl]
 by_cases c:j<i
 ·rw[N1 c,N1 c,N1 c];show h.sp j c
 ·have:j=i:=by lia
  subst this
  rw[N0 c,N0 c,N0 c,N1 Z,N1 Z,N1 Z];show x
theorem sT {a:-Lk}{c:Lk}(h:a[i]?>c):eX (a.take (i+1))=eX (a.take i)+c.1:=by
 unfold eX
 rw[bp h,JM,List.sum_append]
 simp
theorem GC{ss:-Lk}(h:Bj n ss):Bj n (kr id ss):=λc a=>h c ((kU ss id).subset a)
theorem sj:∀(l:-Lk) (f:Nat->Nat) (a:-Nat),a≠[]->(∀x,x<n->f x∈a)->Bj n l->↑(kr f l)<↑a
 |[],_,_,h,_,_=>List.length_pos_iff.mpr h
 |e::l,f,a,h,hf,hs=>by
  let b:Bj n l:=λd hd=>hs d (J0 _ hd)
  unfold kr
  by_cases c:f e.2.1=f e.2.2
  ·rw[N1 c];show sj l f a h hf b
  ·rw[N0 c]
   let⟨s1,j⟩:=hs e JZ
   let g:f e.2.1∈a.erase (f e.2.2):=(L8 c).mpr (hf _ s1)
   have:=sj l (bO f e.2.1 e.2.2) (a.erase (f e.2.2)) (List.ne_nil_of_mem g) (λx i=>by
    unfold bO
    split
    ·show g
    ·show(L8 (by assumption)).mpr (hf x i)) b
   rw[MG (hf _ j)] at this
   rw[J9]
   omega
structure LJ (g:Gd) (F:-(Nat×V)) (ok:dj g) (ns:-Nat) (H:Hp) (i:Nat) (ds:-N8) (ts:-(-(Nat×V))) (fl:-Dj.Far):Prop where
 dl:↑ds=i
 tl:↑ts=i
 ll:↑fl=i
 nd:ds.Nodup
 sp:∀j,j<i->H (ds.getD j 0)>.dT (bg g.R g.C (ts.getD j []))/\Tb g.M (ts.getD j [])/\cS (ts.getD j []) (fl.getD j λ_=>none)/\Dj.Fix (gG g F [ns.getD j 0] ok) (fl.getD j λ_=>none)
theorem LJ.snoc{F:-(Nat×V)}{ok:dj g}{ns:-Nat}{m:-(-(Nat×V))}{n:-Dj.Far}{l:-(Nat×V)}(h:LJ g F ok ns H i ds m n)(k:∀b ys,H b>.dT ys->H' b>.dT ys)(nd:d∉ds)(hd:H' d>.dT (bg g.R g.C l))(ht:Tb g.M l)(hf:cS l f)(hx:Dj.Fix (gG g F [ns.getD i 0] ok) f):LJ g F ok ns H' (i+1) (ds++[d]) (m++[l]) (n++[f]):=by
 show⟨by rw[JQ,h.dl];rfl,by rw[JQ,h.tl];rfl,by rw[JQ,h.ll];rfl,Lc.mpr ⟨h.nd,by simp,λa ha b hb e=>nd (by rw[<-JJ.mp hb,<-e];show ha)⟩,λj o=>?_⟩
 rw[fB h.dl,fB h.tl,fB h.ll]
 by_cases c:j<i
 ·rw[N1 c,N1 c,N1 c]
  let⟨h1,h2⟩:=h.sp j c
  show⟨k _ _ h1,h2⟩
 ·have:j=i:=by lia
  subst this
  rw[N0 c,N0 c,N0 c,N1 Z,N1 Z,N1 Z];show⟨hd,ht,hf,hx⟩
def Aa (R C:Int) (M:Nat) (fs:eh) (c H:Hp) (a:N8) (x:(Nat->Prop)×Int×Int):Prop:=∃(d:N8) (b:-(Nat×V)) (h:Dj.Far),c a=none/\c d=none/\H a>.tup [.int (x.2.2 - x.2.1),.ref d]/\H d>.dT (bg R C b)/\Tb M b/\cS b h/\Bk fs x.1 x.2.1 x.2.2 h
theorem nO{fs:eh}{xs:-((Nat->Prop)×Int×Int)}(h:Nb (Aa R C M fs H0 H) as xs)(st:∀b ys,H b>.tup ys->H' b>.tup ys)(j:∀b ys,H b>.dT ys->H' b>.dT ys):Nb (Aa R C M fs H0 H') as xs:=Nb.mapP h λ_ _ a=>by let⟨d,i,f,g,c,e,k,l⟩:=a;show⟨d,i,f,g,c,st _ _ e,j _ _ k,l⟩
theorem tM {i d f c:Type}{e:i->d->Prop}{R2:f->c->Prop}{A:d->c->Prop}{as:-i}{xs:-d}{bs:-f}{ys:-c}(h:Nb e as xs)(g:Nb A xs ys)(k:Nb R2 bs ys):Nb (λa b=>∃x y,e a x/\A x y/\R2 b y) as bs:=by
 induction h generalizing bs ys with
 |nil=>
  cases g
  cases k
  show .nil
 |cons r t ih=>
  cases g with
  |cons ra ta=>
   cases k with
   |cons r2 t2=>show .cons ⟨_,_,r,ra,r2⟩ (ih ta t2)
theorem yF{fs:eh}{x:-Nat×Int×Int}{y:(Nat->Prop)×Int×Int}(S:gP L R C)(s:aw H0 H)(X:Aa R C M fs H0 H a (f6 x))(J:gN R C M fs H0 b (wR n y))(g:sv n x y):G4 K H a b:=by
 let⟨d,Y,f,l,q,P,E,o,e,U⟩:=X
 let⟨r,c,f',j,u,O,h,m⟩:=J
 let⟨T,I⟩:=g
 let W:(wR n y).2=(f6 x).2:=T.symm
 rw[W] at j m
 let N:f=f':=U.same m I
 subst N
 show⟨_,.ref d,.ref r,(λz=>by rw[z,j] at l;cases l),P,s _ _ j,d,r,_,_,Z,Z,(λz=>by rw[z,u] at q;cases q),.inl E,.inl (s _ _ u),vZ,vZ,?_,λp hp=>?_⟩
 ·let sub:∀{A B:-(Nat×V)},Tb M A->cS A f->cS B f->↑A<=↑B:=fun{A B} ta D Q=>by
   have:=dB (ys:=B.map (·.1)) ta.nd λx w=>Q.key.mpr (D.key.mp w)
   rwa [JF,JF] at this
  rw[bT,bT]
  show Nat.le_antisymm (sub o e h) (sub O h e)
 ·let⟨k,v,F,rfl⟩:=pC hp
  let⟨i,rfl,hi⟩:=e.int o.nd F
  show⟨.int i,?_,.inl ⟨Z,Z⟩⟩
  change aE (bg R C c) (iK (sN R C k))>.int i
  rw[bP S,h k,hi];rfl
theorem mw {c d b:Type}{R:c->b->Prop}{f:d->b}{as:-c}{xs:-d}(h:Nb R as (xs.map f)):Nb (λa x=>R a (f x)) as xs:=by
 induction xs generalizing as with
 |nil=>
  cases h
  show .nil
 |cons x r ih=>
  cases h with
  |cons r t=>show .cons r (ih t)
theorem su {a:Type}{p:a->Bool}{l:-a}(h:↑l<=↑(l.filter p)):∀x∈l,p x=true:=by
 let e:=Lf p l
 show List.length_filter_eq_length_iff.mp ()
theorem wd (P:qc)(x:Int)(i:Nat):↑(qb P x i)<=1:=by
 unfold qb
 split<;>simp
theorem m7:∀(P:qc) (ls:-Lk),↑(gh P ls)<=2*↑ls
 |_,[]=>JG _
 |P,c::r=>by
  let h1:=wd P c.1 c.2.1
  let h2:=wd P c.1 c.2.2
  let a:=m7 (yg P c.1 (jn P c)) r
  unfold gh
  rw[JQ,JQ,J9]
  lia
variable {cThing Og Od Oe Of Oc cMS:N8} (T:Txt K mg cThing Og Od Oe Of Oc cMS)
include T
theorem xr:gE P w K mg O_ 1 "inside" u0 ["sizes", "spot"] kS:=by
 show rd ["sizes", "spot", "layers", "rows", "columns", "layer", "row", "column"] λnd _ _ _ _ _ H vs Q E hr h=>?_
 let⟨a,b,L,R,C,l,r,c,rfl,ha,hb,q⟩:=h
 show⟨_,(au (eK (aq 0) (cq Z (az (bw 2 nd) (az (bw 3 nd) (az (bw 4 nd) bB))))) (aS (eK (aq 1) (cq Z (az (bw 5 nd) (az (bw 6 nd) (az (bw 7 nd) bB))))) (aL (lF (kT fc eO ao (aq 5) (aq 2)) (lF (kT fc eO ao (aq 6) (aq 3)) (o9 (kT fc eO ao (aq 7) (aq 4)))))))),?_⟩
 show sU ∅ (a_.of ha) ?_
 show sU ∅ (a_.of hb) ?_
 show cx (fP (AG (dN aB ∅ ∅) λ_=>AG (dN aB ∅ ∅) λ_=>dN aB ∅ ∅) (congrArg V.bl Hb)) q
theorem xR (B:K.In O_):gE P w K mg O_ 1 "check_sizes" vj ["sizes", "prices", "vias"] qR:=by
 show rd ["sizes", "prices", "vias", "size", "most"] λnd _ _ _ _ _ H vs Q E hr h=>?_
 let⟨z,pr,vi,L,R,C,xs,ys,rfl,g,sz,hp,b,u,c,q⟩:=h
 show⟨_,(au (dq (DA (by rfl) T.zip_ (aF (aq 0) (eG (by rfl) (by show T.g_MOST_SIZES)))) (cq Z (az (bw 3 nd) (az (bw 4 nd) bB))) (aW (cK (fV (fJ fc fc ao (aq 3) (aq 4))) cX))) (aS (cK (cu iw (bW bc T.len_ (aI (aq 1))) (aG aD (aq 0) ao)) cX) (cK (cu iw (bW bc T.len_ (aI (aq 2))) (aA cL (aG aD (aq 0) ao) ao)) cX))),?_⟩
 show⟨_,Z,z,cMS,Z,⟨_,a_.of g⟩,⟨_,T.t_MOST_SIZES _⟩,?_⟩
 show zb (K:=K) (xs:=[.int L,.int R,.int C]) (ys:=[.int 4,.int 16,.int 16]) Z (λi σ H'=>∃k j:Option V,σ=[some (.ref z),some (.ref pr),some (.ref vi),k,j]/\aw H H') ⟨none,none,Z,aw.refl H⟩ (λi σ H' _ g=>by let⟨_,_,_,s⟩:=g;show⟨a_.of (s _ _ g),T.t_MOST_SIZES _⟩) ?_ ?_
 ·rintro i x y p σ H2 e d r ⟨k,j,rfl,f⟩
  obtain⟨n,m,rfl,rfl,A,o⟩:∃n m:Int,x=.int n/\y=.int m/\1<=n/\n<=m:=by
   match i,e,d with
   |0,e,d=>show⟨L,4,(Option.some.inj e).symm,(Option.some.inj d).symm,sz.l0,sz.l1⟩
   |1,e,d=>show⟨R,16,(Option.some.inj e).symm,(Option.some.inj d).symm,sz.r0,sz.r1⟩
   |2,e,d=>show⟨C,16,(Option.some.inj e).symm,(Option.some.inj d).symm,sz.c0,sz.c1⟩
  show⟨p,_,Z,a_.of ag,Z,_,_,Z,_,_,Z,Z,?_⟩
  show gY (ic (c9 (ay (dN aB ∅ ∅)) (by rw[N3 A,N3 o];rfl))) Z ⟨_,_,Z,f.upd r⟩
 ·rintro σ H2 ⟨k,j,rfl,f⟩
  let a:=f _ _ g
  show st ?_
  show gx (c9 (ay (gz (cI (ak ∅ ax) λQ' l=>⟨_,_,Z,.inl ⟨_,aN.of (f _ _ hp),Z⟩,l⟩) (aJ (v:=.int L) ∅ aB (a_.of a) Z))) (by rw[N3 b];rfl)) Z ?_
  show gY (c9 (ay (gz (cI (ak ∅ ax) λQ' l=>⟨_,_,Z,.inl ⟨_,aN.of (f _ _ u),Z⟩,l⟩) (aR (aJ (v:=.int L) ∅ aB (a_.of a) Z) aB))) (by rw[N3 c];rfl)) Z (q _ f)
theorem xm (a:K.In O_):gE P w K mg O_ 1 "check_price" vW ["price", "least"] rQ:=by
 show rd ["price", "least"] λnd _ _ _ _ _ H vs Q E hr h=>?_
 let⟨x,m,rfl,h1,h2,q⟩:=h
 show⟨_,(aW (cK (fV (fJ fc fc (aq 1) (aq 0) (eG (by rfl) (by show T.g_MOST_PRICE)))) cX)),?_⟩
 show gY (ic (c9 (ay (dN ∅ ∅ aB)) (by rw[N3 h1,N3 h2];rfl))) Z q
theorem ui (p:aU P w K mg O_ "check_price" 1 ["price", "least"] rQ):gE P w K mg O_ 2 "check_prices" rf ["prices", "vias", "tolls"] oE:=by
 show rd ["prices", "vias", "tolls", "ahead", "across", "price", "toll"] λnd _ _ _ _ _ H vs Q E hr h=>?_
 let⟨pr,vi,d,ps,U,f,rfl,⟨as,hp,ht⟩,n,L,m,hd,l,q⟩:=h
 show⟨_,(au (dq (aY (aq 0)) (cq Z (az (bw 3 nd) (az (bw 4 nd) bB))) (aS (bj (bR p hr (aF (aq 3) ao))) (bj (bR p hr (aF (aq 4) ao))))) (aS (dq (aY (aq 1)) (bw 5 nd) (aW (bj (bR p hr (aF (aq 5) ao))))) (jM (dq (wG (aq 2)) (bw 6 nd) (aW (bj (bR p hr (aF (aq 6) ao)))))))),?_⟩
 show⟨_,Z,pr,Z,⟨_,aN.of hp⟩,?_⟩
 show aK (K:=K) (xs:=as.map V.ref) (λi σ H'=>∃y r:Option V,σ=[some (.ref pr),some (.ref vi),some (.ref d),y,r,none,none]/\aw H H') ⟨none,none,Z,aw.refl H⟩ (λi σ H' _ z=>by let⟨_,_,_,s⟩:=z;show aN.of (s _ _ hp)) ?_ ?_
 ·rintro i x σ H2 D ⟨y,r,rfl,A⟩
  let⟨a,ha,rfl⟩:=b_ D
  let⟨c,N,e⟩:=cn ht ha
  let⟨u,v,rfl,W,S,O,T⟩:=n c (JY N)
  show⟨a,_,Z,a_.of (A _ _ e),Z,_,_,Z,_,_,Z,Z,?_⟩
  show⟨_,Z,u,1,Z,W,S,?_⟩
  show⟨_,Z,v,1,Z,O,T,_,_,Z,A⟩
 ·rintro σ H2 ⟨y,r,rfl,A⟩
  show st ?_
  show⟨_,Z,vi,Z,⟨_,aN.of (A _ _ L)⟩,?_⟩
  show aK (K:=K) (xs:=U.map V.int) (λi σ H'=>∃B:Option V,σ=[some (.ref pr),some (.ref vi),some (.ref d),y,r,B,none]/\aw H H') ⟨none,Z,A⟩ (λi σ H' _ z=>by let⟨_,_,s⟩:=z;show aN.of (s _ _ L)) ?_ ?_
  ·rintro i x σ H3 D ⟨B,rfl,C⟩
   let⟨j,rfl,R⟩:=zg D
   let⟨J,F⟩:=m j (JY R)
   show gn ?_
   show⟨_,Z,j,1,Z,J,F,_,Z,C⟩
  ·rintro σ H3 ⟨B,rfl,C⟩
   let g:=C _ _ hd
   show⟨d,.dT f,g,trivial,λo=>?_⟩
   show⟨_,Z,d,o,.dT f,Z,ag,trivial,?_⟩
   show Bb (λi σ H'=>∃I:Option V,σ=[some (.ref pr),some (.ref vi),some (.ref d),y,r,B,I]/\H'=Ob H3 d (.frz o (.dT f))) ⟨none,Z,Z⟩ (λi σ H' _ z=>by let⟨_,_,e⟩:=z;show e▸ag) ?_ ?_
   ·rintro i x v σ H' ⟨k,b,M,rfl,_⟩ hi ⟨I,rfl,rfl⟩
    let⟨j,e,J,F⟩:=l _ (JY M)
    let e:v=.int j:=e
    subst e
    show gn ?_
    show⟨_,Z,j,0,Z,J,F,_,Z,Z⟩
   ·rintro σ H' ⟨I,rfl,rfl⟩
    show⟨ag,q _ (C.trans (nZ g))⟩
theorem tN (e:K.In O_)(d:aU P w K mg O_ "inside" 1 ["sizes", "spot"] kS):gE P w K mg O_ 2 "check_inside" qu ["sizes", "spot"] ij:=by
 show rd ["sizes", "spot"] λnd _ _ _ _ _ H vs Q E hr h=>?_
 let⟨a,b,L,R,C,l,r,c,rfl,ha,hb,hi,q⟩:=h
 show⟨_,(aW (cK (fV (gu (bR d hr (aF (aq 0) (aq 1))))) cX)),?_⟩
 show v_ ⟨_,Z,_,Z,a,b,L,R,C,l,r,c,Z,ha,hb,_,Z,?_⟩
 rw[N3 hi]
 show fN q
theorem xU:gE P w K mg O_ 1 "spots_round" vx ["spot"] uD:=by
 show rd ["spot", "layer", "row", "column"] λnd _ _ _ _ _ H vs Q E hr h=>?_
 let⟨b,x,y,w,rfl,hb,q⟩:=h
 show⟨_,(aS (eK (aq 0) (cq Z (az (bw 1 nd) (az (bw 2 nd) (az (bw 3 nd) bB))))) (aL (bL (aO (bG (aO (aA cL (aq 1) ao) (aF (aq 2) (aq 3)))) (aO (bG (aO (aq 1) (aF (aA cL (aq 2) ao) (aq 3)))) (aO (bG (aO (aq 1) (aF (aq 2) (aA cL (aq 3) ao)))) (aO (bG (aO (aq 1) (aF (aq 2) (aA bh (aq 3) ao)))) (aF (bG (aO (aq 1) (aF (aA bh (aq 2) ao) (aq 3)))) (bG (aO (aA bh (aq 1) ao) (aF (aq 2) (aq 3)))))))))))),?_⟩
 show sU ∅ (a_.of hb) ?_
 show Dm ?_
 let W:aw H H:=aw.refl H
 show gX (vs:=[.int (x - 1),.int y,.int w]) ?_ (by change 3<=N9;decide) λr U=>?_
 ·show ak (aR ∅ aB) (ak ∅ (ak ∅ ax))
 let s1:aw H (Ob H r (.tup [.int (x - 1),.int y,.int w])):=(aw.refl H).upd U
 let J:Ob H r (.tup [.int (x - 1),.int y,.int w]) r>.tup [.int (x - 1),.int y,.int w]:=ag
 revert s1 J
 generalize Ob H r (.tup [.int (x - 1),.int y,.int w])=H1
 intro s1 J
 show gX (vs:=[.int x,.int (y - 1),.int w]) ?_ (by change 3<=N9;decide) λp2 O=>?_
 ·show ak ∅ (ak (aR ∅ aB) (ak ∅ ax))
 let A:aw H1 (Ob H1 p2 (.tup [.int x,.int (y - 1),.int w])):=(aw.refl H1).upd O
 let C:Ob H1 p2 (.tup [.int x,.int (y - 1),.int w]) p2>.tup [.int x,.int (y - 1),.int w]:=ag
 revert A C
 generalize Ob H1 p2 (.tup [.int x,.int (y - 1),.int w])=H2
 intro A C
 show gX (vs:=[.int x,.int y,.int (w - 1)]) ?_ (by change 3<=N9;decide) λn S=>?_
 ·show ak ∅ (ak ∅ (ak (aR ∅ aB) ax))
 let u:aw H2 (Ob H2 n (.tup [.int x,.int y,.int (w - 1)])):=(aw.refl H2).upd S
 let L:Ob H2 n (.tup [.int x,.int y,.int (w - 1)]) n>.tup [.int x,.int y,.int (w - 1)]:=ag
 revert u L
 generalize Ob H2 n (.tup [.int x,.int y,.int (w - 1)])=z
 intro u L
 show gX (vs:=[.int x,.int y,.int (w+1)]) ?_ (by change 3<=N9;decide) λp N=>?_
 ·show ak ∅ (ak ∅ (ak (aR ∅ aB) ax))
 let o:aw z (Ob z p (.tup [.int x,.int y,.int (w+1)])):=(aw.refl z).upd N
 let F:Ob z p (.tup [.int x,.int y,.int (w+1)]) p>.tup [.int x,.int y,.int (w+1)]:=ag
 revert o F
 generalize Ob z p (.tup [.int x,.int y,.int (w+1)])=v
 intro o F
 show gX (vs:=[.int x,.int (y+1),.int w]) ?_ (by change 3<=N9;decide) λk T=>?_
 ·show ak ∅ (ak (aR ∅ aB) (ak ∅ ax))
 let i:aw v (Ob v k (.tup [.int x,.int (y+1),.int w])):=(aw.refl v).upd T
 let B:Ob v k (.tup [.int x,.int (y+1),.int w]) k>.tup [.int x,.int (y+1),.int w]:=ag
 revert i B
 generalize Ob v k (.tup [.int x,.int (y+1),.int w])=s
 intro i B
 show gX (vs:=[.int (x+1),.int y,.int w]) ?_ (by change 3<=N9;decide) λm R=>?_
 ·show ak (aR ∅ aB) (ak ∅ (ak ∅ ax))
 let g:aw s (Ob s m (.tup [.int (x+1),.int y,.int w])):=(aw.refl s).upd R
 let I:Ob s m (.tup [.int (x+1),.int y,.int w]) m>.tup [.int (x+1),.int y,.int w]:=ag
 revert g I
 generalize Ob s m (.tup [.int (x+1),.int y,.int w])=D
 intro g I
 show⟨by change 6<=N9;decide,λl M=>?_⟩
 let j:aw D (Ob D l (.lst [.ref r,.ref p2,.ref n,.ref p,.ref k,.ref m])):=(aw.refl D).upd M
 let a:=((((A.trans u).trans o).trans i).trans g).trans j
 let e:=(((u.trans o).trans i).trans g).trans j
 let f:=((o.trans i).trans g).trans j
 let c:=(i.trans g).trans j
 let d:=g.trans j
 show q _ l (s1.trans a) (dD (((((s1.trans A).trans u).trans o).trans i).trans g) M) ⟨[r,p2,n,p,k,m],ag,?_⟩
 show .cons (a _ _ J) (.cons (e _ _ C) (.cons (f _ _ L) (.cons (c _ _ F) (.cons (d _ _ B) (.cons (j _ _ I) .nil)))))
theorem yj(F:z_ K "__init__" "Floor.__init__" gq f fd)(dc:aU P w K mg O_ "check_sizes" 1 ["sizes", "prices", "vias"] qR)(da:aU P w K mg O_ "check_prices" 2 ["prices", "vias", "tolls"] oE)(c7:aU P w K mg O_ "check_inside" 2 ["sizes", "spot"] ij):eL P w K mg O_ jH 3 f fd ["self", "sizes", "prices", "vias", "rocks", "tolls"] (pQ Oc):=by
 let sc:eF ["self", "sizes", "prices", "vias", "rocks", "tolls", "told_rocks", "told_tolls", "spot"] ["self", "sizes", "prices", "vias", "rocks", "tolls"] (aM gq):=⟨Z,Z,Z,by decide+kernel,Z,by decide+kernel,by decide+kernel⟩
 let nd:=sc.nd
 show F.ok sc (λvs H Q E h=>by first|(cases h;subst_vars;rfl)|repeat (first|(let⟨rfl,_⟩:=h;rfl)|(let⟨_,h⟩:=h))) (λhs A fl s H vs Q E hr h=>?_)
 let⟨p,dx,z,pr,vi,r,t,g,rfl,hp,hg,hz,ab,ad,hR,hT,q⟩:=h
 show⟨_,(au (a9 6 nd (jt (cu yl (aq 4) iM) (bL cW) (aq 4))) (au (a9 7 nd (jt (cu yl (aq 5) iM) du (aq 5))) (au (bj (bR dc hr (aO (aq 1) (aF (aq 2) (aq 3))))) (au (bj (bR da hr (aO (aq 2) (aF (aq 3) (aq 7))))) (au (dq (aY (aq 6)) (bw 8 nd) (aW (bj (bR c7 hr (aF (aq 1) (aq 8)))))) (au (jM (dq (kK (aq 7)) (bw 8 nd) (aW (bj (bR c7 hr (aF (aq 1) (aq 8))))))) (au (dJ (aq 0) (aq 1) Z) (au (dJ (aq 0) (jb ["ahead", "across"] [] [] (aY (aq 2)) (ie (K:=K) (n:=2) Z Z (az (eM 0) (az (eM 1) bB)) Z Z) dQ (bG (aF (aq 0) (aq 1)))) Z) (au (dJ (aq 0) (fO dh T.list_ (aI (aq 3))) Z) (aS (dJ (aq 0) (fO (gR Z hr) T.dict_ (aI (jb ["spot"] [] [] (aY (aq 6)) (eM 0) dQ (bG (aF (aq 0) gJ))))) Z) (dJ (aq 0) (fO ip T.dict_ (aI (aq 7))) Z))))))))))),?_⟩
 let c4:N9=2^24:=rfl
 let S:=hg.S
 let hm:=hg.m
 let c5:=hg.rl
 let few:=hg.tt.few
 show uS (λv H1=>∃ro,v=.ref ro/\aw H H1/\jg H1 ro (g.rs.map (sN g.R g.C))) (λQ' hQ=>?_) ?_
 ·rcases hR with ⟨rfl,e⟩|⟨ro,rfl,h⟩
  ·show F3 (c9 (ay (oU ∅ aB)) (by rfl)) ⟨J4 _,λd nd=>?_⟩
   show hQ _ _ ⟨d,Z,(aw.refl H).upd nd,[],ag,e<|.nil⟩
  ·show Ex (c9 (ay (oU ∅ aB)) (by rfl)) ⟨_,Z,?_⟩
   show hQ _ _ ⟨ro,Z,aw.refl H,h⟩
 rintro v1 H1 ⟨ro,rfl,s1,ci⟩
 show uS (λv H2=>∃td,v=.ref td/\aw H1 H2/\H2 td>.dT (bg g.R g.C g.ts)) (λQ' hQ=>?_) ?_
 ·rcases hT with ⟨rfl,e⟩|⟨td,rfl,h⟩
  ·show F3 (c9 (ay (oU ∅ aB)) (by rfl)) λd nd=>?_
   show hQ _ _ ⟨d,Z,(aw.refl H1).upd nd,e<|ag⟩
  ·show Ex (c9 (ay (oU ∅ aB)) (by rfl)) ⟨_,Z,?_⟩
   show hQ _ _ ⟨td,Z,aw.refl H1,s1 _ _ h⟩
 rintro v2 H2 ⟨d,rfl,b5,ca⟩
 let s2:=s1.trans b5
 let⟨ps,h3,h4⟩:=ab.same s2
 let cF:↑ps=↑g.ps:=Nb.length h4
 let c0:=S.l1
 let cT:=hg.pl
 show cG λRa ev=>?_
 show⟨_,Z,_,Z,_,Z,z,pr,vi,g.L,g.R,g.C,_,_,Z,s2 _ _ hz,S,h3,JF<|cF<|hg.pl,s2 _ _ ad,JF<|hg.vl,λH3 dk=>?_⟩
 show ev _ _ ?_
 let s3:=s2.trans dk
 show cG λRb ew=>?_
 show⟨_,Z,_,Z,_,Z,pr,vi,d,g.ps,g.vs,_,Z,ab.same s3,hg.pp,s3 _ _ ad,hg.vv,dk _ _ ca,?_,λH4 d1=>?_⟩
 ·intro x hx
  let⟨y,hy,rfl⟩:=JL.mp hx
  show hg.tv y hy
 show ew _ _ ?_
 let s4:=s3.trans d1
 let ac:=d1 _ _ (dk _ _ ca)
 let⟨as,L,bu⟩:=((ci.same b5).same dk).same d1
 let c2:↑as=↑g.rs:=by rw[Nb.length bu,JF]
 let bd:∀n,n<g.M->∃x y w:Int,sN g.R g.C n=[x,y,w]/\iA g.L g.R g.C x y w/\Bd x y w:=λn hn=>by
  let i:=iG S (n:=n) (by have:=hg.M;omega)
  show⟨_,_,_,Z,i,?_⟩
  let⟨a1,a2,a3,a4,a5,a6⟩:=i
  have:=S.r1;have:=S.c1
  show⟨⟨by omega,by omega⟩,⟨by omega,by omega⟩,⟨by omega,by omega⟩⟩
 show cG λRc ff=>?_
 show⟨_,Z,ro,Z,⟨_,aN.of L⟩,?_⟩
 show aK (K:=K) (xs:=as.map V.ref) (λi σ H'=>∃x8:Option V,σ=[some (.ref p),some (.ref z),some (.ref pr),some (.ref vi),some r,some t,some (.ref ro),some (.ref d),x8]/\H4=H') ⟨none,Z,Z⟩ (λi σ H' _ hz=>by let⟨_,_,e⟩:=hz;show e▸aN.of L) ?_ ?_
 ·rintro i x σ H' hx ⟨x8,rfl,rfl⟩
  let⟨a,ha,rfl⟩:=b_ hx
  let⟨c,hc,J⟩:=cn bu ha
  let⟨n,hn,rfl⟩:=JL.mp (JY hc)
  let⟨x,y,w,e,hi,hb⟩:=bd n (hg.rr n hn)
  rw[e] at J
  show gn ?_
  show⟨_,Z,_,Z,z,a,g.L,g.R,g.C,x,y,w,Z,s4 _ _ hz,J,hi,⟨_,Z,Z⟩⟩
 rintro σ H' ⟨x8,rfl,rfl⟩
 show ff _ _ ?_
 show cG λRd f2=>?_
 show⟨d,.dT (bg g.R g.C g.ts),ac,trivial,λo=>?_⟩
 show⟨_,Z,d,o,.dT (bg g.R g.C g.ts),Z,ag,trivial,?_⟩
 let ck:z≠d:=bz (s4 _ _ hz) ac (λz=>by cases z)
 show jd (λi σ H'=>∃x8:Option V,σ=[some (.ref p),some (.ref z),some (.ref pr),some (.ref vi),some r,some t,some (.ref ro),some (.ref d),x8]/\H'=Ob H4 d (.frz o (.dT (bg g.R g.C g.ts)))) ⟨x8,Z,Z⟩ (λi σ H' _ hz=>by let⟨_,_,e⟩:=hz;show e▸ag) ?_ ?_
 ·rintro i x v σ H' ⟨k,b,hk,rfl,hb⟩ hi ⟨x8,rfl,rfl⟩
  let⟨y,hy,e⟩:=JL.mp (JY hk)
  let e:(iK (sN g.R g.C y.1),y.2)=(k,v):=e
  cases e
  let⟨x,y',w,e,hi,c1⟩:=bd y.1 (hg.tt.lt y hy)
  let hb:Ob H4 d (.frz o (.dT (bg g.R g.C g.ts))) b>.tup ((sN g.R g.C y.1).map V.int):=by
   have:=hb
   unfold iK at this
   rw[fQ] at this
   show this
  rw[e] at hb
  show gn ?_
  show⟨_,Z,_,Z,z,b,g.L,g.R,g.C,x,y',w,Z,(by change Ob H4 d _ z=_;rw[aj ck];show s4 _ _ hz),hb,hi,⟨_,Z,Z⟩⟩
 rintro σ H5 ⟨x8,rfl,rfl⟩
 show⟨ag,?_⟩
 show f2 _ _ ?_
 let m:aw H4 (Ob (Ob H4 d (.frz o (.dT (bg g.R g.C g.ts)))) d (.dT (bg g.R g.C g.ts))):=nZ ac
 revert m
 generalize Ob (Ob H4 d (.frz o (.dT (bg g.R g.C g.ts)))) d (.dT (bg g.R g.C g.ts))=H5
 intro m
 let s5:=s4.trans m
 let b0:=m _ _ ac
 let B:=s5 _ _ hp
 let Z0:d≠p:=bz b0 B (λz=>by cases z)
 let b3:z≠p:=bz (s5 _ _ hz) B (λz=>by cases z)
 let a7:ro≠p:=bz (m _ _ L) B (λz=>by cases z)
 let b7:vi≠p:=bz (s5 _ _ ad) B (λz=>by cases z)
 let cv:pr≠p:=bz (ab.same s5).choose_spec.1 B (λz=>by cases z)
 show cG λRe fq=>?_
 show⟨_,Z,_,Z,p,Oc,dx,[],Z,B,T.cl_Floor,T.na_Floor_sizes,(by decide),?_⟩
 show fq _ _ ?_
 rw[DT]
 let b6:fM H (Ob H5 p (.ins Oc dx [("sizes",.ref z)])) p:=(fM.of s5).up
 let I:Ob H5 p (.ins Oc dx [("sizes",.ref z)]) p>.ins Oc dx [("sizes",.ref z)]:=ag
 let bb:Ob H5 p (.ins Oc dx [("sizes",.ref z)]) d>.dT (bg g.R g.C g.ts):=aj Z0<|b0
 let bl:jg (Ob H5 p (.ins Oc dx [("sizes",.ref z)])) ro (g.rs.map (sN g.R g.C)):=⟨as,aj a7<|m _ _ L,aC bu λb xs e=>by rw[aj (bz (m _ _ e) B (λz=>by cases z))];show m _ _ e⟩
 let bf:Ob H5 p (.ins Oc dx [("sizes",.ref z)]) vi>.lst (g.vs.map V.int):=b6 _ _ b7 ad
 let W:jg (Ob H5 p (.ins Oc dx [("sizes",.ref z)])) pr g.ps:=by
  let⟨j,e1,e2⟩:=ab.same s5
  show⟨j,aj cv<|e1,aC e2 λb xs e=>by rw[aj (bz e B (λz=>by cases z))];show e⟩
 revert b6 I bb bl bf W
 generalize Ob H5 p (.ins Oc dx [("sizes",.ref z)])=H6
 intro b6 I bb bl bf W
 let⟨cc,e6,t6⟩:=W
 show cG λRf eJ=>?_
 show⟨_,Z,pr,Z,⟨_,aN.of e6⟩,λD nD=>?_⟩
 show aK (K:=K) (xs:=cc.map V.ref) (λi τ H'=>∃(x0 x1:Option V) (us:-N8),τ=[x0,x1]/\aw H6 H'/\H' D>.lst (us.map V.ref)/\bH H' us (g.ps.take i)/\↑us=i) ⟨none,none,[],Z,(aw.refl H6).upd nD,ag,.nil,Z⟩ (λi τ H' _ hz=>by let⟨_,_,_,_,s,_⟩:=hz;show aN.of (s _ _ e6)) ?_ ?_
 ·rintro i x τ H' hx ⟨x0,x1,us,rfl,s,hD,ct,cN⟩
  let⟨a,ha,rfl⟩:=b_ hx
  let⟨c,hc,J⟩:=cn t6 ha
  let⟨u,v,rfl,_⟩:=hg.pp c (JY hc)
  let hi:i<↑cc:=(JX.mp ha).1
  have:=Nb.length t6
  show⟨a,_,Z,a_.of (s _ _ J),Z,?_⟩
  show⟨_,_,Z,gn ?_⟩
  show⟨_,_,Z,gn ?_⟩
  show⟨Z,?_⟩
  show fK ?_
  show⟨_,Z,_,Z,(by change 2<=N9;decide),λt nt=>?_⟩
  let N:t≠D:=JH (ai hD nt)
  show⟨us.map V.ref,(aj (JH N)<|hD),by rw[JF];omega,_,_,us++[t],Z,aP (s.upd nt) nD,by rw[ag,JM];rfl,?_,by simp[cN]⟩
  rw[bp hc]
  show eV (aC ct (cg hD nt)) (.cons (by rw[aj N,ag];rfl) .nil)
 rintro τ H7 ⟨x0,x1,us,rfl,s7,co,b4,_⟩
 rw[JF,Nb.length t6,Kb] at b4
 let aa:D≠p:=JH (ai I nD)
 show⟨_,Z,p,Oc,dx,_,Z,s7 _ _ I,T.cl_Floor,T.na_Floor_prices,(by simp),?_⟩
 show eJ _ _ ?_
 rw[HP]
 let n6:∀a,H6 a=none->H a=none:=λa n=>by
  cases e:H a with
  |none=>rfl
  |some o=>
   by_cases ap:a=p
   ·subst ap;rw[I] at n;cases n
   ·rw[b6 a o ap e] at n;cases n
 let b8:fM H (Ob H7 p (.ins Oc dx [("sizes",.ref z),("prices",.ref D)])) p:=(b6.st s7).up
 let R:Ob H7 p (.ins Oc dx [("sizes",.ref z),("prices",.ref D)]) p>.ins Oc dx [("sizes",.ref z),("prices",.ref D)]:=ag
 let kp:∀a o,a≠p->H7 a>o->Ob H7 p (.ins Oc dx [("sizes",.ref z),("prices",.ref D)]) a>o:=λa o n e=>by rw[aj n];show e
 let X:jg (Ob H7 p (.ins Oc dx [("sizes",.ref z),("prices",.ref D)])) D g.ps:=⟨us,kp _ _ aa co,aC b4 λb xs e=>kp _ _ (bz e (s7 _ _ I) (λz=>by cases z)) e⟩
 let bo:jg (Ob H7 p (.ins Oc dx [("sizes",.ref z),("prices",.ref D)])) ro (g.rs.map (sN g.R g.C)):=by
  let⟨j,e1,e2⟩:=bl.same s7
  show⟨j,kp _ _ a7 e1,aC e2 λb xs e=>kp _ _ (bz e (s7 _ _ I) (λz=>by cases z)) e⟩
 let ar:=kp _ _ Z0 (s7 _ _ bb)
 let bn:=kp _ _ b7 (s7 _ _ bf)
 let n8:∀a,Ob H7 p (.ins Oc dx [("sizes",.ref z),("prices",.ref D)]) a=none->H a=none:=λa n=>n6 a (by
  cases e:H6 a with
  |none=>rfl
  |some o=>
   by_cases ap:a=p
   ·subst ap;rw[ag] at n;cases n
   ·rw[kp _ _ ap (s7 _ _ e)] at n;cases n)
 revert b8 R X bo ar bn n8
 clear kp
 generalize Ob H7 p (.ins Oc dx [("sizes",.ref z),("prices",.ref D)])=H8
 intro b8 R X bo ar bn n8
 let ch:H D=none:=n6 D nD
 show cG λRg et=>?_
 show⟨_,Z,vi,_,Z,.inl (aN.of bn),λl nl=>?_⟩
 let cs:=n8 l nl
 let s9:aw H8 (Ob H8 l (.lst (g.vs.map V.int))):=(aw.refl H8).upd nl
 let av:Ob H8 l (.lst (g.vs.map V.int)) l>.lst (g.vs.map V.int):=ag
 revert s9 av
 generalize Ob H8 l (.lst (g.vs.map V.int))=H9
 intro s9 av
 let ba:l≠p:=JH (ai R nl)
 show⟨_,Z,p,Oc,dx,_,Z,s9 _ _ R,T.cl_Floor,T.na_Floor_vias,(by simp),?_⟩
 show et _ _ ?_
 rw[GH]
 let kp:∀a o,a≠p->H9 a>o->Ob H9 p (.ins Oc dx [("sizes",.ref z),("prices",.ref D),("vias",.ref l)]) a>o:=λa o n e=>by rw[aj n];show e
 let kt:∀b xs,H8 b>.tup xs->Ob H9 p (.ins Oc dx [("sizes",.ref z),("prices",.ref D),("vias",.ref l)]) b>.tup xs:=λb xs e=>kp _ _ (bz e R (λz=>by cases z)) (s9 _ _ e)
 let bA:fM H (Ob H9 p (.ins Oc dx [("sizes",.ref z),("prices",.ref D),("vias",.ref l)])) p:=(b8.st s9).up
 let O:Ob H9 p (.ins Oc dx [("sizes",.ref z),("prices",.ref D),("vias",.ref l)]) p>.ins Oc dx [("sizes",.ref z),("prices",.ref D),("vias",.ref l)]:=ag
 let U:jg (Ob H9 p (.ins Oc dx [("sizes",.ref z),("prices",.ref D),("vias",.ref l)])) D g.ps:=by
  let⟨j,e1,e2⟩:=X
  show⟨j,kp _ _ aa (s9 _ _ e1),aC e2 kt⟩
 let bi:jg (Ob H9 p (.ins Oc dx [("sizes",.ref z),("prices",.ref D),("vias",.ref l)])) ro (g.rs.map (sN g.R g.C)):=by
  let⟨j,e1,e2⟩:=bo
  show⟨j,kp _ _ a7 (s9 _ _ e1),aC e2 kt⟩
 let an:=kp _ _ Z0 (s9 _ _ ar)
 let bE:=kp _ _ ba av
 let nA:∀a,Ob H9 p (.ins Oc dx [("sizes",.ref z),("prices",.ref D),("vias",.ref l)]) a=none->H a=none:=λa n=>n8 a (by
  cases e:H8 a with
  |none=>rfl
  |some o=>
   by_cases ap:a=p
   ·subst ap;rw[ag] at n;cases n
   ·rw[kp _ _ ap (s9 _ _ e)] at n;cases n)
 revert bA O U bi an bE nA
 clear kp kt
 generalize Ob H9 p (.ins Oc dx [("sizes",.ref z),("prices",.ref D),("vias",.ref l)])=HA
 intro bA O U bi an bE nA
 let⟨bv,eA,tA⟩:=bi
 let cd:↑bv=↑g.rs:=by rw[Nb.length tA,JF]
 show cG λRi ex=>?_
 show⟨_,Z,ro,Z,⟨_,aN.of eA⟩,λD2 d5=>?_⟩
 show aK (K:=K) (xs:=bv.map V.ref) (λi τ H'=>∃(x0:Option V) (es:-N8),τ=[x0]/\aw HA H'/\H' D2>.lst (es.map V.ref)/\uM H' es ((g.rs.take i).map λn=>(iK (sN g.R g.C n),V.bl true))/\↑es=i) ⟨none,[],Z,(aw.refl HA).upd d5,ag,.nil,Z⟩ (λi τ H' _ hz=>by let⟨_,_,_,s,_⟩:=hz;show aN.of (s _ _ eA)) ?_ ?_
 ·rintro i x τ H' hx ⟨x0,es,rfl,s,hD,af,b1⟩
  let⟨a,ha,rfl⟩:=b_ hx
  let⟨c,hc,J⟩:=cn tA ha
  rw[JV] at hc
  let⟨n,hn,rfl⟩:=Kc.mp hc
  let hi:i<↑bv:=(JX.mp ha).1
  show gn (fK ?_)
  show⟨_,Z,(by change 2<=N9;decide),λt nt=>?_⟩
  let N:t≠D2:=JH (ai hD nt)
  show⟨es.map V.ref,(aj (JH N)<|hD),by rw[JF];omega,_,es++[t],Z,aP (s.upd nt) d5,by rw[ag,JM];rfl,?_,by simp[b1]⟩
  rw[bp hn,JM]
  show BS (uM.mono af (cg hD nt)) (.cons ⟨a,by rw[aj N,ag],cg hD nt _ _ (f9 (s _ _ J))⟩ .nil)
 rintro τ HB ⟨c3,es,rfl,sB,cj,af,b1⟩
 rw[JF,cd,Kb] at af
 show⟨D2,es,g.rs.map λn=>(iK (sN g.R g.C n),V.bl true),Z,cj,af,λrd dL=>?_⟩
 rw[FI S]
 let ce:H rd=none:=nA rd (dD sB dL)
 let sC:aw HB (Ob HB rd (.dT (bg g.R g.C (rk g.rs)))):=(aw.refl HB).upd dL
 let br:Ob HB rd (.dT (bg g.R g.C (rk g.rs))) rd>.dT (bg g.R g.C (rk g.rs)):=ag
 let bm:rd≠p:=JH (ai (sB _ _ O) dL)
 revert sC br
 generalize Ob HB rd (.dT (bg g.R g.C (rk g.rs)))=HC
 intro sC br
 let C:=sB.trans sC
 show⟨_,Z,p,Oc,dx,_,Z,C _ _ O,T.cl_Floor,T.na_Floor_rocks,(by simp),?_⟩
 show ex _ _ ?_
 rw[Jx]
 let kp:∀a o,a≠p->HC a>o->Ob HC p (.ins Oc dx [("sizes",.ref z),("prices",.ref D),("vias",.ref l),("rocks",.ref rd)]) a>o:=λa o n e=>by rw[aj n];show e
 let kt:∀b xs,HA b>.tup xs->Ob HC p (.ins Oc dx [("sizes",.ref z),("prices",.ref D),("vias",.ref l),("rocks",.ref rd)]) b>.tup xs:=λb xs e=>kp _ _ (bz e O (λz=>by cases z)) (C _ _ e)
 let bD:fM H (Ob HC p (.ins Oc dx [("sizes",.ref z),("prices",.ref D),("vias",.ref l),("rocks",.ref rd)])) p:=(bA.st C).up
 let M:Ob HC p (.ins Oc dx [("sizes",.ref z),("prices",.ref D),("vias",.ref l),("rocks",.ref rd)]) p>.ins Oc dx [("sizes",.ref z),("prices",.ref D),("vias",.ref l),("rocks",.ref rd)]:=ag
 let Y:jg (Ob HC p (.ins Oc dx [("sizes",.ref z),("prices",.ref D),("vias",.ref l),("rocks",.ref rd)])) D g.ps:=by
  let⟨j,e1,e2⟩:=U
  show⟨j,kp _ _ aa (C _ _ e1),aC e2 kt⟩
 let ah:=kp _ _ Z0 (C _ _ an)
 let be:=kp _ _ ba (C _ _ bE)
 let bx:=kp _ _ bm br
 let a0:∀a,Ob HC p (.ins Oc dx [("sizes",.ref z),("prices",.ref D),("vias",.ref l),("rocks",.ref rd)]) a=none->H a=none:=λa n=>nA a (by
  cases e:HA a with
  |none=>rfl
  |some o=>
   by_cases ap:a=p
   ·subst ap;rw[ag] at n;cases n
   ·rw[kp _ _ ap (C _ _ e)] at n;cases n)
 revert bD M Y ah be bx a0
 clear kp kt
 generalize Ob HC p (.ins Oc dx [("sizes",.ref z),("prices",.ref D),("vias",.ref l),("rocks",.ref rd)])=HD
 intro bD M Y ah be bx a0
 show⟨_,Z,d,Z,.inr ⟨_,.inl ah,iY S hg.M hg.tt,λt nt=>?_⟩⟩
 let cr:=a0 t nt
 let sE:aw HD (Ob HD t (.dT (bg g.R g.C g.ts))):=(aw.refl HD).upd nt
 let am:Ob HD t (.dT (bg g.R g.C g.ts)) t>.dT (bg g.R g.C g.ts):=ag
 let cm:t≠p:=JH (ai M nt)
 revert sE am
 generalize Ob HD t (.dT (bg g.R g.C g.ts))=HE
 intro sE am
 show⟨_,Z,p,Oc,dx,_,Z,sE _ _ M,T.cl_Floor,T.na_Floor_tolls,(by simp),?_⟩
 rw[Jw]
 show q _ D l rd t (bD.st sE).up ch cs ce cr ⟨⟨dx,z,ag,?_⟩,?_,?_,?_,?_⟩
 ·change Ob HE p _ z=_
  rw[aj b3];show sE _ _ (bD _ _ b3 hz)
 ·let⟨j,e1,e2⟩:=Y
  show⟨j,aj aa<|sE _ _ e1,aC e2 λb xs e=>by rw[aj (bz e M (λz=>by cases z))];show sE _ _ e⟩
 ·rw[aj ba];show sE _ _ be
 ·rw[aj bm];show sE _ _ bx
 ·rw[aj cm];show am
theorem xA (a:aU P w K mg O_ "check_inside" 2 ["sizes", "spot"] ij):ku P w K mg O_ 3 "is_rock" "Floor.is_rock" vg ["self", "spot"] (qG Oc):=by
 show rd ["self", "spot"] λnd _ _ _ _ _ H vs Q E hr h=>?_
 let⟨p,pr,vi,rd,td,b,g,x,y,w,rfl,c,hg,hb,hi,q⟩:=h
 show⟨_,(aS (bj (bR a hr (aF (bq (aq 0) Z) (aq 1)))) (aL (zp (jD (aT.one hr) (aq 1) (bq (aq 0) Z))))),?_⟩
 let⟨dx,z,h1,h2⟩:=c.ex
 show⟨_,Z,p,Oc,dx,_,_,Z,h1,T.cl_Floor,T.na_Floor_sizes,Hl,_,Z,z,b,g.L,g.R,g.C,x,y,w,Z,h2,hb,hi,?_⟩
 show⟨_,Z,_,Z,p,Oc,dx,_,_,Z,h1,T.cl_Floor,T.na_Floor_rocks,Ja,rd,_,Z,dg (x:=[x,y,w]) (.inl c.rd) hb,?_⟩
 rw[Et hg.S]
 show q
theorem wD (a:aU P w K mg O_ "inside" 1 ["sizes", "spot"] kS):ku P w K mg O_ 2 "is_open" "Floor.is_open" uz ["self", "spot"] (kY Oc):=by
 show rd ["self", "spot"] λnd _ _ _ _ _ H vs Q E hr h=>?_
 let⟨p,pr,vi,rd,td,b,g,x,y,w,rfl,c,hg,hb,q⟩:=h
 show⟨_,(aW (aL (lF (bR a hr (aF (bq (aq 0) Z) (aq 1))) (o9 (zp (fA (aT.one hr) (aq 1) (bq (aq 0) Z))))))),?_⟩
 let⟨dx,z,h1,h2⟩:=c.ex
 show gZ ⟨_,Z,p,Oc,dx,_,_,Z,h1,T.cl_Floor,T.na_Floor_sizes,Hl,_,Z,z,b,g.L,g.R,g.C,x,y,w,Z,h2,hb,_,Z,?_⟩
 unfold nj km at q
 by_cases hi:iA g.L g.R g.C x y w
 ·rw[N3 hi]
  show gT ?_
  let d:=dg (x:=[x,y,w]) (.inl c.rd) hb
  show(dz ∅ (kP ∅ h1 T.cl_Floor T.na_Floor_rocks Ja) d) _ ?_
  rw[Et hg.S]
  rw[show decide (iA g.L g.R g.C ([x,y,w].getD 0 0) ([x,y,w].getD 1 0) ([x,y,w].getD 2 0))=true from N3 hi] at q
  show q
 ·rw[N5 hi]
  show fN ?_
  rw[show decide (iA g.L g.R g.C ([x,y,w].getD 0 0) ([x,y,w].getD 1 0) ([x,y,w].getD 2 0))=false from N5 hi] at q
  show q
theorem xN:ku P w K mg O_ 1 "priced" "Floor.priced" uw ["self", "one", "two"] (kX Oc):=by
 show rd ["self", "one", "two", "tolls", "ahead", "across"] λnd _ _ _ _ _ H vs Q E hr h=>?_
 let⟨p,pr,vi,rd,td,a,b,g,x,y,w,x',s,A,rfl,B,hg,ha,hb,hi,j,I,q⟩:=h
 show⟨_,(au (a9 3 nd (aA bh (df K7 K_ Lv (fh hr) (bq (aq 0) Z) (aF (aq 1) ao)) (df K7 K_ Lv (fh hr) (bq (aq 0) Z) (aF (aq 2) ao)))) (au (cK (cu iw (aG aD (aq 1) ao) (aG aD (aq 2) ao)) (aL (aA bh (aG aQ (bq (aq 0) Z) (bW (gb Z) T.min_ (aF (aG aD (aq 1) ao) (aG aD (aq 2) ao)))) (aq 3)))) (aS (eK (aG aQ (bq (aq 0) Z) (aG aD (aq 1) ao)) (cq Z (az (bw 4 nd) (az (bw 5 nd) bB)))) (aL (aA bh (jt (cu eZ (aG aD (aq 1) ao) (aG aD (aq 2) ao)) (aq 4) (aq 5)) (aq 3)))))),?_⟩
 let⟨dx,z,h1,h2⟩:=B.ex
 let⟨i1,i2,S,U,Z0,i6⟩:=hi
 let⟨j1,W,X,Y,j5,j6⟩:=j
 let M:=dg (x:=[x,y,w]) (.inl B.td) ha
 let L:=dg (x:=[x',s,A]) (.inl B.td) hb
 show cM (v:=.int (fb g.R g.C g.ts [x,y,w]+fb g.R g.C g.ts [x',s,A])) (aR (fP (fT (kP ∅ h1 T.cl_Floor T.na_Floor_tolls Jk) ∅ aB B.td M) (hZ hg.tv _)) (fP (fT (kP ∅ h1 T.cl_Floor T.na_Floor_tolls Jk) ∅ aB B.td L) (hZ hg.tv _))) ?_
 let o:=hg.vl
 let n:=hg.pl
 let r:x'=x\/x'=x - 1\/x'=x+1:=by
  unfold eQ mU at I
  simp only[JO,List.cons.injEq,KD,or_false,and_true] at I
  lia
 show q_ (ay (gz (aJ (v:=.int x) ∅ aB (a_.of ha) Z) (aJ (v:=.int x') ∅ aB (a_.of hb) Z))) (λe=>?_) (λe=>?_)
 ·let e:x≠x':=by simpa using e
  let hm:(min x x').toNat<↑g.vs:=by lia
  let d:jT (g.vs.map V.int) (if x'<x then x' else x)>.int (g.vs.getD (min x x').toNat 0):=by
   rw[DK]
   have:min x x'=(((min x x').toNat:Nat):Int):=by lia
   rw[this]
   show cE ?_
   rw[Kv,JV,JS,JU hm];rfl
  show cx (fP (aR (bN (v:=.int (g.vs.getD (min x x').toNat 0)) (kP ∅ h1 T.cl_Floor T.na_Floor_vias JB) (cI (v:=.int (if x'<x then x' else x)) (ak (aJ (v:=.int x) ∅ aB (a_.of ha) Z) (ak (aJ (v:=.int x') ∅ aB (a_.of hb) Z) ax)) λQ' N=>⟨_,_,Z,N⟩) (aN.of B.vi) d) ∅) (c:=.int (cV g [x,y,w] [x',s,A])) ?_) q
  unfold cV bare
  rw[N1 (show [x,y,w].getD 0 0≠[x',s,A].getD 0 0 from e)]
  change V.int (_+_)=V.int _
  congr 1
  show LM _ _
 ·let e:x=x':=by simpa using e
  let⟨as,O,p2⟩:=B.pr
  let J:x.toNat<↑g.ps:=by lia
  let m:x.toNat<↑as:=Nb.length p2<|J
  obtain⟨aa,D⟩:∃aa,as[x.toNat]?>aa:=⟨_,JU m⟩
  let⟨c,F,l⟩:=cn p2 D
  let⟨u,v,rfl,_⟩:=hg.pp c (JY F)
  let k:g.ps.getD x.toNat []=[u,v]:=by rw[JS,F];rfl
  let d:jT (as.map V.ref) x>.ref aa:=by
   have:x=((x.toNat:Nat):Int):=by lia
   rw[this]
   show cE ?_
   rw[JV,D];rfl
  show⟨_,Z,p,Oc,dx,_,_,Z,h1,T.cl_Floor,T.na_Floor_prices,Jp,_,Z,_,_,_,_,Z,Z,a_.of ha,Z,_,_,_,_,Z,Z,aN.of O,d,aa,_,Z,a_.of l,Z,_,_,Z,_,_,Z,Z,?_⟩
  let f:bare g [x,y,w] [x',s,A]=if y=s then u else v:=by
   unfold bare
   rw[N0 (show¬[x,y,w].getD 0 0≠[x',s,A].getD 0 0 from λh=>h e)]
   change(if y=s then (g.ps.getD x.toNat []).getD 0 0 else (g.ps.getD x.toNat []).getD 1 0)=_
   rw[k];rfl
  let i:cV g [x,y,w] [x',s,A]=(if y=s then u else v)+(fb g.R g.C g.ts [x,y,w]+fb g.R g.C g.ts [x',s,A]):=by
   unfold cV
   rw[f];show LM _ _
  rw[i] at q
  show st ?_
  show gZ (gH ?_)
  by_cases hy:y=s
  ·rw[N1 hy] at q
   show F3 (c9 (ay (dR (aJ (v:=.int y) ∅ aB (a_.of ha) Z) (aJ (v:=.int s) ∅ aB (a_.of hb) Z))) (N3 hy)) ?_
   show⟨_,Z,_,Z,_,_,Z,Z,q⟩
  ·rw[N0 hy] at q
   show Ex (c9 (ay (dR (aJ (v:=.int y) ∅ aB (a_.of ha) Z) (aJ (v:=.int s) ∅ aB (a_.of hb) Z))) (N5 hy)) ?_
   show⟨_,Z,_,Z,_,_,Z,Z,q⟩
theorem zw (i:aU P w K mg O_ "spots_round" 1 ["spot"] uD)(j:bQ P w K mg O_ Oc "is_rock" 3 ["self", "spot"] (qG Oc))(m:bQ P w K mg O_ Oc "is_open" 2 ["self", "spot"] (kY Oc))(k:bQ P w K mg O_ Oc "priced" 1 ["self", "one", "two"] (kX Oc)):ku P w K mg O_ 4 "steps" "Floor.steps" yE ["self", "spot"] (uF Oc):=by
 show rd ["self", "spot"] λnd _ _ _ _ _ H vs Q E hr h=>?_
 let⟨p,pr,vi,rd,td,b,g,x,y,w,rfl,v,hg,hb,hi,q⟩:=h
 show⟨_,(aS (cK (gu (de (aq 0) T.cl_Floor j (hr.mono (by decide)) (aI (aq 1)))) (aL (bL cW))) (aL (jb ["other"] ["spot", "self"] [1,0] (aY (bR i hr (aI (aq 1)))) (eM 0) (iJ (gu (de (aq 2) (by show T.cl_Floor) (by show m) (by show(hr.mono (by decide))) (aI (aq 0))))) (bG (aF (aq 0) (de (aq 2) (by show T.cl_Floor) (by show k) (by show(hr.mono (by decide))) (aF (aq 1) (aq 0)))))))),?_⟩
 let f:N9=2^24:=rfl
 let⟨dx,z,h1,h2⟩:=v.ex
 show kM ⟨_,Z,p,dx,_,Z,h1,Js,_,Z,p,pr,vi,rd,td,b,g,x,y,w,Z,v,hg,hb,hi,_,Z,?_⟩
 by_cases hr:Es g [x,y,w]=true
 ·rw[hr]
  show gT ?_
  show⟨J4 _,λl B=>q _ l ((aw.refl H).upd B) B ⟨[],ag,?_⟩⟩
  unfold fD
  rw[N1 hr];show .nil
 ·rw[show Es g [x,y,w]=false by simpa using hr]
  show fN ?_
  show gZ ⟨_,Z,b,x,y,w,Z,hb,λH1 l s1 B N=>?_⟩
  let⟨as,M,J⟩:=N
  show⟨l,Z,⟨_,aN.of M⟩,λD I=>?_⟩
  show zq (K:=K) (nj g) (λc=>cV g [x,y,w] c) [some (.ref b),some (.ref p)] I (λH' s=>aN.of (s _ _ M)) J (by rw[Nb.length J];unfold mU;simp) (λa c H' u e s=>?_) λH' O s S hq=>?_
  ·let r:=s1.trans s
   obtain⟨o,n,w',rfl⟩:∃o n w',c=[o,n,w']:=by
    unfold mU at u
    simp only[JO,KD,or_false] at u
    rcases u with h|h|h|h|h|h<;>show⟨_,_,_,h⟩
   show⟨B0 λQ' F=>⟨_,Z,p,dx,_,Z,r _ _ h1,IF,_,Z,p,pr,vi,rd,td,a,g,o,n,w',Z,v.same r,hg,s _ _ e,F⟩,λA=>λQ' F=>?_⟩
   let d:iA g.L g.R g.C o n w':=by
    unfold nj km at A
    rw[Kd] at A
    show N4 A.1
   show⟨_,Z,p,dx,_,Z,r _ _ h1,Hz,_,Z,_,Z,p,pr,vi,rd,td,b,a,g,x,y,w,o,n,w',Z,v.same r,hg,r _ _ hb,s _ _ e,hi,d,u,F⟩
  ·show q H' D (s1.trans s) (dD s1 I) ⟨O,S,?_⟩
   unfold fD
   rw[N0 hr]
   show hq
theorem tR (ba:bQ P w K mg O_ Oc "steps" 4 ["self", "spot"] (uF Oc)):gE P w K mg O_ 5 "leads_in" q9 ["floor", "free"] (ot Oc):=by
 show rd ["floor", "free", "leads", "spot"] λnd _ _ _ _ _ H vs Q E hr h=>?_
 let⟨p,pr,vi,rd,td,e,g,F',rfl,hF,hg,he,hT,nr,nt,q⟩:=h
 show⟨_,(au (a9 2 nd du) (aS (jM (dq (kK (aq 1)) (bw 3 nd) (aW (dE (aT.one hr) (aq 2) (aq 3) (jb ["other", "price"] ["free"] [1] (aY (de (aq 0) T.cl_Floor ba (hr.mono (by decide)) (aI (aq 3)))) (ie (K:=K) (n:=2) Z Z (az (eM 0) (az (eM 1) bB)) Z Z) (iJ (fU (jD (by show(aT.one hr)) (aq 0) (aq 2)))) (bG (aF (aq 0) (aq 1)))) (by rfl))))) (aL (aq 2)))),?_⟩
 let a5:N9=2^24:=rfl
 let S:=hg.S
 let hm:=hg.m
 let few:=hT.few
 show cH λRh b4=>λd nd=>?_
 show b4 _ _ ?_
 let s1:aw H (Ob H d (.dT [])):=(aw.refl H).upd nd
 let N:Ob H d (.dT []) d>.dT []:=ag
 revert s1 N
 generalize Ob H d (.dT [])=H1
 intro s1 N
 let M:=s1 _ _ he
 let r:d≠e:=λz=>by rw[z,he] at nd;cases nd
 show⟨e,.dT (bg g.R g.C F'),M,trivial,λo=>?_⟩
 show⟨_,Z,e,o,.dT (bg g.R g.C F'),Z,ag,trivial,?_⟩
 let R:=hF.same s1
 let ar:Bt [e] H1 (Ob H1 e (.frz o (.dT (bg g.R g.C F')))):=(Bt.refl _ H1).set (JJ.mpr Z)
 let W:∀l∈[e],(∀xs,H1 l≠some (.tup xs))/\∀C dx fs,H1 l≠some (.ins C dx fs):=λl hl=>by
  rw[JJ.mp hl,M];show⟨(λ_ z=>by cases z),λ_ _ _ z=>by cases z⟩
 let ac:∀{b:N8} {zs:-V},H1 b>.lst zs->b∉[e]:=fun{b zs} h m=>by rw[JJ.mp m,M] at h;cases h
 let⟨a6,an,_⟩:=id R.pr
 let c:FA Oc (Ob H1 e (.frz o (.dT (bg g.R g.C F')))) p pr vi rd td g:=R.bt ar W (ac an) (ac R.vi) (λm=>nr (JJ.mp m).symm) (λm=>nt (JJ.mp m).symm)
 let A:Ob H1 e (.frz o (.dT (bg g.R g.C F'))) e>.frz o (.dT (bg g.R g.C F')):=ag
 let f:Ob H1 e (.frz o (.dT (bg g.R g.C F'))) d>.dT []:=aj r<|N
 let J:∀H',Bt [d] (Ob H1 e (.frz o (.dT (bg g.R g.C F')))) H'->aw H (Ob H' e (.dT (bg g.R g.C F'))):=λH' bt b x eb=>by
  by_cases z:b=e
  ·subst z;rw[ag,<-he,eb]
  ·rw[aj z]
   show bt b x (λm=>?_) (aj z<|s1 _ _ eb)
   rw[JJ.mp m,nd] at eb;cases eb
 revert c A f J
 generalize Ob H1 e (.frz o (.dT (bg g.R g.C F')))=HF
 intro c A f J
 let⟨dx,z,h1,h2⟩:=c.ex
 show jd (λi σ H'=>∃(x3:Option V) (ls:-(Nat×V)),σ=[some (.ref p),some (.ref e),some (.ref d),x3]/\Bt [d] HF H'/\H' d>.dT (bg g.R g.C ls)/\ls.map (·.1)=(F'.map (·.1)).take i/\∀y∈ls,∃l,y.2=.ref l/\vo H' l (lD g F' (sN g.R g.C y.1)))
  ⟨none,[],Z,Bt.refl _ HF,f,by simp,λ_ h=>by cases h⟩ (λi σ H' _ hz=>by let⟨_,_,_,bt,_⟩:=hz;show bt e _ (λm=>r (JJ.mp m).symm) A) ?_ ?_
 ·rintro i x v σ H' ⟨k,b,hk,rfl,hb⟩ hi ⟨x3,ls,rfl,bt,hd,B,U⟩
  rw[show bg g.R g.C F'=F'.map λp=>(iK (sN g.R g.C p.1),p.2) from Z,JV] at hk
  let⟨y,hy,ey⟩:=Kc.mp hk
  let ey:(iK (sN g.R g.C y.1),y.2)=(k,v):=ey
  cases ey
  let hb:H' b>.tup ((sN g.R g.C y.1).map V.int):=by
   have:=hb
   unfold iK at this
   rw[fQ] at this
   show this
  let hn:=hT.lt y (JY hy)
  let ap:=iG S (n:=y.1) (by have:=hg.M;lia)
  let kd:∀l∈[d],(∀xs,HF l≠some (.tup xs))/\∀C dx fs,HF l≠some (.ins C dx fs):=λl hl=>by
   rw[JJ.mp hl,f];show⟨(λ_ z=>by cases z),λ_ _ _ z=>by cases z⟩
  let av:FA Oc H' p pr vi rd td g:=by
   let⟨a3,q1,_⟩:=id c.pr
   let nn:∀{b:N8} {u:HO},HF b>u->(∀bA,u≠.dT bA)->b∉[d]:=fun{b u} h hu m=>by
    rw[JJ.mp m,f] at h;cases h;show hu _ Z
   show c.bt bt kd (nn q1 λ_ z=>by cases z) (nn c.vi λ_ z=>by cases z) (λm=>?_) (λm=>?_)
   ·have:=hF.rd
    rw[JJ.mp m,nd] at this;cases this
   ·have:=hF.td
    rw[JJ.mp m,nd] at this;cases this
  let a0:=bt p _ (λm=>(kd p m).2 _ _ _ h1) h1
  let F:=bt e _ (λm=>r (JJ.mp m).symm) A
  show gn (qr ?_)
  show⟨_,Z,p,dx,_,Z,a0,Jz,_,Z,p,pr,vi,rd,td,b,g,_,_,_,Z,av,hg,hb,ap,λH2 l s2 nl hl=>?_⟩
  let⟨qs,e1,e2⟩:=hl
  replace e2:Nb (y_ H2) qs (fD g (sN g.R g.C y.1)):=e2
  let lq:↑qs<=6:=by
   rw[Nb.length e2]
   unfold fD
   split
   ·simp
   ·rw[JF]
    show J1 (Lf _ _) (by unfold mB mU;simp)
  show⟨l,Z,⟨_,aN.of e1⟩,λD nD=>?_⟩
  let ad:=s2 _ _ F
  show aK (K:=K) (xs:=qs.map V.ref) (λi τ H3=>∃(x0 x1:Option V) (us:-N8),τ=[x0,x1,some (.ref e)]/\aw H2 H3/\H3 D>.lst (us.map V.ref)/\Nb (y_ H3) us (((fD g (sN g.R g.C y.1)).take i).filter λx=>ve g.R g.C F' x.1)/\↑us<=i) ⟨none,none,[],Z,(aw.refl H2).upd nD,ag,by simp;show .nil,JG _⟩ (λi τ H3 _ hz=>by let⟨_,_,_,_,s,_⟩:=hz;show aN.of (s _ _ e1)) ?_ ?_
  ·rintro j x τ H3 hx ⟨x0,x1,us,rfl,s3,hD,I,a2⟩
   let⟨a,ha,rfl⟩:=b_ hx
   let⟨ct,ab,b',a1,Z0⟩:=fk e2 ha
   let hj:j<↑qs:=(JX.mp ha).1
   show⟨a,_,Z,a_.of (s3 _ _ a1),Z,?_⟩
   show⟨_,_,Z,gn ?_⟩
   show⟨_,_,Z,gn ?_⟩
   show⟨Z,?_⟩
   let ah:=dg (x:=ct.1) (.inr ⟨_,s3 _ _ ad⟩) (s3 _ _ Z0)
   show(ay (iL ∅ ∅ ah)) _ ?_
   cases hf:(aE (bg g.R g.C F') (iK ct.1)).isSome with
   |true=>
    show gT ?_
    show pD (vs:=[.ref b',.int ct.2]) (ak ∅ (ak ∅ ax)) (by change 2<=N9;decide) λt nt=>?_
    let Y:t≠D:=JH (ai hD nt)
    show⟨us.map V.ref,aj (JH Y)<|hD,by rw[JF];lia,_,_,us++[t],Z,aP (s3.upd nt) nD,by rw[ag,JM];rfl,?_,qO (by assumption)⟩
    rw[bp ab,Le,LG (p:=λx:T3×Int=>ve g.R g.C F' x.1) (a:=ct) hf]
    show e_ (c_ I (cg hD nt)) (.cons ⟨b',by rw[aj Y,ag],cg hD nt _ _ (s3 _ _ Z0)⟩ .nil)
   |false=>
    show fN ⟨_,_,us,Z,s3,hD,?_,()⟩
    rw[bp ab,Le,LH (p:=λx:T3×Int=>ve g.R g.C F' x.1) (a:=ct) (by change¬ve g.R g.C F' ct.1=true;unfold ve;rw[hf];decide),Mr,J6]
    show I
  ·rintro τ H3 ⟨x0,x1,us,rfl,s3,hD,I,a2⟩
   rw[JF,Nb.length e2,Kb] at I
   let L:=s2.trans s3
   let O:=L _ _ hd
   let aa:(F'.map (·.1))[i]?>y.1:=by rw[JV,hy];rfl
   let af:aE ls y.1=none:=by
    cases ev:aE ls y.1 with
    |none=>rfl
    |some v=>
     have:=fj.mp (show(aE ls y.1).isSome=true by rw[ev];rfl)
     rw[B] at this
     show absurd this (vH hT.nd aa)
   let a4:↑ls<=↑F':=by
    have:=congrArg List.length B
    rw[JF,KH,JF] at this
    lia
   show⟨_,Z,_,Z,d,_,Z,fg.t (k:=iK (sN g.R g.C y.1)) O (f9 (L _ _ hb)) (by rw[bT];lia),?_⟩
   let am:∀b xs,H3 b>.tup xs->Ob H3 d (.dT (bC (bg g.R g.C ls) (iK (sN g.R g.C y.1)) (.ref D))) b>.tup xs:=λb xs e=>by rw[aj (bz e O (λz=>by cases z))];show e
   let X:∀{l:N8} {xs:-(T3×Int)},vo H3 l xs->vo (Ob H3 d (.dT (bC (bg g.R g.C ls) (iK (sN g.R g.C y.1)) (.ref D)))) l xs:=fun{l xs} ⟨qs,e1,e2⟩=>⟨qs,aj (bz e1 O (λz=>by cases z))<|e1,c_ e2 am⟩
   show⟨_,ls++[(y.1,.ref D)],Z,(bt.same L).set (JJ.mpr Z),?_,?_,λz hz=>?_⟩
   ·rw[ag,eS S,fZ _ af]
   ·rw[JM,B,bp aa];rfl
   ·rcases J3.mp hz with hz|hz
    ·let⟨l',e3,e4⟩:=U z hz
     show⟨l',e3,X (e4.same L)⟩
    ·rw[JJ.mp hz]
     show⟨D,Z,X ⟨us,hD,I⟩⟩
 ·rintro σ H' ⟨x3,ls,rfl,bt,hd,B,U⟩
  let F:=bt e _ (λm=>r (JJ.mp m).symm) A
  show⟨F,?_⟩
  show cx ∅ (q _ d (J H' bt) nd ⟨ls,aj r<|hd,?_,λy hy=>?_⟩)
  ·rw[B]
   change(F'.map (·.1)).take ↑(bg g.R g.C F')=_
   rw[bT,Mn (by simp)]
  ·let⟨l,e1,qs,e2,e3⟩:=U y hy
   show⟨l,e1,qs,aj (λz=>by rw[z,F] at e2;cases e2)<|e2,c_ e3 λb ys eb=>by rw[aj (λz=>by rw[z,F] at eb;cases eb)];show eb⟩
theorem wA(F:za K "arcs_in" "arcs_in" gr f fd)(n:fd.code=.ref (fG K "arcs_in").1)(v:Mm K (fG K "arcs_in").1 (fG K "arcs_in").2=true)(m:O_.BuiltinsAt mg (fG K "arcs_in").2)(u:Nj≠(fG K "arcs_in").2)(a:aU P w K mg O_ "leads_in" 5 ["floor", "free"] (ot Oc)):eL P w K mg O_ jH 6 f fd ["floor", "free"] (mD K mg Oc):=by
 let y:eF ["floor", "free", "leads"] ["floor", "free"] (aM gr):=⟨Z,Z,Z,by decide+kernel,Z,by decide+kernel,by decide+kernel⟩
 let nd:=y.nd
 show F.okG1 (i1:=2) (y1:= "leads") (a1:=1) n y (λvs H Q E h=>by first|(cases h;subst_vars;rfl)|repeat (first|(let⟨rfl,_⟩:=h;rfl)|(let⟨_,h⟩:=h))) Z (by decide+kernel) (λ_=>rfl) (by decide) (λA r s H vs Q E hr h=>?_)
 let⟨p,pr,vi,rd,td,e,g,F',rfl,O,hg,D,M,N,L,C,q⟩:=h
 show⟨_,(yw (a9 2 y.nd (AR a (hr.mono (by decide)) (by rfl) (aO (aq 0) (aO (aq 1) cW))))
 (BW (Bu Z (by rfl) Z v m u))),?_⟩
 show cw (ak ∅ (ak ∅ ax)) ⟨p,pr,vi,rd,td,e,g,F',Z,O,hg,D,M,N,L,λH1 d s1 nd J=>?_⟩
 show⟨#[],s1 _ _ C,?_,Z,λf' I X o HH nf Z0 ne k keep tb i c=>?_⟩
 ·show trivial
 show⟨.ref d,Z,λB S l n0 U W=>?_⟩
 let T:∀b x,H1 b>x->(∀ps,x≠.tbl ps)->Ob HH (~~~s+1) (iN (~~~s+1) B) b>x:=λb x j R=>by
  let hb:HH b>x:=keep b x j (λz=>by rw[z,s1 _ _ C] at j;cases j;show R _ Z)
  rw[aj (ai hb l)];show hb
 cases(show S=N7.ref d from W)
 show q _ f' (λb x Y j=>?_) ⟨~~~s+1,I,o,X,B,d,(λz=>by rw[z,D] at nd;cases nd),aj (ai c l)<|c,aj (ai i l)<|i,k,ag,U,J.keep T⟩
 let hb:=keep b x (s1 _ _ j) Y
 rw[aj (ai hb l)];show hb
theorem Bs:gE P w K mg O_ 1 "_law_cell_at" DL ["script", "k"] (so K):=by
 show rd ["script", "k"] λnd _ _ _ _ _ H vs Q E hr h=>?_
 let⟨a,ns,i,rfl,ha,d,q⟩:=h
 show⟨_,(aS (cK (cu eO (aq 1) (bW bc T.len_ (aI (aq 0)))) (aL (aG aQ (aq 0) (aq 1)))) (aL ao)),?_⟩
 show dI (ay (aR ∅ (cI (ak ∅ ax) λQ' c=>⟨_,_,Z,by first|show .inl ⟨_,by assumption,Z⟩|show .inl ⟨_,aN.of (by assumption),Z⟩|show .inr ⟨_,by assumption,Z⟩|show .inr ⟨_,a_.of (by assumption),Z⟩,c⟩))) (λe=>?_) (λ_=>?_)
 ·let b:i<(↑(ns.map V.int):Int):=N4 e
  rw[JF] at b
  let⟨j,rfl⟩:=Mq d
  let f:j<ns.length:=by omega
  show cx (bN (v:=.int ns[j]) ∅ ∅ ha (cE (by simp[f]))) (q _)
 ·show q 0
theorem CT:ku P w K mg O_ 1 "__init__" "Heap.__init__" DM ["self"] (zQ Of):=by
 show rd ["self"] λnd _ _ _ _ _ H vs Q E hr h=>?_
 let⟨p,dx,rfl,hp,q⟩:=h
 show⟨_,(aW (dJ (aq 0) (bL cW) Z)),?_⟩
 show⟨J4 _,λa d=>?_⟩
 let c:p≠a:=ai hp d
 show⟨_,Z,p,Of,dx,[],Z,(aj c<|hp),T.cl_Heap,T.na_Heap_pairs,(by change 0<1000;decide),?_⟩
 show q a _ d ⟨⟨dx,ag⟩,by rw[aj (JH c),ag]⟩ λb o e g f=>by rw[aj g,aj f];show e
theorem CM:ku P w K mg O_ 1 "many" "Heap.many" Eh ["self"] (sW Of):=by
 show rd ["self"] λnd _ _ _ _ _ H vs Q E hr h=>?_
 let⟨p,a,b,rfl,ha,q⟩:=h
 show⟨_,(aW (aL (bW bc T.len_ (aI (bq (aq 0) Z))))),?_⟩
 let⟨dx,hp⟩:=ha.ob
 show⟨_,Z,p,Of,dx,_,_,Z,hp,T.cl_Heap,T.na_Heap_pairs,Z,_,_,Z,.inl ⟨_,aN.of ha.ls,Z⟩,q⟩
theorem E3:ku P w K mg O_ 1 "add" "Heap.add" Gq ["self", "price", "mark"] (vO Of):=by
 show rd ["self", "price", "mark", "pair", "place"] λnd _ _ _ _ _ H vs Q E hr h=>?_
 let⟨p,a,vs,ks,pr,m,l,rfl,ha,C,R,hm,hl,q⟩:=h
 show⟨_,(au (a9 3 nd (bG (aF (aq 1) (aq 2)))) (au (a9 4 nd (bW bc T.len_ (aI (bq (aq 0) Z)))) (au (bj (df Kw KN KP bZ (bq (aq 0) Z) (aI (aq 3)))) (aS (fH NN.never (jJ (cu uB (aq 4) ao) (il (cu (yS hr) (aq 3) (aG aQ (bq (aq 0) Z) (aA dt (aA cL (aq 4) ao) ao))))).pt (aS (eK (aG aQ (bq (aq 0) Z) (aA dt (aA cL (aq 4) ao) ao)) (g0 (bq (aq 0) Z) (aq 4) eW)) (a9 4 nd (aA dt (aA cL (aq 4) ao) ao)))) (eK (aq 3) (g0 (bq (aq 0) Z) (aq 4) eW)))))),?_⟩
 let⟨dx,hp⟩:=ha.ob
 let eA:=ha.ls
 let pa:p≠a:=λz=>by rw[z,eA] at hp;cases hp
 show cH λRh W=>⟨_,Z,_,Z,(by change 2<=N9;decide),λt Z0=>?_⟩
 show W _ _ ?_
 let k:Ob H t (.tup [.int pr,m]) p>.ins Of dx [("pairs",.ref a)]:=aj (ai hp Z0)<|hp
 let d:Ob H t (.tup [.int pr,m]) a>.lst vs:=aj (ai eA Z0)<|eA
 let u:TK H (Ob H t (.tup [.int pr,m])):=TK.new Z0
 let B:wc (Ob H t (.tup [.int pr,m])) (.ref t) (pr::l):=⟨t,pr,m,l,Z,ag,hm.kept u,Z⟩
 let b1:si H (Ob H t (.tup [.int pr,m])) p a:=λb o e _ _=>by rw[aj (ai e Z0)];show e
 revert k d u B b1
 generalize Ob H t (.tup [.int pr,m])=H1
 intro k d u B b1
 show cH λRh W=>⟨_,Z,p,Of,dx,_,_,Z,k,T.cl_Heap,T.na_Heap_pairs,Z,_,_,Z,.inl ⟨_,aN.of d,Z⟩,?_⟩
 show W _ _ ?_
 show⟨_,Z,p,Of,dx,_,_,Z,k,T.cl_Heap,T.na_Heap_pairs,Z,.inl ⟨Z,_,aN.of d⟩,_,Z,a,_,_,Z,Z,d,d_ (),?_⟩
 let A:Ob H1 a (.lst (vs++[.ref t])) p>.ins Of dx [("pairs",.ref a)]:=aj pa<|k
 let y:Ob H1 a (.lst (vs++[.ref t])) a>.lst (vs++[.ref t]):=ag
 let s:TK H1 (Ob H1 a (.lst (vs++[.ref t]))):=TK.lst d
 let b2:si H (Ob H1 a (.lst (vs++[.ref t]))) p a:=λb o e Y S=>by rw[aj S];show b1 b o e Y S
 revert A y s b2
 generalize Ob H1 a (.lst (vs++[.ref t]))=H2
 intro A y s b2
 dsimp only
 let L:=B.kept s
 show hU (λn σ H'=>∃(pl:Nat) (X:-V) (U:-(-Int)),σ=[some (.ref p),some (.int pr),some m,some (.ref t),some (.int (pl:Nat))]/\pl=n/\H' p>.ins Of dx [("pairs",.ref a)]/\H' a>.lst X/\ji H' X U/\
   Hp.Up HT.lexLt [] U pl (pr::l)/\(U.set pl (pr::l)).Perm (ks++[pr::l])/\wc H' (.ref t) (pr::l)/\si H H' p a)
  ⟨_,↑vs,vs++[.ref t],ks++[pr::l],Z,Z,A,y,((C.kept u).kept s).snoc L,C.1<|Hp.Up.start R _,by rw[C.1];simp,L,b2⟩ ?_
 rintro n σ H3 ⟨pl,F,O,rfl,rfl,v,c,f,up,x,D,b3⟩
 let r:pl<↑F:=f.1<|up.at'
 let M:∀{σ:St},σ[0]?>some (.ref p)->Ev (rP K (bI 0) "pairs") σ H3 (.ref a):=λe Q q=>⟨_,e,p,Of,dx,_,_,Z,v,T.cl_Heap,T.na_Heap_pairs,Z,q⟩
 let I:0<pl->(((pl:Nat):Int) - 1)/2=((Hp.par pl:Nat):Int):=λh=>by simp only[Hp.par];lia
 let g:Hp.par pl<↑F:=by simp only[Hp.par];lia
 let J:0<pl->Ev (e9 (jF K) (rP K (bI 0) "pairs") (e9 (rI uP λi j=>V.int (i/j)) (e9 (sI λi j=>V.int (i - j)) (bI 4) (tC (V.int 1))) (tC (V.int 2)))) [some (.ref p),some (.int pr),some m,some (.ref t),some (.int (pl:Nat))] H3 (F.getD (Hp.par pl) .non):=λh=>
  bN (M Z) (cY (aR ∅ aB) aB ⟨by decide,by decide⟩) (aN.of c) (I h<|cE (gA g))
 show⟨decide ((0:Int)<((pl:Nat):Int))&&HT.lexLt (pr::l) (O.getD (Hp.par pl) []),jx (ay (aR ∅ aB)) (λe=>?_),λe N hN=>?_,λe=>?_⟩
 ·let h0:(0:Int)<((pl:Nat):Int):=N4 e
  show ay λQ' q'=>⟨_,Z,J () _ ⟨_,_,D.of,(f.get g).of,q'⟩⟩
 ·rw[Kd] at e
  let h0:0<pl:=by have:=N4 e.1;lia
  show p8 (J h0 _ ?_)
  show M Z _ ⟨_,Z,a,_,_,pl,Z,Z,c,fi r,?_⟩
  show lB (cY (aR ∅ aB) aB ⟨by decide,by decide⟩) (hN (Hp.par pl) _ _ (by simp only[Hp.par];lia) ⟨Hp.par pl,_,_,by rw[<-I h0];rfl,Z,aj pa<|v,ag,(f.kept (TK.lst c)).set r ((f.get g).kept (TK.lst c)),up.step rp h0 e.2,?_,D.kept (TK.lst c),λb o e Y S=>by rw[aj S];show b3 b o e Y S⟩)
  show(Hp.up_perm up.at' (by rw[<-f.1];show g) (by simp only[Hp.par];lia)).trans x
 ·show⟨_,Z,_,Z,p,Of,dx,_,_,Z,v,T.cl_Heap,T.na_Heap_pairs,Z,_,Z,a,_,_,pl,Z,Z,c,fi r,?_⟩
  show q _ _ _ ⟨⟨dx,aj pa<|v⟩,ag⟩ ((f.kept (TK.lst c)).set r (D.kept (TK.lst c))) (up.done ?_) x λb o e Y S=>by rw[aj S];show b3 b o e Y S
  rcases Bool.and_eq_false_iff.mp e with z|z
  ·show .inl (by have:=N6 z;lia)
  ·show .inr z
theorem CV:ku P w K mg O_ 1 "sink" "Heap.sink" DV ["self", "pair"] (yH Of):=by
 show rd ["self", "pair", "pairs", "place", "child"] λnd _ _ _ _ _ H vs Q E hr h=>?_
 let⟨p,a,vs,ks,x,L,rfl,ha,y,B,h0,hx,hl,q⟩:=h
 show⟨_,(au (a9 2 nd (bq (aq 0) Z)) (au (a9 3 nd ao) (au (a9 4 nd ao) (aS (fH NN.never (cu eO (aq 4) (bW bc T.len_ (aI (aq 2)))) (au (cK (jJ (cu eO (aA bh (aq 4) ao) (bW bc T.len_ (aI (aq 2)))) (il (cu (yS hr) (aG aQ (aq 2) (aA bh (aq 4) ao)) (aG aQ (aq 2) (aq 4))))).pt (a9 4 nd (aA bh (aq 4) ao))) (au (cK (cu (FQ hr) (aq 1) (aG aQ (aq 2) (aq 4))) ze) (au (eK (aG aQ (aq 2) (aq 4)) (g0 (aq 2) (aq 3) eW)) (aS (a9 3 nd (aq 4)) (a9 4 nd (aA bh (aA cJ ao (aq 3)) ao))))))) (eK (aq 1) (g0 (aq 2) (aq 3) eW)))))),?_⟩
 let⟨dx,hp⟩:=ha.ob
 let eA:=ha.ls
 let pa:p≠a:=λz=>by rw[z,eA] at hp;cases hp
 show cH λRh X=>⟨_,Z,p,Of,dx,_,_,Z,hp,T.cl_Heap,T.na_Heap_pairs,Z,?_⟩
 show X _ _ ?_
 show cM aB ?_
 show cM aB ?_
 show hU (λn σ H'=>∃(D:Nat) (J:-V) (I:-(-Int)),σ=[some (.ref p),some x,some (.ref a),some (.int (D:Nat)),some (.int ((2*D+1:Nat):Int))]/\↑J - D=n/\H' p>.ins Of dx [("pairs",.ref a)]/\H' a>.lst J/\ji H' J I/\
   Hp.Dn HT.lexLt [] I D L/\(I.set D L).Perm (ks.set 0 L)/\wc H' x L/\si H H' p a)
  ⟨_,0,vs,ks,Z,Z,hp,eA,y,Hp.Dn.start B (by rw[<-y.1];show h0) L,List.Perm.refl _,hx,si.refl _ _ _⟩ ?_
 rintro n σ H3 ⟨D,g,i,rfl,rfl,A,f,d,dn,k,r,b3⟩
 let j:D<↑g:=d.1<|dn.at'
 let u:∀(c:Option V),Hp.Hpy HT.lexLt [] (i.set D L)->Q .non (Ob H3 a (.lst (g.set D x))):=λc h=>
  q _ _ _ ⟨⟨dx,aj pa<|A⟩,ag⟩ ((d.kept (TK.lst f)).set j (r.kept (TK.lst f))) h k λb o e Z0 M=>by rw[aj M];show b3 b o e Z0 M
 let m:∀{σ:St},σ[2]?>some (.ref a)->Ev (zf (λxs H Q=>∃x n,xs=[x]/\CI K x H n/\Q (V.int (n:Int)) H) (cz (bI 2) e8)) σ H3 (.int (↑g:Nat)):=λe=>cI (ak (ae e) ax) λQ' S=>⟨_,_,Z,.inl ⟨_,aN.of f,Z⟩,S⟩
 show⟨_,ay (aR ∅ (m Z)),λe N hN=>?_,λe=>?_⟩
 ·let O:2*D+1<↑g:=by have:=N4 e;lia
  show Fx (λσ H'=>∃c:Nat,σ=[some (.ref p),some x,some (.ref a),some (.int (D:Nat)),some (.int (c:Nat))]/\H'=H3/\Hp.Least HT.lexLt [] i D c)
   (b:=decide (((2*D+1:Nat):Int)+1<((↑g:Nat):Int))&&HT.lexLt (i.getD (2*D+2) []) (i.getD (2*D+1) []))
   (jx (ay (aR (aR ∅ aB) (m Z))) (λF=>?_)) (λF R Y=>?_) (λF R Y=>?_) ?_
  ·let h2:2*D+2<↑g:=by have:=N4 F;lia
   show ay λQ' S=>bN (v:=g.getD (2*D+2) .non) ∅ (aR ∅ aB) (aN.of f) (by rw[show((2*D+1:Nat):Int)+1=((2*D+2:Nat):Int) by lia];show cE (gA h2)) _
    (bN (v:=g.getD (2*D+1) .non) ∅ ∅ (aN.of f) (cE (gA O)) _ ⟨_,_,(d.get h2).of,(d.get O).of,S⟩)
  ·rw[Kd] at F
   let h2:2*D+2<↑g:=by have:=N4 F.1;lia
   show lB (aR ∅ aB) (Y _ _ ⟨2*D+2,by rw[show((2*D+2:Nat):Int)=((2*D+1:Nat):Int)+1 by lia];rfl,Z,by simp only[Hp.par];lia,(),by rw[<-d.1];show h2,λe W U ep=>?_⟩)
   have:e=2*D+1\/e=2*D+2:=by simp only[Hp.par] at ep;lia
   rcases this with rfl|rfl
   ·show rp.asym F.2
   ·show cR _
  ·show Y _ _ ⟨2*D+1,Z,Z,by simp only[Hp.par];lia,(),by rw[<-d.1];show O,λe W U ep=>?_⟩
   have:e=2*D+1\/e=2*D+2:=by simp only[Hp.par] at ep;lia
   rcases this with rfl|rfl
   ·show cR _
   ·rcases Bool.and_eq_false_iff.mp F with z|z
    ·have:=N6 z;rw[<-d.1] at U;lia
    ·show z
  rintro σ H4 ⟨c,rfl,rfl,least⟩
  let l:c<↑g:=d.1<|least.2.2.1
  let s:∀{σ:St},σ[2]?>some (.ref a)->σ[4]?>some (.int (c:Nat))->Ev (e9 (jF K) (bI 2) (bI 4)) σ H4 (g.getD c .non):=λe1 F=>bN (ae e1) (ae F) (aN.of f) (cE (gA l))
  show q_ (b:=!HT.lexLt (i.getD c []) L) (ay λQ' S=>⟨_,Z,s Z Z _ ⟨_,_,r.of,(d.get l).of,S⟩⟩) (λF=>?_) (λF=>?_)
  ·show⟨_,Z,_,Z,_,Z,a,_,_,D,Z,Z,f,fi j,u none (dn.done λe W U ep=>?_)⟩
   show rp.le_trans (by simpa using F) (least.2.2.2 e W U ep)
  ·show p8 (s Z Z _ ?_)
   show⟨_,Z,_,Z,a,_,_,D,Z,Z,f,fi j,?_⟩
   show cM ∅ ?_
   let C:D<c:=by have:=least.1;have:=least.2.1;simp only[Hp.par] at*;lia
   show lB (aR (cY aB ∅ (.inl ⟨by decide,by decide⟩)) aB) (hN (↑g - c) _ _ () ⟨c,_,_,Z,by rw[KU],aj pa<|A,ag,(d.kept (TK.lst f)).set j ((d.get l).kept (TK.lst f)),dn.step rp least (by simpa using F),?_,r.kept (TK.lst f),λb o e Z0 M=>by rw[aj M];show b3 b o e Z0 M⟩)
   show(Hp.up_perm dn.at' least.2.2.1 ()).trans k
 ·show⟨_,Z,_,Z,_,Z,a,_,_,D,Z,Z,f,fi j,u none (dn.done λc c0 O cp=>?_)⟩
  have:=N6 e
  rw[<-d.1] at O
  simp only[Hp.par] at cp
  lia
theorem Dk (hB:K.In O_)(J:bQ P w K mg O_ Of "sink" 1 ["self", "pair"] (yH Of)):ku P w K mg O_ 2 "take" "Heap.take" D4 ["self"] (Ah Of):=by
 show rd ["self", "least", "last"] λnd _ _ _ _ _ H vs Q E hr h=>?_
 let⟨p,a,vs,ks,rfl,ha,f,x,hl,B,Y⟩:=h
 show⟨_,(au (cK (cu eZ (bW bc T.len_ (aI (bq (aq 0) Z))) ao) cX) (au (a9 1 nd (aG aQ (bq (aq 0) Z) ao)) (au (a9 2 nd (EW Kw PySem.F.slot_list_pop PySem.F.type_list_pop Ez (bq (aq 0) Z))) (aS (cK (cu uB (bW bc T.len_ (aI (bq (aq 0) Z))) ao) (bj (de (aq 0) T.cl_Heap J (hr.mono (by decide)) (aI (aq 2))))) (aL (aq 1)))))),?_⟩
 let⟨dx,hp⟩:=ha.ob
 let L:=ha.ls
 let pa:p≠a:=λz=>by rw[z,L] at hp;cases hp
 let y:Ev (rP K (bI 0) "pairs") [some (.ref p),none,none] H (.ref a):=λQ q=>⟨_,Z,p,Of,dx,_,_,Z,hp,T.cl_Heap,T.na_Heap_pairs,Z,q⟩
 let F:↑vs≠0:=λz=>B (Mo z)
 show gx (b:=false) (c9 (ay (dR (cI (ak y ax) λQ' U=>⟨_,_,Z,.inl ⟨_,aN.of L,Z⟩,U⟩) aB)) (N5 ())) Z ?_
 let Z0:0<↑vs:=List.length_pos_iff.mpr B
 show cM (bN (v:=vs.getD 0 .non) y aB (aN.of L) (cE (j:=0) (gA Z0))) ?_
 show cH λRh W=>⟨_,Z,p,Of,dx,_,_,Z,hp,T.cl_Heap,T.na_Heap_pairs,Z,.inl ⟨Z,_,aN.of L⟩,a,_,vs.getD (↑vs - 1) .non,Z,Z,L,gA (),?_⟩
 show W _ _ ?_
 let d:Ob H a (.lst vs.dropLast) p>.ins Of dx [("pairs",.ref a)]:=aj pa<|hp
 let c:Ob H a (.lst vs.dropLast) a>.lst vs.dropLast:=ag
 let g:TK H (Ob H a (.lst vs.dropLast)):=TK.lst L
 let O:si H (Ob H a (.lst vs.dropLast)) p a:=λb o e X N=>by rw[aj N];show e
 revert d c g O
 generalize Ob H a (.lst vs.dropLast)=H1
 intro d c g O
 let m:∀z∈ks,HT.lexLt z (ks.getD 0 [])=false:=λz hz=>by
  let⟨n,hn,rfl⟩:=List.getElem_of_mem hz
  have:=Hp.Hpy.least rp x n hn
  rwa [show ks.getD n []=ks[n] by rw[JS,JU hn];rfl] at this
 let u:=(f.get Z0).kept g
 dsimp only
 show q_ (ay (aR (cI (ak (λQ q=>⟨_,Z,p,Of,dx,_,_,Z,d,T.cl_Heap,T.na_Heap_pairs,Z,q⟩) ax) λQ' U=>⟨_,_,Z,.inl ⟨_,aN.of c,Z⟩,U⟩) aB)) (λe=>?_) (λe=>?_)
 ·let hd:0<↑vs.dropLast:=by have:=N4 e;lia
  let A:=hd
  rw[LA] at A
  show⟨_,Z,p,dx,_,Z,d,Z,_,Z,p,a,vs.dropLast,ks.dropLast,_,ks.getD (↑ks - 1) [],Z,⟨⟨dx,d⟩,c⟩,(f.kept g).drop,x.drop,hd,?_,by rw[LA];lia,λH2 ad ac S R M I b2=>?_⟩
  ·rw[<-f.1]
   show(f.get ()).kept g
  ·let D:=b2.tk d c
   show cx ∅ (Y _ _ _ _ _ (u.kept D) S R M ((List.Perm.cons _ I).trans (wt (by rw[<-f.1];lia))) m λb o e X N=>b2 b o (O b o e X N) X N)
 ·let hd:vs.dropLast=[]:=Mo (by have:=N6 e;lia)
  let A:↑vs - 1=0:=by rw[<-LA,hd];rfl
  rw[hd] at c
  let C:ks=[ks.getD 0 []]:=by
   let s:↑ks=1:=by rw[<-f.1];lia
   rcases ks with _|⟨k,_|⟨l,r⟩⟩
   ·cases s
   ·rfl
   ·cases s
  show cx ∅ (Y _ _ _ _ _ u ⟨⟨dx,d⟩,c⟩ (ji.nil _) (λi _ hi=>absurd hi (KJ _)) (by rw[<-C]) m O)
theorem wg (d3:fv P w K mg O_ Of "Heap" 1 ["self"] (zQ Of))(d1:bQ P w K mg O_ Of "many" 1 ["self"] (sW Of))(d0:bQ P w K mg O_ Of "add" 1 ["self", "price", "mark"] (vO Of))(ea:bQ P w K mg O_ Of "take" 2 ["self"] (Ah Of)):gE P w K mg O_ 3 "spread" we ["arcs", "starts"] (qA mg):=by
 show rd ["arcs", "starts", "far", "back", "heap", "mark", "price", "other", "more"] λnd _ _ _ _ _ H vs Q E hr h=>?_
 let⟨f0,I,e0,g,F',ss,ok,rfl,af,⟨bi,be,bx⟩,c6,b0,q⟩:=h
 show⟨_,(au (a9 2 nd du) (au (a9 3 nd du) (au (a9 4 nd (Fb d3 (hr.mono (by decide)) (by rfl))) (au (dq (aY (aq 1)) (cq Z (az (bw 5 nd) (az (bw 6 nd) bB))) (aW (m8 (iz (fU (fA (aT.one hr) (aq 5) (aq 2))) (gB (cu eO (aq 6) (dF (aT.one hr) (aq 2) (aq 5) (λ_ _=>rfl))))).pt (au (dE (aT.one hr) (aq 2) (aq 5) (aq 6) (by rfl)) (aS (dE (aT.one hr) (aq 3) (aq 5) iM (by rfl)) (bj (de (aq 4) T.cl_Heap d0 (hr.mono (by decide)) (aF (aq 6) (aq 5)))))) h_))) (aS (fH NN.never (cu uB (uK (aq 4) T.cl_Heap d1 (hr.mono (by decide))) ao) (aS (eK (uK (aq 4) T.cl_Heap ea (hr.mono (by decide))) (cq Z (az (bw 6 nd) (az (bw 5 nd) bB)))) (cK (cu eZ (aq 6) (dF (aT.one hr) (aq 2) (aq 5) (λ_ _=>rfl))) (dq (aY (zP (r:=EY mg K) (aq 0) (De T (hr.mono (by decide))) (aI (aq 5)))) (cq Z (az (bw 7 nd) (az (bw 8 nd) bB))) (aW (m8 (iz (fU (fA (aT.one hr) (aq 7) (aq 2))) (gB (cu eO (aA bh (aq 6) (aq 8)) (dF (aT.one hr) (aq 2) (aq 7) (λ_ _=>rfl))))).pt (au (dE (aT.one hr) (aq 2) (aq 7) (aA bh (aq 6) (aq 8)) (by rfl)) (aS (dE (aT.one hr) (aq 3) (aq 7) (aq 5) (by rfl)) (bj (de (aq 4) T.cl_Heap d0 (hr.mono (by decide)) (aF (aA bh (aq 6) (aq 8)) (aq 7)))))) h_)))))) (aL (bG (aF (aq 2) (aq 3))))))))),?_⟩
 let Z0:=ok.S
 let hM:=ok.m
 let a4:↑bi=↑ss:=by rw[Nb.length bx,JF]
 show cH λRh dm=>λfa ed=>?_
 show dm _ _ ?_
 let s1:aw H (Ob H fa (.dT [])):=(aw.refl H).upd ed
 let U:Ob H fa (.dT []) fa>.dT []:=ag
 revert s1 U
 generalize Ob H fa (.dT [])=H1
 intro s1 U
 show cH λRh dm=>λba d5=>?_
 show dm _ _ ?_
 let ch:fa≠ba:=ai U d5
 let s2:aw H1 (Ob H1 ba (.dT [])):=(aw.refl H1).upd d5
 let a1:Ob H1 ba (.dT []) ba>.dT []:=ag
 revert s2 a1
 generalize Ob H1 ba (.dT [])=H2
 intro s2 a1
 show cH λRh dm=>λp dx np e3 e7=>⟨p,dx,Z,ag,λa H3 na hA bu=>⟨Z,?_⟩⟩
 show dm _ _ ?_
 let sb:aw H2 (Ob (Ob H2 dx (.own p)) p (.ins Of dx [])):=((aw.refl H2).upd e3).upd (aj (JH e7)<|np)
 let s3:aw H2 H3:=λb o e=>bu b o (sb _ _ e) (ai e np) (ai (sb _ _ e) na)
 let cd:H2 a=none:=by
  cases e:H2 a with
  |none=>rfl
  |some o=>rw[sb _ _ e] at na;cases na
 let a6:=(s1.trans s2).trans s3
 let nH:∀{b:N8},H2 b=none->H b=none:=λe=>(s1.trans s2).free e
 let S0:SS Of H H3 fa ba p a g [] [] (λ_=>none) (λ_=>none) [] [] []:=
  ⟨a6,s3 _ _ (s2 _ _ U),s3 _ _ a1,Tb.nil,Tb.nil,λ_=>rfl,λ_=>⟨λ_=>rfl,(λz=>by cases z),(λ_ z=>by cases z)⟩,hA,ji.nil _,(λi _ hi=>absurd hi (KJ _)),List.Perm.refl _,(λ_ h=>by cases h),ch,ed,s1.free d5,nH np,nH cd⟩
 change eD _ _ _ _ _
 show cG λR0 ey=>?_
 show⟨_,Z,I,Z,⟨_,aN.of (a6 _ _ be)⟩,aK (K:=K) (a:=I) (xs:=bi.map V.ref) (λi σ H'=>∃(Fr B:-(Nat×V)) (u:Dj.Far) (s:Dj.Back) (vs:-V) (ks:-(-Int)) (hq:-(Int×Nat)) (x5 x6:Option V),
   σ=[some (.ref f0),some (.ref I),some (.ref fa),some (.ref ba),some (.ref p),x5,x6,none,none]/\SS Of H H' fa ba p a g Fr B u s vs ks hq/\Dj.St ((ss.map λn=>(n,(0:Int))).take i) u s hq/\↑hq<=i)
  ⟨[],[],_,_,[],[],[],none,none,Z,S0,⟨(λ_ _ z=>by cases z),(λ_ _ z=>by cases z),λ_=>rfl,(λ_ _ z=>by cases z),(λ_ z=>by cases z)⟩,JG _⟩ (λi σ H' _ hz=>by let⟨_,_,_,_,_,_,_,_,_,_,S,_⟩:=hz;show aN.of (S.sm _ _ be)) ?_ ?_⟩
 ·rintro i y σ H' hi ⟨Fr,B,u,s,vs,ks,hq,x5,x6,rfl,S,D,bf⟩
  let⟨ad,L,rfl⟩:=b_ hi
  let⟨x,hx,b,h1,h2⟩:=fk bx L
  rw[JV] at hx
  let⟨o,ho,rfl⟩:=Kc.mp hx
  let ep:(ss.map λn=>(n,(0:Int)))[i]?>(o,0):=by rw[JV,ho];rfl
  let O:(ss.map λn=>(n,(0:Int))).take (i+1)=(ss.map λn=>(n,(0:Int))).take i++[(o,0)]:=bp ep
  let c8:i<5:=by have:=(JX.mp ho).1;lia
  let ac:=b0 _ (JY ho)
  let ci:=S.len
  let h1:H' ad>.tup [.ref b,.int 0]:=S.sm _ _ h1
  let h2:mK g.R g.C H' b o:=S.sm _ _ h2
  unfold sF
  show lZ λRg dl=>?_
  show⟨ad,_,Z,a_.of h1,Z,_,_,Z,_,_,Z,Z,?_⟩
  show dl _ _ ?_
  let gg:=dg (.inl S.fd) h2
  rw[bP Z0,S.fr o] at gg
  let go:(∀qv,u o>qv->0<qv)->∀{D0:gV},(∀σ H',(∃(Fr B:-(Nat×V)) (u:Dj.Far) (s:Dj.Back) (vs:-V) (ks:-(-Int)) (hq:-(Int×Nat)) (x5 x6:Option V),
   σ=[some (.ref f0),some (.ref I),some (.ref fa),some (.ref ba),some (.ref p),x5,x6,none,none]/\SS Of H H' fa ba p a g Fr B u s vs ks hq/\Dj.St ((ss.map λn=>(n,(0:Int))).take (i+1)) u s hq/\↑hq<=i+1)->D0.nx σ H')->
   eD (jw (bI 2) (bI 5) (bI 6)) (eD (jw (bI 3) (bI 5) (tC .non)) (zc (k9 Of "add" (vO Of) [] E0 (bI 4) (cz (bI 6) (cz (bI 5) e8))))) D0 [some (.ref f0),some (.ref I),some (.ref fa),some (.ref ba),some (.ref p),some (.ref b),some (.int 0),none,none] H':=λA D0 d6=>by
   let⟨H4,H5,p1,p2,a7,b8,cr,c4,k5,nx⟩:=S.relax Z0 hM (bb:=none) (bv:=.non) 0 h2 ac (.inl ⟨Z,Z⟩)
   show iS ∅ ∅ ∅ p1 ?_
   show iS aB ∅ ∅ p2 ?_
   let⟨b7,cN⟩:=a7.ob
   show⟨_,Z,p,b7,_,Z,cN,Z,_,Z,_,Z,p,a,vs,ks,0,.ref b,sN g.R g.C o,Z,a7,b8,S.ok,cr,(),λH' d7 d2 q1 q2 q3 q4 q5=>?_⟩
   show d6 _ _ ⟨_,_,_,_,_,_,_,_,_,Z,nx H' d7 d2 q1 q2 q3 q4 q5,?_,by rw[J9];lia⟩
   rw[O]
   show D.more A λz=>by rw[JO]
  cases hfo:u o with
  |none=>
   rw[hfo] at gg
   show jL (iX (b:=true) (ay (dz ∅ ∅ gg)) λe=>by cases e) Z ?_
   show go (λqv z=>by rw[hfo] at z;cases z) λ_ _ z=>z
  |some qv=>
   rw[hfo] at gg
   show dI (iX (ay (dz ∅ ∅ gg)) λ_=>ay (aR ∅ (dG ∅ ∅ gg))) (λe=>?_) (λe=>?_)
   ·let A:0<qv:=by simpa using e
    show go (λfm z=>by rw[hfo] at z;cases z;show A) λ_ _ z=>z
   ·let A:¬0<qv:=by simpa using e
    show⟨Fr,B,u,s,vs,ks,hq,_,_,Z,S,?_,()⟩
    rw[O]
    show D.skip hfo A
 rintro σ H' ⟨Fr,B,u,s,vs,ks,hq,x5,x6,rfl,S,D,bf⟩
 rw[JF,a4,<-JF (as:=ss) (f:=λn=>(n,(0:Int))),Kb] at D
 rw[JF,a4] at bf
 let da:↑hq<=5:=by lia
 let⟨c0,M0⟩:=Dj.St.mid (g:=gG g F' ss ok) D
 show ey _ _ ?_
 let cT:=FE (g:=g) (F:=F') (ss:=ss) (ok:=ok) g.M []
 show hU (λb σ H'=>∃(Fr B:-(Nat×V)) (u:Dj.Far) (s:Dj.Back) (vs:-V) (ks:-(-Int)) (hq:-(Int×Nat)) (dn:-Nat) (br:Int) (x5 x6 x7 x8:Option V),
   σ=[some (.ref f0),some (.ref I),some (.ref fa),some (.ref ba),some (.ref p),x5,x6,x7,x8]/\SS Of H H' fa ba p a g Fr B u s vs ks hq/\Dj.Mid (gG g F' ss ok) u s hq dn br none/\b=↑hq+Dj.bud (gG g F' ss ok) g.M dn/\b<=780)
  ⟨_,Fr,B,u,s,vs,ks,hq,[],c0,x5,x6,none,none,Z,S,M0,Z,()⟩ ?_
 rintro b σ H' ⟨Fr,B,u,s,vs,ks,hq,dn,br,x5,x6,x7,x8,rfl,S,M,rfl,c2⟩
 let ci:=S.len
 let⟨a5,Y⟩:=S.ha.ob
 let bE:∀{σ:St} {te:TE},Ev te σ H' (.ref p)->Ev (k9 Of "many" (sW Of) [] E0 te e8) σ H' (.int (↑vs:Nat)):=λh Q' q'=>h _ ⟨p,a5,_,Z,Y,Z,p,a,vs,Z,S.ha,q'⟩
 show⟨_,ay (aR (bE ∅) aB),λhb N hN=>?_,λhb=>?_⟩
 ·let a0:(0:Int)<((↑vs:Nat):Int):=N4 hb
  let ck:vs≠[]:=λz=>by rw[z] at a0;show absurd a0 (by decide)
  show cG λRt ew=>?_
  show⟨_,Z,p,a5,_,Z,Y,Z,p,a,vs,ks,Z,S.ha,S.kh,S.ok,(),ck,λv k H2 dv ds es eH eN ef pk ei d8=>?_⟩
  let⟨pr,m,rfl,a3,co,hh,ap,c3⟩:=yR S.pm pk ei
  let cc:=S.hl _ a3
  let b5:TK H' H2:=d8.tk Y S.ha.ls
  let e1:∀{d:N8} {ej:-(-cP×V)},H' d>.dT ej->H2 d>.dT ej:=λe=>d8 _ _ e (λz=>by rw[z,Y] at e;cases e) (λz=>by rw[z,S.ha.ls] at e;cases e)
  let S2:SS Of H H2 fa ba p a g Fr B u s dv ds (hq.erase (pr,m)):=
   ⟨λb x e=>d8 b x (S.sm _ _ e) (ai e S.n3) (ai e S.n4),e1 S.fd,e1 S.bd,S.ft,S.bt,S.fr,S.br.kept b5,eH,eN,ef,co,λz hz=>S.hl z (List.mem_of_mem_erase hz),S.ne,S.n1,S.n2,S.n3,S.n4⟩
  let⟨av,b1,mv,l,rfl,b3,⟨bm,i1,i2,i3,rfl,cv,rfl⟩,R⟩:=es
  let R:pr::sN g.R g.C m=b1::[i1,i2,i3]:=R
  injection R with hk1 hk2'
  subst hk1
  let Mv:mK g.R g.C H2 bm m:=by change H2 bm>.tup ((sN g.R g.C m).map V.int);rw[hk2'];show cv
  show⟨av,_,Z,a_.of b3,Z,_,_,Z,_,_,Z,Z,?_⟩
  show ew _ _ ?_
  let⟨fq,a2,_⟩:=M.low pr m a3
  let gg:=dg (.inl S2.fd) Mv
  rw[bP Z0,S2.fr m,a2] at gg
  show dI (ay (dR ∅ (dG ∅ ∅ gg))) (λe=>?_) (λe=>?_)
  ·let X:u m>pr:=by
    have:pr=fq:=by simpa using e
    rw[this];show a2
   let bl:=af.same S2.sm
   let⟨c,c',db,oc,oo,rd,_,cF,_⟩:=id bl
   show⟨_,Z,f0,_,_,Z,Z,_,Z,cF,?_⟩
   show A0 (K:=K) Z0 bl Mv λl H3 s3 nl e2=>?_
   let⟨qs,aa,x_⟩:=e2
   rw[yW ok] at x_
   let S3:=S2.grow s3
   let cm:l≠a:=λz=>by rw[z,S2.ha.ls] at nl;cases nl
   let ab:↑qs=↑(rows g F' m):=by rw[Nb.length x_,JF]
   let dc:=rq g F' m
   by_cases hdn:m∈dn
   ·-- come to already:nothing is made cheaper
    let M3:=M.drop hh ap (.inr hdn)
    show⟨l,Z,⟨_,aN.of aa⟩,aK (K:=K) (a:=l) (xs:=qs.map V.ref) (λj σ H'=>∃x7 x8:Option V,σ=[some (.ref f0),some (.ref I),some (.ref fa),some (.ref ba),some (.ref p),some (.ref bm),some (.int pr),x7,x8]/\H'=H3) ⟨_,_,Z,Z⟩ (λj σ H' _ hz=>by let⟨_,_,_,e⟩:=hz;show e▸aN.of aa) ?_ ?_⟩
    ·rintro j y σ H4 hj ⟨x7,x8,rfl,rfl⟩
     let⟨ad,L,rfl⟩:=b_ hj
     let⟨x,hx,bo,h1,h2⟩:=fk x_ L
     rw[JV] at hx
     let⟨⟨o,w1⟩,ho,rfl⟩:=Kc.mp hx
     let⟨qq,ct,bd⟩:=M.arcs m hdn pr X (λ_ z=>by cases z) (o,w1) (JY ho)
     let h1:H4 ad>.tup [.ref bo,.int w1]:=h1
     let h2:mK g.R g.C H4 bo o:=h2
     let bd:qq<=pr+w1:=bd
     unfold sF
     show lZ λRg dl=>?_
     show⟨ad,_,Z,a_.of h1,Z,_,_,Z,_,_,Z,Z,?_⟩
     show dl _ _ ?_
     let gg:=dg (.inl S3.fd) h2
     rw[bP Z0,S3.fr o,show u o>qq from ct] at gg
     show gY (c9 (iX (ay (dz ∅ ∅ gg)) λ_=>ay (aR (aR ∅ ∅) (dG ∅ ∅ gg))) (c:=false) ?_) Z ⟨_,_,Z,Z⟩
     have:¬pr+w1<qq:=by lia
     simp[this]
    ·rintro σ H4 ⟨x7,x8,rfl,rfl⟩
     show hN _ _ _ () ⟨Fr,B,u,s,dv,ds,_,dn,pr,_,_,_,_,Z,S3,M3,Z,()⟩
   ·let M3:=M.take hh ap X hdn
    let ah:=Dj.bud_cons (g:=gG g F' ss ok) (dn:=dn) cc hdn
    let ah:Dj.bud (gG g F' ss ok) g.M (m::dn)+↑(rows g F' m)=Dj.bud (gG g F' ss ok) g.M dn:=ah
    show⟨l,Z,⟨_,aN.of aa⟩,aK (K:=K) (a:=l) (xs:=qs.map V.ref) (λj σ H'=>∃(Fr B:-(Nat×V)) (u:Dj.Far) (s:Dj.Back) (vs:-V) (ks:-(-Int)) (C:-(Int×Nat)) (x7 x8:Option V),
      σ=[some (.ref f0),some (.ref I),some (.ref fa),some (.ref ba),some (.ref p),some (.ref bm),some (.int pr),x7,x8]/\SS Of H H' fa ba p a g Fr B u s vs ks C/\Dj.Mid (gG g F' ss ok) u s C (m::dn) pr (some (m,(rows g F' m).take j))/\↑C<=↑(hq.erase (pr,m))+j/\H' l>.lst (qs.map V.ref)/\Nb (y_ H') qs ((rows g F' m).map (un g))/\mK g.R g.C H' bm m)
     ⟨Fr,B,u,s,dv,ds,_,_,_,Z,S3,List.take_zero<|M3,JG _,aa,x_,s3 _ _ Mv⟩ (λj σ H' _ hz=>by let⟨_,_,_,_,_,_,_,_,_,_,_,_,_,e,_⟩:=hz;show aN.of e) ?_ ?_⟩
    ·rintro j y σ H4 hj ⟨Fr,B,u,s,vs,ks,C,x7,x8,rfl,S4,M4,an,J,W,Mv4⟩
     let⟨ad,L,rfl⟩:=b_ hj
     let⟨x,hx,bo,h1,h2⟩:=fk W L
     rw[JV] at hx
     let⟨⟨o,w1⟩,ep,rfl⟩:=Kc.mp hx
     let h1:H4 ad>.tup [.ref bo,.int w1]:=h1
     let h2:mK g.R g.C H4 bo o:=h2
     let ar:=JY ep
     let ac:o<g.M:=(i_ ok ar).1
     let O:(rows g F' m).take (j+1)=(rows g F' m).take j++[(o,w1)]:=bp ep
     let c7:j<↑(rows g F' m):=(JX.mp ep).1
     let c1:=S4.len
     unfold sF
     show lZ λRg dl=>?_
     show⟨ad,_,Z,a_.of h1,Z,_,_,Z,_,_,Z,Z,?_⟩
     show dl _ _ ?_
     let gg:=dg (.inl S4.fd) h2
     rw[bP Z0,S4.fr o] at gg
     let go:(∀qv,u o>qv->pr+w1<qv)->∀{D0:gV},(∀σ H',(∃(Fr B:-(Nat×V)) (u:Dj.Far) (s:Dj.Back) (vs:-V) (ks:-(-Int)) (C:-(Int×Nat)) (x7 x8:Option V),
      σ=[some (.ref f0),some (.ref I),some (.ref fa),some (.ref ba),some (.ref p),some (.ref bm),some (.int pr),x7,x8]/\SS Of H H' fa ba p a g Fr B u s vs ks C/\Dj.Mid (gG g F' ss ok) u s C (m::dn) pr (some (m,(rows g F' m).take (j+1)))/\↑C<=↑(hq.erase (pr,m))+(j+1)/\H' l>.lst (qs.map V.ref)/\Nb (y_ H') qs ((rows g F' m).map (un g))/\mK g.R g.C H' bm m)->D0.nx σ H')->
      eD (jw (bI 2) (bI 7) (e9 (sI λi j=>V.int (i+j)) (bI 6) (bI 8))) (eD (jw (bI 3) (bI 7) (bI 5)) (zc (k9 Of "add" (vO Of) [] E0 (bI 4) (cz (e9 (sI λi j=>V.int (i+j)) (bI 6) (bI 8)) (cz (bI 7) e8))))) D0
       [some (.ref f0),some (.ref I),some (.ref fa),some (.ref ba),some (.ref p),some (.ref bm),some (.int pr),some (.ref bo),some (.int w1)] H4:=λA D0 d6=>by
      let⟨H5,H6,p1,p2,am,b4,cs,bn,k6,nx⟩:=S4.relax Z0 hM (bb:=some m) (bv:=.ref bm) (pr+w1) h2 ac (.inr ⟨m,bm,Z,Z,Mv4⟩)
      show iS (aR ∅ ∅) ∅ ∅ p1 ?_
      show iS ∅ ∅ ∅ p2 ?_
      let⟨cj,bD⟩:=am.ob
      show⟨_,Z,p,cj,_,Z,bD,Z,_,Z,_,Z,_,_,Z,Z,_,Z,p,a,vs,ks,pr+w1,.ref bo,sN g.R g.C o,Z,am,b4,S4.ok,cs,(),λH' d7 d2 q1 q2 q3 q4 q5=>?_⟩
      let bA:TK H6 H':=q5.tk bD am.ls
      let⟨c5,ce⟩:=S4.ha.ob
      let b6:H' l>.lst (qs.map V.ref):=q5 _ _ (k6 _ _ (λz=>by rw[z,S4.fd] at J;cases J) (λz=>by rw[z,S4.bd] at J;cases J) J) (λz=>by rw[z,ce] at J;cases J) cm
      show d6 _ _ ⟨_,_,_,_,_,_,_,_,_,Z,nx H' d7 d2 q1 q2 q3 q4 q5,?_,by rw[J9];lia,b6,c_ W (λb ys e=>bA _ _ (bn _ _ e)),bA _ _ (bn _ _ Mv4)⟩
      rw[O]
      show M4.more ar A λz=>by rw[JO]
     cases hfo:u o with
     |none=>
      rw[hfo] at gg
      show jL (iX (b:=true) (ay (dz ∅ ∅ gg)) λe=>by cases e) Z ?_
      show go (λqv z=>by rw[hfo] at z;cases z) λ_ _ z=>z
     |some qv=>
      rw[hfo] at gg
      show dI (iX (ay (dz ∅ ∅ gg)) λ_=>ay (aR (aR ∅ ∅) (dG ∅ ∅ gg))) (λe=>?_) (λe=>?_)
      ·let A:pr+w1<qv:=by simpa using e
       show go (λfm z=>by rw[hfo] at z;cases z;show A) λ_ _ z=>z
      ·let A:¬pr+w1<qv:=by simpa using e
       show⟨Fr,B,u,s,vs,ks,C,_,_,Z,S4,?_,(),J,W,Mv4⟩
       rw[O]
       show M4.skip ar hfo A
    ·rintro σ H4 ⟨Fr,B,u,s,vs,ks,C,x7,x8,rfl,S4,M4,an,J,W,Mv4⟩
     rw[JF,ab,Kb] at M4
     rw[JF,ab] at an
     show hN _ _ _ () ⟨Fr,B,u,s,vs,ks,C,m::dn,pr,_,_,_,_,Z,S4,M4.end,Z,()⟩
  ·let X:u m≠some pr:=λz=>by
    rw[a2] at z;cases z
    simp at e
   let M3:=M.drop hh ap (.inl X)
   show hN _ _ _ () ⟨Fr,B,u,s,dv,ds,_,dn,pr,_,_,_,_,Z,S2,M3,Z,()⟩
 ·let a0:¬(0:Int)<((↑vs:Nat):Int):=N6 hb
  let ca:hq=[]:=Mo ()
  subst ca
  show lL (ak ∅ (ak ∅ ax)) (by change 2<=N9;decide) λt nt=>?_
  let S5:=S.grow ((aw.refl H').upd nt (o:=.tup [.ref fa,.ref ba]))
  show q _ t fa ba Fr B u s S5.sm ag S5.n1 S5.n2 S5.fd S5.bd S5.ft S5.bt S5.fr S5.br M.told
theorem EZ:gE P w K mg O_ 1 "way_back" GK ["back", "mark"] Ec:=by
 show rd ["back", "mark", "way"] λnd _ _ _ _ _ H vs Q E hr h=>?_
 let⟨ba,b,g,F',B,ss,D,C,n,W,rfl,Z0,y,f,hb,hW,F,q⟩:=h
 show⟨_,(au (a9 2 nd (bL (aI (aq 1)))) (aS (fH NN.never (cu u5 (dF (aT.one hr) (aq 0) (aG aQ (aq 2) (yI s_ ao)) (λ_ _=>rfl)) iM) (aW (bj (df Kw KN KP bZ (aq 2) (aI (dF (aT.one hr) (aq 0) (aG aQ (aq 2) (yI s_ ao)) (λ_ _=>rfl))))))) (aL (tE Z (by rfl) T.list_ (by rfl) T.reversed_ (aq 2))))),?_⟩
 let I:N9=2^24:=rfl
 let⟨r,l⟩:=hW.hd
 let A:∀{L:N8},H L=none->b≠L:=λe=>ai hb e
 show tJ (ak ∅ ax) (by change 1<=N9;decide) λL nL=>?_
 show hU (λm σ H'=>∃(as:-N8) (j:Nat),σ=[some (.ref ba),some (.ref b),some (.ref L)]/\m=↑W - j/\j<↑W/\aw H H'/\H' L>.lst (as.map V.ref)/\bH H' as ((W.take (j+1)).map (sN g.R g.C)))
  ⟨_,[b],0,Z,Z,by rw[l];simp,(aw.refl H).upd nL,ag,?_⟩ ?_
 ·rw[l]
  show .cons (aj (A nL)<|hb) .nil
 rintro m σ H' ⟨as,j,rfl,rfl,hj,s,O,U⟩
 let d:↑as=j+1:=by rw[Nb.length U,JF,KH];lia
 let o:as≠[]:=λz=>by rw[z] at d;simp at d
 obtain⟨pre,u,J⟩:∃pre u,as=pre++[u]:=⟨as.dropLast,as.getLast o,(MI o).symm⟩
 let x:↑pre=j:=by rw[J,JQ] at d;simpa using d
 let hu:H' u>.tup ((sN g.R g.C (W.getD j 0)).map V.int):=by
  let e:as[j]?>u:=by rw[J,<-x];simp
  let⟨c,Y,k⟩:=cn U e
  rw[JV,List.getElem?_take_of_lt (),JU hj] at Y
  let Y:c=sN g.R g.C W[j]:=(Option.some.inj Y).symm
  rw[Y] at k
  rw[JS,JU hj];show k
 let S:=dg (.inl (s _ _ y)) hu
 rw[bP Z0] at S
 let a:Ev (e9 (jF K) (bI 2) (IC (rU λi=>V.int (-(i:_))) (tC (.int 1)))) [some (.ref ba),some (.ref b),some (.ref L)] H' (.ref u):=bN ∅ (IM aB) (aN.of O) (J<|JM<|Be _ _)
 rcases hW.at j hj with ⟨M,ah⟩|⟨M,X⟩
 ·let hv:=(f _).2.1 M
  rw[hv] at S
  show⟨!decide (V.non=.non),ay (kE (dG ∅ a S) aB),λe=>by simp at e,λ_=>?_⟩
  show⟨_,Z,L,as.map V.ref,Z,aN.of O,λp hp=>q _ p (s.upd hp) ⟨as.reverse,by rw[ag,List.map_reverse],?_⟩⟩
  rw[Mn ()] at U
  have:=E9 U
  rw[<-List.map_reverse] at this
  show aC this λb' xs e=>by rw[aj (ai e hp)];show e
 ·let⟨b',hv,v⟩:=(f _).2.2 _ M
  rw[hv] at S
  show⟨!decide (V.ref b'=.non),ay (kE (dG ∅ a S) aB),λ_ N hN=>?_,λe=>by simp at e⟩
  show⟨_,Z,.inl ⟨Z,_,aN.of O⟩,dG ∅ a S _ ⟨L,_,_,Z,Z,O,(by rw[JF];lia),?_⟩⟩
  show hN (↑W - (j+1)) _ _ () ⟨as++[b'],j+1,Z,Z,X,aP s nL,by rw[ag,JM];rfl,?_⟩
  let e1:W[j+1]?>W.getD (j+1) 0:=by rw[JS,JU X];rfl
  rw[bp e1,JM]
  show eV (aC U (aV O)) (.cons (aV O _ _ (s _ _ v)) .nil)
theorem AJ:ku P w K mg O_ 1 "__init__" "Parts.__init__" A1 ["self", "many"] (oI Oe):=by
 show rd ["self", "many"] λnd _ _ _ _ _ H vs Q E hr h=>?_
 let⟨p,dx,n,rfl,v,hp,k⟩:=h
 show⟨_,(aS (dJ (aq 0) (fO (iy Z) T.list_ (aI (fO jX T.range_ (aI (aq 1))))) Z) (dJ (aq 0) (aq 1) Z)),?_⟩
 show⟨_,Z,_,Z,λr m=>?_⟩
 show⟨r,0,(n:Nat),Z,ag,⟨by decide,by decide,(),()⟩,(),λl q=>?_⟩
 let g:p≠r:=ai hp m
 let c:Ob H r (.rng 0 (n:Nat)) p>.ins Oe dx []:=aj g<|hp
 let d:p≠l:=ai c q
 let f:H l=none:=by
  by_cases e:l=r
  ·rw[e];show m
  ·rw[aj e] at q;show q
 show⟨_,Z,p,Oe,dx,[],Z,(aj d<|c),T.cl_Parts,T.na_Parts_above,(by change 0<1000;decide),?_⟩
 show⟨_,Z,_,Z,p,Oe,dx,_,Z,ag,T.cl_Parts,T.na_Parts_left,(by change 1<1000;decide),?_⟩
 let a:l≠p:=d.symm
 show k l _ f ⟨⟨dx,?_⟩,List.range n,?_,PF.init n⟩ λb o e s u=>?_
 ·rw[ag,C6]
 ·rw[aj a,aj a,ag]
  congr 2
  unfold nV
  rw[show((n:Nat) - 0:Int).toNat=n by lia]
  show La λi _=>?_
  rw[LN]
 ·let j:b≠r:=ai e m
  rw[aj s,aj s,aj u,aj j];show e
theorem wq:ku P w K mg O_ 1 "stands_for" "Parts.stands_for" u6 ["self", "mark"] (lQ Oe):=by
 show rd ["self", "mark", "here"] λnd _ _ _ _ _ H vs Q E hr h=>?_
 let⟨p,a,n,i,rep,z,rfl,⟨⟨dx,hp⟩,U,ha,pf⟩,hi,k⟩:=h
 show⟨_,(au (a9 2 nd (aq 1)) (aS (fH NN.never (cu iw (aG aQ (bq (aq 0) Z) (aq 2)) (aq 2)) (aS (eK (aG aQ (bq (aq 0) Z) (aG aQ (bq (aq 0) Z) (aq 2))) (g0 (bq (aq 0) Z) (aq 2) eW)) (a9 2 nd (aG aQ (bq (aq 0) Z) (aq 2))))) (aL (aq 2)))),?_⟩
 let L:p≠a:=bz hp ha (by intro z;cases z)
 show cM ∅ ?_
 let⟨d,hd⟩:=pf.ms
 show⟨λm σ H1=>∃(h:Nat) (U:-Nat),σ=[some (.ref p),some (.int (i:Nat)),some (.int (h:Nat))]/\m=d h/\H1 p>.ins Oe dx (jP a z)/\H1 a>.lst (nV U)/\PF U n rep/\(∀i j,U[i]?>j->j≠i->d j<d i)/\h<n/\rep h=rep i/\kz H H1 p a,
  ⟨_,i,U,Z,Z,hp,ha,pf,hd,hi,Z,λ_ _ e _ _=>e⟩,?_⟩
 rintro m σ H1 ⟨h,U,rfl,rfl,A,f,DT,D,W,x,y⟩
 let⟨j,X,C,O,J⟩:=DT.step h W
 let⟨g,hg,R,S,_⟩:=DT.step j C
 let u:∀{te:TE},Ev te [some (.ref p),some (.int (i:Nat)),some (.int (h:Nat))] H1 (.ref p)->Ev (rP K te "above") [some (.ref p),some (.int (i:Nat)),some (.int (h:Nat))] H1 (.ref a):=λhe Q q=>he _ ⟨p,Oe,dx,_,_,Z,A,T.cl_Parts,T.na_Parts_above,iI _ _,q⟩
 show ay (gz (bN (u ∅) ∅ (aN.of f) (cE (rV X))) ∅) _ ?_
 show GR (λc=>?_) (λc=>?_)
 ·let B:j≠h:=by intro z;subst z;simp at c
  let⟨HP,M,dk,I,F⟩:=DT.halve D X B hg
  show⟨λY H'=>∃m',m'<d h/\∃(h:Nat) (U:-Nat),Y=[some (.ref p),some (.int (i:Nat)),some (.int (h:Nat))]/\m'=d h/\H' p>.ins Oe dx (jP a z)/\H' a>.lst (nV U)/\PF U n rep/\(∀i j,U[i]?>j->j≠i->d j<d i)/\h<n/\rep h=rep i/\kz H H' p a,λ_ _ z=>z,?_⟩
  show p8 ?_
  show bN (u ∅) (bN (u ∅) ∅ (aN.of f) (cE (rV X))) (aN.of f) (cE (rV hg)) _ ?_
  show u ∅ _ (ae Z _ ?_)
  show⟨a,_,_,h,Z,Z,f,(fI<|DT.len<|fi W),?_⟩
  rw[zR]
  let s:Ob H1 a (.lst (nV (U.set h g))) p>.ins Oe dx (jP a z):=aj L<|A
  let r:Ob H1 a (.lst (nV (U.set h g))) a>.lst (nV (U.set h g)):=ag
  let l:kz H (Ob H1 a (.lst (nV (U.set h g)))) p a:=λb o e n1 Z0=>by rw[aj Z0];show y b o e n1 Z0
  revert s r l
  generalize Ob H1 a (.lst (nV (U.set h g)))=H2
  intro s r l
  show lB (v:=.int (g:Nat)) ?_ ⟨d g,dk,g,_,Z,Z,s,r,HP,M,I,F.trans x,l⟩
  show bN (λQ q=>⟨_,Z,p,Oe,dx,_,_,Z,s,T.cl_Parts,T.na_Parts_above,iI _ _,q⟩) ∅ (aN.of r) (cE (rV (Lx (DT.len<|W))))
 ·let N:j=h:=by
   have:(j:Int)=h:=by simpa using c
   lia
  show⟨_,Z,?_⟩
  let er:rep h=h:=J.mp N
  rw[<-er,x]
  show k H1 ⟨⟨dx,A⟩,U,f,DT⟩ y
theorem ED (d:bQ P w K mg O_ Oe "stands_for" 1 ["self", "mark"] (lQ Oe)):ku P w K mg O_ 2 "together" "Parts.together" GG ["self", "one", "other"] (DS Oe):=by
 show rd ["self", "one", "other"] λnd _ _ _ _ _ H vs Q E hr h=>?_
 let⟨p,a,n,i,j,rep,z,rfl,l,hi,o,k⟩:=h
 show⟨_,(aW (aL (zo eZ (de (aq 0) T.cl_Parts d (hr.mono (by decide)) (aI (aq 1))) (de (aq 0) T.cl_Parts d (hr.mono (by decide)) (aI (aq 2)))))),?_⟩
 let⟨dx,hp⟩:=l.ob
 show⟨_,Z,p,dx,_,Z,hp,gv _ _ (by decide+kernel) (by decide+kernel),_,Z,p,a,n,i,rep,z,Z,l,hi,λH1 f m=>?_⟩
 let⟨b,c⟩:=f.ob
 show⟨_,Z,p,b,_,Z,c,gv _ _ (by decide+kernel) (by decide+kernel),_,Z,p,a,n,j,rep,z,Z,f,o,λH2 g b2=>⟨Z,?_⟩⟩
 let e:decide (V.int (rep i:Nat)=V.int (rep j:Nat))=decide (rep i=rep j):=by
  rw[iQ]
  rcases Decidable.em (rep i=rep j) with z|z
  ·rw[z];simp
  ·have:¬((rep i:Nat):Int)=(rep j:Nat):=by lia
   simp[z,this]
 rw[e]
 show k H2 g (m.trans b2)
theorem Fy (B:bQ P w K mg O_ Oe "stands_for" 1 ["self", "mark"] (lQ Oe))(L:bQ P w K mg O_ Oe "together" 2 ["self", "one", "other"] (DS Oe)):ku P w K mg O_ 3 "merge" "Parts.merge" Hd ["self", "one", "other"] (yu Oe):=by
 show rd ["self", "one", "other"] λnd _ _ _ _ _ H vs Q E hr h=>?_
 let⟨p,a,n,i,j,rep,z,rfl,R,hi,N,k⟩:=h
 show⟨_,(au (cK (gu (de (aq 0) T.cl_Parts L (hr.mono (by decide)) (aF (aq 1) (aq 2)))) (aL gJ)) (au (eK (de (aq 0) T.cl_Parts B (hr.mono (by decide)) (aI (aq 1))) (g0 (bq (aq 0) Z) (de (aq 0) T.cl_Parts B (hr.mono (by decide)) (aI (aq 2))) eW)) (aS (dJ (aq 0) (aA cL (bq (aq 0) Z) ao) Z) (aL gJ)))),?_⟩
 let⟨dx,hp⟩:=R.ob
 show⟨_,Z,p,dx,_,Z,hp,gv _ _ (by decide+kernel) (by decide+kernel),_,Z,_,Z,p,a,n,i,j,rep,z,Z,R,hi,N,λH1 C S=>⟨_,Z,?_⟩⟩
 show GR (λc=>?_) (λc=>?_)
 ·let F:rep i=rep j:=by simpa using c
  let z:=k H1 (N1 F<|C) S
  rw[N3 F] at z
  show z
 ·let F:rep i≠rep j:=by simpa using c
  let⟨x,A⟩:=C.ob
  show⟨_,Z,p,x,_,Z,A,gv _ _ (by decide+kernel) (by decide+kernel),_,Z,p,a,n,i,rep,z,Z,C,hi,λH2 M b2=>?_⟩
  let⟨m,r⟩:=M.ob
  show⟨_,Z,p,Oe,m,_,_,Z,r,T.cl_Parts,T.na_Parts_above,iI _ _,?_⟩
  show⟨_,Z,p,m,_,Z,r,gv _ _ (by decide+kernel) (by decide+kernel),_,Z,p,a,n,j,rep,z,Z,M,N,λH3 O W=>?_⟩
  let⟨⟨d,u⟩,J,v,GH⟩:=O
  let s:p≠a:=bz u v (by intro z;cases z)
  let y:=(GH.rt j N).1
  show⟨a,_,_,rep j,Z,Z,v,(fI<|GH.len<|fi y),?_⟩
  rw[zR]
  let g:Ob H3 a (.lst (nV (J.set (rep j) (rep i)))) p>.ins Oe d (jP a z):=aj s<|u
  let l:Ob H3 a (.lst (nV (J.set (rep j) (rep i)))) a>.lst (nV (J.set (rep j) (rep i))):=ag
  let f:kz H (Ob H3 a (.lst (nV (J.set (rep j) (rep i))))) p a:=λb o e I D=>by rw[aj D];show W b o (b2 b o (S b o e I D) I D) I D
  revert g l f
  generalize Ob H3 a (.lst (nV (J.set (rep j) (rep i))))=U
  intro g l f
  show⟨_,Z,p,Oe,d,_,_,Z,g,T.cl_Parts,T.na_Parts_left,wj _ _,_,_,Z,Z,_,Z,p,Oe,d,_,Z,g,T.cl_Parts,T.na_Parts_left,(by change 2<1000;decide),?_⟩
  rw[zD]
  let q:=k (Ob U p (.ins Oe d (jP a (z - 1)))) (by
   rw[N0 F]
   show⟨⟨d,ag⟩,_,aj s.symm<|l,GH.join hi N F⟩) λb o e I D=>by rw[aj I];show f b o e I D
  rw[N5 F] at q
  show q
theorem zZ (av:fv P w K mg O_ Oe "Parts" 1 ["self", "many"] (oI Oe))(be:bQ P w K mg O_ Oe "merge" 3 ["self", "one", "other"] (yu Oe)):gE P w K mg O_ 4 "taken" zU ["links", "many"] (vn K):=by
 show rd ["links", "many", "parts", "chosen", "price", "one", "other"] λnd _ _ _ _ _ H vs Q E hr h=>?_
 let⟨p,n,as,ls,rfl,hn,hp,ht,hl,bd,q⟩:=h
 show⟨_,(au (a9 2 nd (uI av (hr.mono (by decide)) (by rfl) (aI (aq 1)))) (au (a9 3 nd (bL cW)) (aS (dq (aY (bW (iT hr) T.sorted_ (aI (aq 0)))) (cq Z (az (bw 4 nd) (az (bw 5 nd) (az (bw 6 nd) bB)))) (aW (cK (gu (de (aq 2) T.cl_Parts be (hr.mono (by decide)) (aF (aq 5) (aq 6)))) (bj (df Kw KN KP bZ (aq 3) (aI (bG (aO (aq 4) (aF (aq 5) (aq 6)))))))))) (aL (aq 3))))),?_⟩
 let ah:↑as=↑ls:=by have:=ht.length;rwa [JF] at this
 show bF ⟨_,Z,λp1 b1 a5 bb co=>⟨p1,b1,n,Z,hn,ag,λa1 H1 a6 a4 b0=>⟨Z,?_⟩⟩⟩
 let s1:aw H H1:=nU a5 bb a6 b0
 let Gf:H a1=none:=by
  cases e:H a1 with
  |none=>rfl
  |some o=>rw[aj (ai e a5),aj (ai e bb),e] at a6;cases a6
 show tJ ax (by decide) λch ap=>?_
 let s2:aw H (Ob H1 ch (.lst [])):=s1.upd ap
 let m:Ob H1 ch (.lst []) ch>.lst []:=ag
 let g:yc Oe (Ob H1 ch (.lst [])) p1 a1 n id (n:Nat):=by
  let⟨⟨dx,h1⟩,ab,h2,h3⟩:=a4
  show⟨⟨dx,aj (ai h1 ap)<|h1⟩,ab,aj (ai h2 ap)<|h2,h3⟩
 let aa:H ch=none:=s1.free ap
 let I:ch≠p1:=by
  let⟨⟨dx,h1⟩,_⟩:=a4
  show(ai h1 ap).symm
 let M:ch≠a1:=by
  let⟨_,ab,h2,_⟩:=a4
  show(ai h2 ap).symm
 revert s2 m g
 generalize Ob H1 ch (.lst [])=H2
 intro s2 m g
 show⟨_,Z,p,as,ls.map tr,Z,s2.seq hp,ht.same s2,(λc hc=>by let⟨x,_,rfl⟩:=JL.mp hc;show Ef x),hl,λl bs ds nl bi bu bA=>?_⟩
 let⟨ss,C,rfl⟩:=uR bu
 let am:H l=none:=s2.free nl
 let X:l≠ch:=(ai m nl).symm
 let Y:l≠p1:=by
  let⟨⟨dx,h1⟩,_⟩:=g
  show(ai h1 nl).symm
 let R:l≠a1:=by
  let⟨_,ab,h2,_⟩:=g
  show(ai h2 nl).symm
 let S:↑bs=↑ss:=by have:=↑bi;rwa [JF] at this
 let an:=C.length_eq
 let s3:aw H2 (Ob H2 l (.lst (bs.map V.ref))):=(aw.refl H2).upd nl
 let el:Ob H2 l (.lst (bs.map V.ref)) l>.lst (bs.map V.ref):=ag
 revert s3 el
 generalize Ob H2 l (.lst (bs.map V.ref))=H3
 intro s3 el
 let Z0:=bi.same s3
 show⟨l,Z,⟨_,aN.of el⟩,aK (K:=K) (a:=l) (xs:=bs.map V.ref) (λi σ H'=>∃(rep:Nat->Nat) (z:Int) (dl:-Lk) (xs:-N8) (x4 x5 x6:Option V),
   σ=[some (.ref p),some (.int (n:Nat)),some (.ref p1),some (.ref ch),x4,x5,x6]/\aw H H'/\yc Oe H' p1 a1 n rep z/\H' l>.lst (bs.map V.ref)/\bH H' bs (ss.map tr)/\H' ch>.lst (xs.map V.ref)/\bH H' xs (dl.map tr)/\↑xs<=i/\
   (∀rest,kr id (ss.take i++rest)=dl++kr rep rest))
  ⟨id,(n:Nat),[],[],none,none,none,Z,s2.trans s3,?_,el,Z0,s3 _ _ m,.nil,JG _,λrest=>rfl⟩ (λi σ H' _ hz=>by let⟨_,_,_,_,_,_,_,_,_,_,e,_⟩:=hz;show aN.of e) ?_ ?_⟩
 ·let⟨⟨dx,h1⟩,ab,h2,h3⟩:=g
  show⟨⟨dx,s3 _ _ h1⟩,ab,s3 _ _ h2,h3⟩
 ·rintro i y σ H' hi ⟨rep,z,dl,xs,x4,x5,x6,rfl,sm,pa,N,v,j,A,W,r⟩
  let J:i<↑bs:=by have:=(JX.mp hi).1;rwa [JF] at this
  let hy:y=.ref bs[i]:=by
   rw[JV,JU J] at hi
   show(Option.some.inj hi).symm
  subst hy
  let F:i<↑ss:=by lia
  let⟨c',ec,gc⟩:=v.at (i:=i) (a:=bs[i]) (by simp[J])
  rw[JV,JU F] at ec
  cases ec
  let s:ss.take (i+1)=ss.take i++[ss[i]]:=by rw[K6,JU F];rfl
  let B:ss[i].2.1<n/\ss[i].2.2<n:=bd _ (C.mem_iff.mp (LK F))
  revert gc s B
  generalize ss[i]=c
  intro gc s B
  let⟨pr,o,t⟩:=c
  let⟨ho,ad⟩:=B
  let gc:H' bs[i]>.tup [.int pr,.int (o:Nat),.int (t:Nat)]:=gc
  show⟨bs[i],_,Z,a_.of gc,Z,_,_,Z,_,_,Z,_,_,Z,Z,?_⟩
  let⟨dx,ac⟩:=pa.ob
  show⟨_,Z,p1,dx,_,Z,ac,gv _ _ (by decide+kernel) (by decide+kernel),_,Z,_,Z,p1,a1,n,o,t,rep,z,Z,pa,ho,ad,λH5 a0 b5=>⟨_,Z,?_⟩⟩
  let L:aw H H5:=λb u e=>b5 b u (sm b u e) (ai e a5) (ai e Gf)
  let D:H5 l>.lst (bs.map V.ref):=b5 _ _ N Y R
  let f:H5 ch>.lst (xs.map V.ref):=b5 _ _ j I M
  let tk:∀{as:-N8} {cs:-(-Int)},bH H' as cs->bH H5 as cs:=λh=>Nb.mapP h λa c z=>by
   let⟨dx,h1⟩:=pa.ob
   let⟨ab,h2,_⟩:=pa.pf
   show b5 _ _ z (bz z h1 (by intro e;cases e)) (bz z h2 (by intro e;cases e))
  by_cases c:rep o=rep t
  ·rw[N1 c] at a0
   rw[N3 c]
   show fN ?_
   show⟨rep,z,dl,xs,_,_,_,Z,L,a0,D,tk v,f,tk A,(),λrest=>?_⟩
   rw[s,Kl,r]
   change dl++(if rep o=rep t then kr rep rest else _)=_
   rw[N1 c]
  ·rw[N0 c] at a0
   rw[N5 c]
   show gT ?_
   show⟨_,Z,.inl ⟨Z,_,aN.of f⟩,_,Z,_,Z,_,Z,(by change 3<=N9;decide),λtp a7=>?_⟩
   let O:ch≠tp:=ai f a7
   let k:Ob H5 tp (.tup [.int pr,.int (o:Nat),.int (t:Nat)]) ch>.lst (xs.map V.ref):=aj O<|f
   show⟨ch,_,_,Z,Z,k,(JF<|d_ ()),?_⟩
   let af:l≠tp:=ai D a7
   let d:aw H5 (Ob H5 tp (.tup [.int pr,.int (o:Nat),.int (t:Nat)])):=(aw.refl H5).upd a7
   let U:Ob H5 tp (.tup [.int pr,.int (o:Nat),.int (t:Nat)]) tp>.tup [.int pr,.int (o:Nat),.int (t:Nat)]:=ag
   let⟨⟨dy,g1⟩,ab,g2,g3⟩:=a0
   show⟨bO rep o t,z - 1,dl++[(pr,o,t)],xs++[tp],_,_,_,Z,λb u e=>?_,⟨⟨dy,?_⟩,ab,?_,g3⟩,?_,?_,?_,?_,?_,λrest=>?_⟩
   ·rw[aj (ai e aa)];show d b u (L b u e)
   ·rw[aj I.symm];show d _ _ g1
   ·rw[aj M.symm];show d _ _ g2
   ·rw[aj X];show d _ _ D
   ·show bH.upd (bH.same (tk v) d) k
   ·rw[ag,JM];rfl
   ·rw[JM]
    show Nb.snoc (bH.upd (bH.same (tk A) d) k) ?_
    change Ob _ ch _ tp>.tup [.int pr,.int (o:Nat),.int (t:Nat)]
    rw[aj O.symm];show U
   ·rw[JQ];simp only[J9,Ln];lia
   ·rw[s,Kl,r]
    change dl++(if rep o=rep t then _ else _)=_
    rw[N0 c,Kl];rfl
 ·rintro σ H' ⟨rep,z,dl,xs,x4,x5,x6,rfl,sm,pa,N,v,j,A,W,r⟩
  show cx ∅ (q ch xs ss H' sm C bA j ?_)
  have:=r []
  rw[J6,JF,show ↑bs=↑ss from S,Kb] at this
  rw[this]
  change bH H' xs ((dl++[]).map tr)
  rw[J6];show A
theorem zW (bd:fv P w K mg O_ Oe "Parts" 1 ["self", "many"] (oI Oe))(b1:bQ P w K mg O_ Oe "merge" 3 ["self", "one", "other"] (yu Oe)):gE P w K mg O_ 4 "without_rings" zu ["steps"] (uX K):=by
 show rd ["steps", "places", "one", "two", "parts", "kept"] λnd _ _ _ _ _ H vs Q E hr h=>?_
 let⟨p,as,ls,rfl,hp,ht,hl,l3,q⟩:=h
 show⟨_,(au (a9 1 nd du) (au (dq (aY (aq 0)) (cq Z (az (bw 2 nd) (az (bw 3 nd) bB))) (aS (bj (df K7 ML PySem.F.type_dict_setdefault (nB hr) (aq 1) (aF (aq 2) (bW iD T.len_ (aI (aq 1)))))) (bj (df K7 ML PySem.F.type_dict_setdefault (nB hr) (aq 1) (aF (aq 3) (bW iD T.len_ (aI (aq 1)))))))) (au (a9 4 nd (uI bd (hr.mono (by decide)) (by rfl) (aI (bW iD T.len_ (aI (aq 1)))))) (au (a9 5 nd (bL cW)) (aS (dq (aY (aq 0)) (cq Z (az (bw 2 nd) (az (bw 3 nd) bB))) (aW (cK (gu (de (aq 4) T.cl_Parts b1 (hr.mono (by decide)) (aF (dF (aT.one hr) (aq 1) (aq 2) (λ_ _=>rfl)) (dF (aT.one hr) (aq 1) (aq 3) (λ_ _=>rfl))))) (bj (df Kw KN KP bZ (aq 5) (aI (bG (aF (bW (xq Z hr) T.min_ (aF (aq 2) (aq 3))) (bW (xt Z hr) T.max_ (aF (aq 2) (aq 3))))))))))) (aL (aq 5))))))),?_⟩
 let ap:↑as=↑ls:=ht.length
 show bF λpl bi=>?_
 let s1:aw H (Ob H pl (.dT [])):=(aw.refl H).upd bi
 let e1:Ob H pl (.dT []) pl>.dT []:=ag
 revert s1 e1
 generalize Ob H pl (.dT [])=H1
 intro s1 e1
 show⟨_,Z,p,Z,⟨_,s1.seq hp⟩,aK (K:=K) (a:=p) (xs:=as.map V.ref) (λi σ H'=>∃(d:-(-cP×V)) (x2 x3:Option V),
   σ=[some (.ref p),some (.ref pl),x2,x3,none,none]/\aw H H'/\H' pl>.dT d/\jQ d/\↑d<=2*i/\∀(j:Nat) e,j<i->ls[j]?>e->(aE d (iK e.1)).isSome=true/\(aE d (iK e.2)).isSome=true)
  ⟨[],none,none,Z,s1,e1,jQ.init,JG _,λj e hj=>absurd hj (KJ _)⟩ (λi σ H' _ hz=>by let⟨_,_,_,_,s,_⟩:=hz;show s.seq hp) ?_ ?_⟩
 ·rintro i y σ H' hi ⟨d,x2,x3,rfl,sm,g,po,X,F⟩
  let r:i<↑as:=by have:=(JX.mp hi).1;rwa [JF] at this
  let hy:y=.ref as[i]:=by
   rw[JV,JU r] at hi
   show(Option.some.inj hi).symm
  subst hy
  let⟨e,x,y,ec,g1,g2,g3⟩:=(ht.same sm).at (i:=i) (a:=as[i]) (by simp[r])
  show⟨as[i],_,Z,a_.of g1,Z,_,_,Z,_,_,Z,Z,?_⟩
  show⟨_,Z,.inr (.inr (.inl ⟨Z,.inr ⟨_,g⟩⟩)),_,Z,_,Z,pl,d,Z,.inl g,IX g g2 po () λv a5 ct dp b7 c2=>?_⟩
  let k:aw H (Ob H' pl (.dT a5)):=aP sm bi
  let f1:Ob H' pl (.dT a5) pl>.dT a5:=ag
  let f2:Ob H' pl (.dT a5) y>.tup (e.2.map V.int):=aj (bz g3 g (by intro z;cases z))<|g3
  revert k f1 f2
  generalize Ob H' pl (.dT a5)=H2
  intro k f1 f2
  show⟨_,Z,.inr (.inr (.inl ⟨Z,.inr ⟨_,f1⟩⟩)),_,Z,_,Z,pl,a5,Z,.inl f1,IX f1 f2 ct () λv2 cT cF dK bo ci=>?_⟩
  show⟨cT,_,_,Z,aP k bi,ag,cF,(),λj f hj hf=>?_⟩
  by_cases ej:j=i
  ·subst ej
   rw[ec] at hf;cases hf
   show⟨bo _ c2,ci⟩
  ·let⟨a1,a2⟩:=F j f () hf
   show⟨bo _ (b7 _ a1),bo _ (b7 _ a2)⟩
 ·rintro σ H' ⟨d,x2,x3,rfl,sm,g,po,X,F⟩
  rw[JF] at X F
  let L:∀e∈ls,(aE d (iK e.1)).isSome=true/\(aE d (iK e.2)).isSome=true:=λe he=>by
   let⟨j,hj⟩:=List.getElem?_of_mem he
   show F j e (by have:=(JX.mp hj).1;lia) hj
  show st ?_
  show bF ⟨_,Z,pl,d,Z,.inl g,λp1 c0 bb bx dV=>⟨p1,c0,↑d,Z,(),ag,λa1 H1 bu bl cv=>⟨Z,?_⟩⟩⟩
  let s2:aw H' H1:=nU bb bx bu cv
  let Gf:H' a1=none:=by
   cases e:H' a1 with
   |none=>rfl
   |some o=>rw[aj (ai e bb),aj (ai e bx),e] at bu;cases bu
  show tJ ax (by decide) λch a6=>?_
  let Z0:H' ch=none:=s2.free a6
  let ar:H ch=none:=sm.free Z0
  let s3:aw H' (Ob H1 ch (.lst [])):=s2.upd a6
  let I:Ob H1 ch (.lst []) ch>.lst []:=ag
  let N:yc Oe (Ob H1 ch (.lst [])) p1 a1 ↑d id (↑d:Nat):=by
   let⟨⟨dx,h1⟩,ab,h2,h3⟩:=bl
   show⟨⟨dx,aj (ai h1 a6)<|h1⟩,ab,aj (ai h2 a6)<|h2,h3⟩
  let R:ch≠p1:=by
   let⟨⟨dx,h1⟩,_⟩:=bl
   show(ai h1 a6).symm
  let U:ch≠a1:=by
   let⟨_,ab,h2,_⟩:=bl
   show(ai h2 a6).symm
  revert s3 I N
  generalize Ob H1 ch (.lst [])=H2
  intro s3 I N
  let ac:=s3 _ _ g
  let a0:pl≠p1:=ai g bb
  let af:pl≠a1:=ai g Gf
  let ad:H p1=none:=sm.free bb
  let aa:H a1=none:=sm.free Gf
  let k:=sm.trans s3
  show⟨_,Z,p,Z,⟨_,k.seq hp⟩,aK (K:=K) (a:=p) (xs:=as.map V.ref) (λi σ H'=>∃(rep:Nat->Nat) (z:Int) (dl:-E2) (xs:-N8) (x2 x3:Option V),
    σ=[some (.ref p),some (.ref pl),x2,x3,some (.ref p1),some (.ref ch)]/\aw H H'/\H' pl>.dT d/\yc Oe H' p1 a1 ↑d rep z/\H' ch>.lst (xs.map V.ref)/\eB H' xs (dl.map nm)/\↑xs<=i/\
    (∀rest,jh (ur d) (ls.take i++rest)=dl++jh (λx=>rep (ur d x)) rest))
   ⟨id,(↑d:Nat),[],[],_,_,Z,k,ac,N,I,.nil,JG _,λrest=>rfl⟩ (λi σ H' _ hz=>by let⟨_,_,_,_,_,_,_,s,_⟩:=hz;show s.seq hp) ?_ ?_⟩
  ·rintro i y σ H3 hi ⟨rep,z,dl,xs,x2,x3,rfl,D,l,pa,B,M,an,J⟩
   let r:i<↑as:=by have:=(JX.mp hi).1;rwa [JF] at this
   let hy:y=.ref as[i]:=by
    rw[JV,JU r] at hi
    show(Option.some.inj hi).symm
   subst hy
   let⟨e,x,y,ec,g1,g2,g3⟩:=(ht.same D).at (i:=i) (a:=as[i]) (by simp[r])
   let⟨v1,w1⟩:=L e (JY ec)
   let⟨v1,v2⟩:=po.at v1
   let⟨w1,w2⟩:=po.at w1
   let m:=l3 e (JY ec)
   let⟨am,ah⟩:=Bf J ec
   show⟨as[i],_,Z,a_.of g1,Z,_,_,Z,_,_,Z,Z,?_⟩
   let⟨dx,av⟩:=pa.ob
   let d1:=dg (.inl l) g2
   let d2:=dg (.inl l) g3
   rw[v1] at d1
   rw[w1] at d2
   show⟨_,Z,p1,dx,_,Z,av,gv _ _ (by decide+kernel) (by decide+kernel),_,Z,_,Z,pl,_,Z,d1,_,Z,_,Z,pl,_,Z,d2,p1,a1,↑d,ur d e.1,ur d e.2,rep,z,Z,pa,v2,w2,λH5 be b5=>⟨_,Z,?_⟩⟩
   let S:aw H H5:=λb u eb=>b5 b u (D b u eb) (ai eb ad) (ai eb aa)
   let A:H5 pl>.dT d:=b5 _ _ l a0 af
   let n:H5 ch>.lst (xs.map V.ref):=b5 _ _ B R U
   let tk:∀b ys,H3 b>.tup ys->H5 b>.tup ys:=λb ys eb=>by
    let⟨dx,h1⟩:=pa.ob
    let⟨ab,h2,_⟩:=pa.pf
    show b5 _ _ eb (bz eb h1 (by intro e;cases e)) (bz eb h2 (by intro e;cases e))
   let k2:=tk _ _ g2
   let k3:=tk _ _ g3
   let O:=M.tups tk
   by_cases c:rep (ur d e.1)=rep (ur d e.2)
   ·rw[N1 c] at be
    rw[N3 c]
    show fN ?_
    show⟨rep,z,dl,xs,_,_,Z,S,A,be,n,O,(),am c⟩
   ·rw[N0 c] at be
    rw[N5 c]
    show gT ?_
    show⟨_,Z,.inl ⟨Z,_,aN.of n⟩,?_⟩
    show⟨_,Z,_,Z,x,y,e.1,e.2,Z,k2,k3,by rw[m.1,m.2],_,Z,_,Z,x,y,e.1,e.2,Z,k2,k3,by rw[m.1,m.2],(by change 2<=N9;decide),λtp c3=>?_⟩
    let s7:aw H5 (Ob H5 tp (.tup [.ref (if HT.lexLt e.2 e.1=true then y else x),.ref (if HT.lexLt e.1 e.2=true then y else x)])):=(aw.refl _).upd c3
    let h7:Ob H5 tp (.tup [.ref (if HT.lexLt e.2 e.1=true then y else x),.ref (if HT.lexLt e.1 e.2=true then y else x)]) tp>.tup [.ref (if HT.lexLt e.2 e.1=true then y else x),.ref (if HT.lexLt e.1 e.2=true then y else x)]:=ag
    revert s7 h7
    generalize Ob H5 tp (.tup [.ref (if HT.lexLt e.2 e.1=true then y else x),.ref (if HT.lexLt e.1 e.2=true then y else x)])=H7
    intro s7 h7
    let h9:=s7 _ _ n
    show⟨ch,_,_,Z,Z,h9,(JF<|d_ ()),?_⟩
    let C:∀b ys,H7 b>.tup ys->Ob H7 ch (.lst (xs.map V.ref++[.ref tp])) b>.tup ys:=λb ys eb=>by rw[aj (bz eb h9 (by intro z;cases z))];show eb
    let W:=C _ _ (s7 _ _ k2)
    let Y:=C _ _ (s7 _ _ k3)
    let⟨⟨dy,q1⟩,ab,q2,q3⟩:=be
    show⟨bO rep (ur d e.1) (ur d e.2),z - 1,dl++[e],xs++[tp],_,_,Z,aP (S.trans s7) ar,?_,⟨⟨dy,?_⟩,ab,?_,q3⟩,?_,?_,?_,ah c⟩
    ·rw[aj (bz A n (by intro z;cases z))];show s7 _ _ A
    ·rw[aj R.symm];show s7 _ _ q1
    ·rw[aj U.symm];show s7 _ _ q2
    ·rw[ag,JM];rfl
    ·rw[JM]
     show Nb.snoc ((O.same s7).tups C) ⟨_,_,C _ _ h7,?_,?_⟩
     ·change _>HO.tup ((if HT.lexLt e.2 e.1=true then e.2 else e.1).map V.int)
      split
      ·show Y
      ·show W
     ·change _>HO.tup ((if HT.lexLt e.1 e.2=true then e.2 else e.1).map V.int)
      split
      ·show Y
      ·show W
    ·rw[JQ];simp only[J9,Ln];lia
  ·rintro σ H3 ⟨rep,z,dl,xs,x2,x3,rfl,D,l,pa,B,M,an,J⟩
   show cx ∅ (q ch xs H3 D B ?_)
   have:=J []
   rw[J6,JF,ap,Kb,po.kr L] at this
   rw[this]
   change eB H3 xs ((dl++[]).map nm)
   rw[J6];show M
theorem AD:gE P w K mg O_ 1 "without_loose_ends" zi ["steps", "pins"] (uU K):=by
 show rd ["steps", "pins", "many", "one", "two", "loose"] λnd _ _ _ _ _ H vs Q E hr h=>?_
 let⟨p,qq,as,bs,ls,pn,rfl,hp,ht,hq,am,hl,q⟩:=h
 show⟨_,(au (a9 2 nd du) (au (dq (aY (aq 0)) (cq Z (az (bw 3 nd) (az (bw 4 nd) bB))) (aS (dE (aT.one hr) (aq 2) (aq 3) (aA bh (df K7 K_ Lv (fh hr) (aq 2) (aF (aq 3) ao)) ao) (by rfl)) (dE (aT.one hr) (aq 2) (aq 4) (aA bh (df K7 K_ Lv (fh hr) (aq 2) (aF (aq 4) ao)) ao) (by rfl)))) (aS (a9 5 nd (fO (gR Z hr) T.dict_ (aI (Fd (jb ["spot"] ["pins", "many"] [1,2] (kK (aq 2)) (eM 0) (iJ (jJ (cu eZ (dF (by show(aT.one hr)) (aq 2) (aq 0) (λ_ _=>rfl)) ao) (il (eT (qg (K:=K) Z (by show hr)) (aq 0) (aq 1) (by with_unfolding_all rfl)))).pt) (bG (aF (aq 0) gJ))))))) (aL (jb ["one", "two"] ["loose"] [5] (aY (aq 0)) (ie (K:=K) (n:=2) Z Z (az (eM 0) (az (eM 1) bB)) Z Z) (iJ (jJ (fU (fA (by show(aT.one hr)) (aq 0) (aq 2))) (il (fU (fA (by show(aT.one hr)) (aq 1) (aq 2))))).pt) (bG (aF (aq 0) (aq 1)))))))),?_⟩
 let W:↑as=↑ls:=ht.length
 show bF λma a4=>?_
 let s1:aw H (Ob H ma (.dT [])):=(aw.refl H).upd a4
 let e1:Ob H ma (.dT []) ma>.dT []:=ag
 revert s1 e1
 generalize Ob H ma (.dT [])=H1
 intro s1 e1
 show⟨_,Z,p,Z,⟨_,s1.seq hp⟩,aK (K:=K) (a:=p) (xs:=as.map V.ref) (λi σ H'=>∃(d:-(-cP×V)) (x3 x4:Option V),
   σ=[some (.ref p),some (.ref qq),some (.ref ma),x3,x4,none]/\aw H H'/\H' ma>.dT d/\oR d (kG (ls.take i))/\↑d<=2*i)
  ⟨[],none,none,Z,s1,e1,⟨λx=>rfl,[],Z⟩,JG _⟩ (λi σ H' _ hz=>by let⟨_,_,_,_,s,_⟩:=hz;show s.seq hp) ?_ ?_⟩
 ·rintro i y σ H' hi ⟨d,x3,x4,rfl,sm,j,ct,R⟩
  let r:i<↑as:=by have:=(JX.mp hi).1;rwa [JF] at this
  let hy:y=.ref as[i]:=by
   rw[JV,JU r] at hi
   show(Option.some.inj hi).symm
  subst hy
  let⟨e,x,y,ec,g1,g2,g3⟩:=(ht.same sm).at (i:=i) (a:=as[i]) (by simp[r])
  show⟨as[i],_,Z,a_.of g1,Z,_,_,Z,_,_,Z,Z,?_⟩
  let O:=dZ d (iK e.1) (.int ((kG (ls.take i) e.1:Nat)+1))
  show iS (aR (fP (fT ∅ ∅ aB j (dg (.inl j) g2)) (ct.get e.1)) aB) ∅ ∅ (fg.t j (f9 g2) (d_ ())) ?_
  let F:=ct.put e.1
  let I:aw H (Ob H' ma (.dT (bC d (iK e.1) (.int ((kG (ls.take i) e.1:Nat)+1))))):=aP sm a4
  let f1:Ob H' ma (.dT (bC d (iK e.1) (.int ((kG (ls.take i) e.1:Nat)+1)))) ma>.dT (bC d (iK e.1) (.int ((kG (ls.take i) e.1:Nat)+1))):=ag
  let f2:Ob H' ma (.dT (bC d (iK e.1) (.int ((kG (ls.take i) e.1:Nat)+1)))) y>.tup (e.2.map V.int):=aj (bz g3 j (by intro z;cases z))<|g3
  revert I f1 f2 F O
  generalize Ob H' ma (.dT (bC d (iK e.1) (.int ((kG (ls.take i) e.1:Nat)+1))))=H2
  generalize bC d (iK e.1) (.int ((kG (ls.take i) e.1:Nat)+1))=b8
  intro O F I f1 f2
  let ap:=dZ b8 (iK e.2) (.int (((if e.2=e.1 then kG (ls.take i) e.2+1 else kG (ls.take i) e.2:Nat):Nat)+1))
  show kR (aR (fP (fT ∅ ∅ aB f1 (dg (.inl f1) f2)) (F.get e.2)) aB) ∅ ∅ (fg.t f1 (f9 f2) (d_ ())) ?_
  show⟨_,_,_,Z,aP I a4,ag,(F.put e.2).cong λz=>?_,()⟩
  rw[yi ec z]
  by_cases h1:z=e.2<;>by_cases h2:z=e.1
  ·simp[h1,<-h2]
  ·simp only[N1 h1,N0 h2,N0 (λw'=>h2 (Eq.symm w')),N1 h1.symm]
  ·simp only[N0 h1,N1 h2,N1 h2.symm,N0 (λw'=>h1 (Eq.symm w'))]
  ·simp only[N0 h1,N0 h2,N0 (λw'=>h2 (Eq.symm w')),N0 (λw'=>h1 (Eq.symm w'))]
   lia
 ·rintro σ H' ⟨d,x3,x4,rfl,sm,j,ct,R⟩
  rw[JF] at ct R
  rw[W,Kb] at ct
  let⟨us,L⟩:=ct.ks
  let Z0:↑us=↑d:=by have:=congrArg List.length L;simpa using this.symm
  let ab:∀x,kG ls x=1->x∈us:=λx hx=>by
   let h1:=ct.val x
   rw[N0 ()] at h1
   let h2:=Cb h1
   rw[L] at h2
   let⟨y,hy,e⟩:=JL.mp h2
   rw[<-mz e];show hy
  show st ?_
  show bF ⟨ma,.dT d,j,trivial,λo=>?_⟩
  let sf:∀b u,b≠ma->H' b>u->Ob H' ma (.frz o (.dT d)) b>u:=λb u hb e=>by rw[aj hb];show e
  let ef:Ob H' ma (.frz o (.dT d)) ma>.frz o (.dT d):=ag
  let sH:aw H (Ob H' ma (.frz o (.dT d))):=aP sm a4
  let A:∀{H2:Hp},aw (Ob H' ma (.frz o (.dT d))) H2->aw H' (Ob H2 ma (.dT d)):=λs b u e=>by
   by_cases hb:b=ma
   ·subst hb;rw[j] at e;cases e;show ag
   ·rw[aj hb];show s _ _ (sf b u hb e)
  revert sf ef sH A
  generalize Ob H' ma (.frz o (.dT d))=HF
  intro sf ef sH A
  show⟨_,Z,ma,o,.dT d,Z,ef,trivial,λD nD=>?_⟩
  let ar:H D=none:=sH.free nD
  let ca:D≠ma:=λz=>by rw[z,ef] at nD;cases nD
  show jd (u:=.dT d) (λi τ H2=>∃(x0:Option V) (rs:-N8),τ=[x0,some (.ref qq),some (.ref ma)]/\aw HF H2/\H2 D>.lst (rs.map V.ref)/\uM H2 rs (y7 ((us.take i).filter λx=>decide (dX pn ls x)))/\↑rs<=i)
   ⟨none,[],Z,(aw.refl HF).upd nD,ag,.nil,JG _⟩ (λi τ H2 _ hz=>by let⟨_,_,_,s,_⟩:=hz;show s _ _ ef) ?_ ?_
  ·rintro i x v τ H2 ac hi ⟨x0,rs,rfl,s2,k,B,ah⟩
   show gn ?_
   let⟨kk,b,M,rfl,hb⟩:=ac
   let S:i<↑us:=Z0<|hi
   let Y:kk=iK us[i]:=by
    let h1:(d.map (·.1))[i]?>kk:=by rw[JV,M];rfl
    rw[L,JV,JU S] at h1
    show(Option.some.inj h1).symm
   rw[Y] at hb
   let af:us.take (i+1)=us.take i++[us[i]]:=by rw[K6,JU S];rfl
   let h0:(aE d (iK us[i])).isSome=true:=by
    rw[<-cZ,List.any_eq_true]
    show⟨(kk,v),JY M,by simp[Y]⟩
   let hv:=ct.val us[i]
   rw[af,Le]
   revert hb h0 hv
   generalize us[i]=c
   intro hb h0 hv
   let X:=Dl hb
   let ad:aE d (iK c)>.int (kG ls c:Nat):=by
    by_cases z:kG ls c=0
    ·rw[N1 z] at hv;rw[hv] at h0;cases h0
    ·rw[N0 z] at hv;show hv
   let g:=dg (H:=H2) (.inr ⟨o,s2 _ _ ef⟩) X
   rw[ad] at g
   show c9 (jx (ay (dR (dG ∅ ∅ g) aB)) λ_=>ay (t8 ∅ ∅ X (a_.same (sH.trans s2) hq) (am.same (sH.trans s2)))) (c:=decide (dX pn ls c)) ?_ _ ?_
   ·unfold dX
    by_cases h1:c∈pn<;>by_cases h2:kG ls c=1<;>simp[h1,h2]<;>lia
   by_cases lo:dX pn ls c
   ·rw[N3 lo]
    show gT ?_
    show pD (ak ∅ (ak aB ax)) (by change 2<=N9;decide) λtp a0=>?_
    let a2:D≠tp:=ai k a0
    let s3:aw HF (Ob (Ob H2 tp (.tup [.ref b,.bl true])) D (.lst (rs.map V.ref++[.ref tp]))):=aP (s2.upd a0) nD
    let tk:∀b' ys,H2 b'>.tup ys->Ob (Ob H2 tp (.tup [.ref b,.bl true])) D (.lst (rs.map V.ref++[.ref tp])) b'>.tup ys:=λb' ys eb=>by
     rw[aj (bz eb k (by intro z;cases z)),aj (ai eb a0)];show eb
    show⟨_,aj a2<|k,(JF<|d_ (by have:ko (.dT d)=↑d:=rfl;lia)),_,rs++[tp],Z,s3,?_,?_,?_⟩
    ·rw[ag,JM];rfl
    ·let e5:y7 ((us.take i).filter (λx=>decide (dX pn ls x))++[c].filter (λx=>decide (dX pn ls x)))=y7 ((us.take i).filter λx=>decide (dX pn ls x))++[(iK c,.bl true)]:=by
      rw[show [c].filter (λx=>decide (dX pn ls x))=[c] by simp[lo]]
      unfold y7;rw[JM];rfl
     rw[e5]
     show Nb.snoc (Nb.mapP B λ_ _ bf=>by let⟨b',h1,h2⟩:=bf;show⟨b',tk _ _ h1,tk _ _ h2⟩) ⟨b,?_,tk _ _ hb⟩
     rw[aj a2.symm,ag]
    ·rw[JQ];simp only[J9,Ln];lia
   ·rw[N5 lo]
    show fN ?_
    show⟨_,rs,Z,s2,k,?_,()⟩
    rw[show [c].filter (λx=>decide (dX pn ls x))=[] by simp[lo],J6];show B
  ·rintro τ H2 ⟨x0,rs,rfl,s2,k,B,ah⟩
   show⟨s2 _ _ ef,?_⟩
   let sb:=A s2
   let J:Ob H2 ma (.dT d) D>.lst (rs.map V.ref):=aj ca<|k
   let m:uM (Ob H2 ma (.dT d)) rs (y7 ((us.take (ko (.dT d))).filter λx=>decide (dX pn ls x))):=Nb.mapP B λ_ _ bf=>by
    let⟨b',h1,h2⟩:=bf
    let U:∀{b:N8} {ys:-V},H2 b>.tup ys->Ob H2 ma (.dT d) b>.tup ys:=λe=>by rw[aj (bz e (s2 _ _ ef) (by intro z;cases z))];show e
    show⟨b',U h1,U h2⟩
   rw[show ko (.dT d)=↑us from Z0.symm,Kb] at m
   revert sb J m
   generalize Ob H2 ma (.dT d)=H3
   intro sb J m
   show⟨D,rs,_,Z,J,m,λlo cd=>?_⟩
   let dr:=vz _ (us.filter λx=>decide (dX pn ls x)) Z
   let C:∀x,(aE (Bl (y7 (us.filter λx=>decide (dX pn ls x)))) (iK x)).isSome=decide (dX pn ls x):=λx=>by
    rw[dr x]
    by_cases h1:dX pn ls x
    ·have:=ab x h1.2
     simp[h1,this]
    ·simp[h1]
   revert C
   generalize Bl (y7 (us.filter λx=>decide (dX pn ls x)))=a6
   intro C
   let s4:aw H (Ob H3 lo (.dT a6)):=(sm.trans sb).upd cd
   let e4:Ob H3 lo (.dT a6) lo>.dT a6:=ag
   revert s4 e4
   generalize Ob H3 lo (.dT a6)=H4
   intro s4 e4
   show⟨_,Z,p,Z,⟨_,s4.seq hp⟩,λD5 n5=>?_⟩
   let an:H D5=none:=s4.free n5
   let c2:lo≠D5:=ai e4 n5
   show aK (K:=K) (xs:=as.map V.ref) (λi τ H'=>∃(x0 x1:Option V) (rs:-N8),τ=[x0,x1,some (.ref lo)]/\aw H4 H'/\H' D5>.lst (rs.map V.ref)/\eB H' rs ((ls.take i).filter λe=>!decide (xy pn ls e))/\↑rs<=i)
    ⟨none,none,[],Z,(aw.refl _).upd n5,ag,.nil,JG _⟩ (λi τ H' _ hz=>by let⟨_,_,_,_,s,_⟩:=hz;show(s4.trans s).seq hp) ?_ ?_
   ·rintro i y τ H5 hi ⟨x0,x1,rs,rfl,s5,l,f,aa⟩
    let r:i<↑as:=by have:=(JX.mp hi).1;rwa [JF] at this
    let hy:y=.ref as[i]:=by
     rw[JV,JU r] at hi
     show(Option.some.inj hi).symm
    subst hy
    let⟨e,x,y,ec,g1,g2,g3⟩:=(ht.same (s4.trans s5)).at (i:=i) (a:=as[i]) (by simp[r])
    let N:=s5 _ _ e4
    show⟨as[i],_,Z,a_.of g1,Z,_,_,Z,_,_,Z,Z,?_⟩
    rw[show ls.take (i+1)=ls.take i++[e] by rw[K6,ec];rfl,Le]
    show c9 (jx (ay (dz ∅ ∅ (dg (.inl N) g2))) λ_=>ay (dz ∅ ∅ (dg (.inl N) g3))) (c:=!decide (xy pn ls e)) ?_ _ ?_
    ·rw[C,C]
     unfold xy
     by_cases h1:dX pn ls e.1<;>by_cases h2:dX pn ls e.2<;>simp[h1,h2]
    by_cases bd:xy pn ls e
    ·rw[N3 bd]
     show fN ?_
     show⟨_,_,rs,Z,s5,l,?_,()⟩
     rw[show [e].filter (λe=>!decide (xy pn ls e))=[] by simp[bd],J6];show f
    ·rw[N5 bd]
     show gT ?_
     show pD (ak ∅ (ak ∅ ax)) (by change 2<=N9;decide) λtp a0=>?_
     let a2:D5≠tp:=ai l a0
     let tk:∀b' ys,H5 b'>.tup ys->Ob (Ob H5 tp (.tup [.ref x,.ref y])) D5 (.lst (rs.map V.ref++[.ref tp])) b'>.tup ys:=λb' ys eb=>by
      rw[aj (bz eb l (by intro z;cases z)),aj (ai eb a0)];show eb
     show⟨_,aj a2<|l,(JF<|d_ ()),_,_,rs++[tp],Z,aP (s5.upd a0) n5,?_,?_,?_⟩
     ·rw[ag,JM];rfl
     ·rw[show [e].filter (λe=>!decide (xy pn ls e))=[e] by simp[bd]]
      show Nb.snoc (f.tups tk) ⟨x,y,?_,tk _ _ g2,tk _ _ g3⟩
      rw[aj a2.symm,ag]
     ·rw[JQ];simp only[J9,Ln];lia
   ·rintro τ H5 ⟨x0,x1,rs,rfl,s5,l,f,aa⟩
    rw[JF,W,Kb] at f
    show q D5 rs H5 (s4.trans s5) l f
theorem Bz (o:aU P w K mg O_ "without_rings" 4 ["steps"] (uX K))(k:aU P w K mg O_ "without_loose_ends" 1 ["steps", "pins"] (uU K)):gE P w K mg O_ 5 "pruned" Ek ["steps", "pins"] (yX K):=by
 show rd ["steps", "pins", "kept", "left"] λnd _ _ _ _ _ H vs Q E hr h=>?_
 let⟨p,D,as,bs,ls,v,rfl,hp,ht,hq,c,W,d,O,q⟩:=h
 show⟨_,(au (a9 2 nd (bR o hr (aI (aq 0)))) (au (a9 3 nd (bR k hr (aF (aq 2) (aq 1)))) (aS (fH NN.never (cu eO (bW bc T.len_ (aI (aq 3))) (bW bc T.len_ (aI (aq 2)))) (aS (a9 2 nd (aq 3)) (a9 3 nd (bR k hr (aF (aq 2) (aq 1)))))) (aL (bW (oS hr) T.sorted_ (aI (aq 2))))))),?_⟩
 let g:↑as=↑ls:=ht.length
 let hK:↑(jh (id:T3->T3) ls)<=↑ls:=(iU ls id).length_le
 let I:L3 ((jh (id:T3->T3) ls).map nm):=(O.sub (iU ls id)).nm
 let b:↑((jh (id:T3->T3) ls).map nm)<64:=JF<|d
 show zL (ak ∅ ax) ⟨p,as,ls,Z,hp,ht,W,O,λs l H1 s1 A r=>?_⟩
 revert r I b q
 generalize (jh (id:T3->T3) ls).map nm=z
 intro q I b r
 let e:↑l=↑z:=↑r
 show zL (ak ∅ (ak ∅ ax)) ⟨s,D,l,bs,z,v,Z,aN.of A,r,a_.same s1 hq,c.same s1,(),λu n H2 J y x=>?_⟩
 show hU (λm σ H'=>∃(s u:N8) (l n:-N8) (K1:-E2),σ=[some (.ref p),some (.ref D),some (.ref s),some (.ref u)]/\aw H H'/\H' s>.lst (l.map V.ref)/\eB H' l K1/\H' u>.lst (n.map V.ref)/\eB H' n (g_ v K1)/\
   K1.Sublist z/\(∀L,L.Sublist z->oW v L->L.Sublist K1)/\m=↑K1)
  ⟨_,s,u,l,n,z,Z,s1.trans J,J _ _ A,r.same J,y,x,List.Sublist.refl _,λL h _=>h,Z⟩ ?_
 rintro m σ H' ⟨s,u,l,n,K1,rfl,B,A,r,y,x,sb,M,rfl⟩
 let e:↑l=↑K1:=↑r
 let i:↑n=↑(g_ v K1):=↑x
 let j:=xw (O8:=v) (K:=K1)
 let f:=sb.length_le
 show⟨_,ay (aR (cI (ak ∅ ax) λQ' F=>⟨_,_,Z,.inl ⟨_,aN.of y,Z⟩,F⟩) (cI (ak ∅ ax) λQ' F=>⟨_,_,Z,.inl ⟨_,aN.of A,Z⟩,F⟩)),λhb N Y=>?_,λhb=>?_⟩
 ·let a:(↑(n.map V.ref):Int)<(↑(l.map V.ref):Int):=N4 hb
  rw[JF,JF] at a
  let⟨b1,b2⟩:=AM sb M
  show cM ∅ ?_
  show EJ (ak ∅ (ak ∅ ax)) ⟨u,D,n,bs,_,v,Z,aN.of y,x,a_.same B hq,c.same B,(),λS c3 H3 C e3 U=>?_⟩
  show Y _ _ _ () ⟨u,S,n,c3,_,Z,B.trans C,C _ _ y,x.same C,e3,U,b1,b2,Z⟩
 ·let a:¬(↑(n.map V.ref):Int)<(↑(l.map V.ref):Int):=N6 hb
  rw[JF,JF] at a
  let cl:oW v K1:=ue ()
  show⟨_,Z,s,l,K1,Z,aN.of A,r,I.sub sb,(),λl5 b5 X R t5 p5 Z0=>?_⟩
  show q l5 b5 K1 X _ (B.upd R) ⟨sb,cl,M⟩ p5 Z0 ag (eB.new t5 R)
theorem ES:gE P w K mg O_ 1 "_law_mix" Gz ["cell", "k"] DY:=by
 show rd ["cell", "k"] λnd _ _ _ _ _ H vs Q E hr h=>?_
 let⟨c,k,rfl,a,h1,q⟩:=h
 show⟨_,(aW (aL (aA cU (aA cJ (aA bh (aA cU (aq 0) ao) (aA cJ (aA cJ ao (aA bh (aq 1) ao)) (aA bh (aq 1) ao))) ao) ao))),?_⟩
 show cx (cY (cY (aR (cY ∅ aB (by first|(change(0:Int)<_;lia)|(change(0:Int)<_;decide))) (cY (cY aB (aR ∅ aB) (by first|show Eo () ()|show DZ () ())) (aR ∅ aB) (by first|show Eo () ()|show DZ () ()))) aB (by first|show Eo () ()|show DZ () ())) aB (by first|(change(0:Int)<_;lia)|(change(0:Int)<_;decide))) (q _ (Ld _ (by decide)) (Ls _ (by decide)))
theorem zO (a:aU P w K mg O_ "_law_mix" 1 ["cell", "k"] DY):gE P w K mg O_ 2 "_law_price" yJ ["cell", "k"] u_:=by
 show rd ["cell", "k", "mixed"] λnd _ _ _ _ _ H vs Q E hr h=>?_
 let⟨c,k,rfl,f,h1,q⟩:=h
 show⟨_,(aS (a9 2 nd (bR a hr (aF (aq 0) (aq 1)))) (aL (aA bh ao (aA cU (aA cJ (aq 2) (aq 2)) (aG aQ (bL (aF ao (aA z9 ao ao))) (aA cU (aq 0) ao)))))),?_⟩
 show bF (cw (ak ∅ (ak ∅ ax)) ⟨c,k,Z,f,h1,λm g l=>?_⟩)
 show gZ (gH (aB _ (gH ((cY (i:=m) (j:=m) ∅ ∅ (Eo () ())) _ (gH (Ey (vs:=[.int 5,.int 1000000000000]) (ak aB (ak (cY aB aB (IY (by decide) (by decide) (by decide))) ax)) (by change 2<=N9;decide) λp b=>?_))))))
 show(cY ∅ aB (by first|(change(0:Int)<_;lia)|(change(0:Int)<_;decide))) _ ?_
 let d:c%2=0\/c%2=1:=by lia
 rcases d with e|e
 ·rw[e]
  show⟨p,_,0,.int 5,Z,Z,aN.of ag,Z,_,_,Z,Z,(by change(0:Int)<5;decide),_,_,Z,Z,?_⟩
  show q _ _ ((aw.refl H).upd b) (by have:=Ld (m*m) (show(5:Int)≠0 by decide);lia) (by have:=Ls (m*m) (show(0:Int)<5 by decide);lia)
 ·rw[e]
  show⟨p,_,1,.int 1000000000000,Z,Z,aN.of ag,Z,_,_,Z,Z,(by change(0:Int)<1000000000000;decide),_,_,Z,Z,?_⟩
  show q _ _ ((aw.refl H).upd b) (by have:=Ld (m*m) (show(1000000000000:Int)≠0 by decide);lia) (by have:=Ls (m*m) (show(0:Int)<1000000000000 by decide);lia)
theorem CL:gE P w K mg O_ 1 "_law_spot" DR ["sizes", "number"] lA:=by
 show rd ["sizes", "number", "above"] λnd _ _ _ _ _ H vs Q E hr h=>?_
 let⟨z,L,R,C,n,rfl,b,S,q⟩:=h
 show⟨_,(au (a9 1 nd (aA cU (aq 1) (aA cJ (aA cJ (aG aD (aq 0) ao) (aG aD (aq 0) ao)) (aG aD (aq 0) ao)))) (aS (a9 2 nd (aA dt (aq 1) (aG aD (aq 0) ao))) (aL (bG (aO (aA dt (aq 2) (aG aD (aq 0) ao)) (aF (aA cU (aq 2) (aG aD (aq 0) ao)) (aA cU (aq 1) (aG aD (aq 0) ao)))))))),?_⟩
 let j:=S.l0
 let l1:=S.l1
 let i:=S.r0
 let e:=S.r1
 let g:=S.c0
 let f:=S.c1
 let a:0<L*R*C:=Int.mul_pos (Int.mul_pos () ()) ()
 let c:(((n%(L*R*C)).toNat:Nat):Int)=n%(L*R*C):=Int.toNat_of_nonneg (Ld _ ())
 show cM (v:=.int (n%(L*R*C))) (cY ∅ (cY (cY (aJ (v:=.int L) ∅ aB (a_.of b) Z) (aJ (v:=.int R) ∅ aB (a_.of b) Z) (Eo () ())) (aJ (v:=.int C) ∅ aB (a_.of b) Z) (Eo () ())) a) ?_
 show cM (v:=.int (n%(L*R*C)/C)) (cY ∅ (aJ (v:=.int C) ∅ aB (a_.of b) Z) (Bp () ())) ?_
 show lL (vs:=[.int (n%(L*R*C)/C/R),.int (n%(L*R*C)/C%R),.int (n%(L*R*C)%C)]) (ak (cY ∅ (aJ (v:=.int R) ∅ aB (a_.of b) Z) (Bp () ())) (ak (cY ∅ (aJ (v:=.int R) ∅ aB (a_.of b) Z) (by change 0<R;lia)) (ak (cY ∅ (aJ (v:=.int C) ∅ aB (a_.of b) Z) (by change 0<C;lia)) ax))) (by change 3<=N9;decide) λt d=>?_
 have:=q t d
 unfold sN at this
 rw[c] at this
 show this
theorem yz:gE P w K mg O_ 1 "neighbours" A6 ["one", "two"] uC:=by
 show rd ["one", "two"] λnd _ _ _ _ _ H vs Q E hr h=>?_
 let⟨a,b,x,y,w,e,d,f,rfl,ha,hb,q⟩:=h
 show⟨_,(aW (aL (zo eZ (aA bh (aA bh (bW iV T.abs_ (aI (aA cL (aG aD (aq 0) ao) (aG aD (aq 1) ao)))) (bW iV T.abs_ (aI (aA cL (aG aD (aq 0) ao) (aG aD (aq 1) ao))))) (bW iV T.abs_ (aI (aA cL (aG aD (aq 0) ao) (aG aD (aq 1) ao))))) ao))),?_⟩
 show cx (fP (dR (aR (aR (cI (v:=.int (if x - e<0 then -(x - e:_) else x - e)) (ak (aR (aJ (v:=.int x) ∅ aB (a_.of ha) Z) (aJ (v:=.int e) ∅ aB (a_.of hb) Z)) ax) λQ' c=>⟨_,Z,c⟩) (cI (v:=.int (if y - d<0 then -(y - d:_) else y - d)) (ak (aR (aJ (v:=.int y) ∅ aB (a_.of ha) Z) (aJ (v:=.int d) ∅ aB (a_.of hb) Z)) ax) λQ' c=>⟨_,Z,c⟩)) (cI (v:=.int (if w - f<0 then -(w - f:_) else w - f)) (ak (aR (aJ (v:=.int w) ∅ aB (a_.of ha) Z) (aJ (v:=.int f) ∅ aB (a_.of hb) Z)) ax) λQ' c=>⟨_,Z,c⟩)) aB) ?_) q
 rw[pS]
 congr 1
 show decide_eq_decide.mpr ?_
 rw[tZ,tZ,tZ]
 omega
theorem wW (d:aU P w K mg O_ "neighbours" 1 ["one", "two"] uC)(c:bQ P w K mg O_ Oc "is_open" 2 ["self", "spot"] (kY Oc)):ku P w K mg O_ 3 "is_step" "Floor.is_step" vq ["self", "one", "two"] (qp Oc):=by
 show rd ["self", "one", "two"] λnd _ _ _ _ _ H vs Q E hr h=>?_
 let⟨p,pr,vi,rd,td,a,b,g,x,y,w,i,f,j,rfl,e,hg,ha,hb,q⟩:=h
 show⟨_,(aW (aL (lF (bR d hr (aF (aq 1) (aq 2))) (lF (de (aq 0) T.cl_Floor c (hr.mono (by decide)) (aI (aq 1))) (o9 (de (aq 0) T.cl_Floor c (hr.mono (by decide)) (aI (aq 2)))))))),?_⟩
 let⟨dx,z,h1,h2⟩:=e.ex
 show gZ ⟨_,Z,_,Z,a,b,x,y,w,i,f,j,Z,ha,hb,_,Z,?_⟩
 cases e1:Bm [x,y,w] [i,f,j] with
 |false=>rw[e1] at q;show fN q
 |true=>
  rw[e1] at q
  show gT ⟨_,Z,p,dx,_,Z,h1,IF,_,Z,p,pr,vi,rd,td,a,g,x,y,w,Z,e,hg,ha,_,Z,?_⟩
  cases e2:nj g [x,y,w] with
  |false=>rw[e2] at q;show fN q
  |true=>rw[e2] at q;show gT ⟨_,Z,p,dx,_,Z,h1,IF,_,Z,p,pr,vi,rd,td,b,g,i,f,j,Z,e,hg,hb,q⟩
theorem AK:gE P w K mg O_ 1 "hill_round" zT ["far", "born", "died"] rL:=by
 show rd ["far", "born", "died", "top", "heights", "spot", "price", "high"] λnd _ _ _ _ _ H vs Q E hr h=>?_
 let⟨d,a,b,e,M,L0,R,C,rfl,Z0,hd,pl,hM,it,q⟩:=h
 show⟨_,(au (a9 3 nd (aA cL (aq 2) (aq 1))) (au (a9 4 nd du) (aS (jM (dq (qZ (aq 0)) (cq Z (az (bw 5 nd) (az (bw 6 nd) bB))) (aS (a9 7 nd (aA cL (bW (gb Z) T.min_ (aF (bW (wQ Z) T.max_ (aF (aA cJ ao (aq 6)) (aq 1))) (aq 2))) (aq 1))) (cK (cu eO (aq 7) (aq 3)) (dE (aT.one hr) (aq 4) (aq 5) (aq 7) (by rfl)))))) (aL (bG (aF (aq 3) (aq 4))))))),?_⟩
 let F:N9=2^24:=rfl
 show cM (aR ∅ ∅) ?_
 show λL N=>?_
 let r:L≠d:=λz=>by rw[z,hd] at N;cases N
 let s1:aw H (Ob H L (.dT [])):=(aw.refl H).upd N
 let s:Ob H L (.dT []) L>.dT (bg R C []):=ag
 revert s1 s
 generalize Ob H L (.dT [])=H1
 intro s1 s
 show⟨d,_,s1 _ _ hd,True.intro,λo=>⟨_,Z,d,o,_,Z,ag,True.intro,?_⟩⟩
 show nR (λi σ H'=>∃O S X:Option V,σ=[some (.ref d),some (.int b),some (.int e),some (.int (e - b)),some (.ref L),O,S,X]/\eY d H H'/\H' d>.frz o (.dT (bg R C a))/\H' L>.dT (bg R C (hil b e (a.take i))))
  ⟨none,none,none,Z,eY.of s1,ag,aj r<|s⟩ (λi σ H' _ hz=>by let⟨_,_,_,_,_,h,_⟩:=hz;show h) ?_ ?_
 ·rintro i x v p σ H2 hk hi J ⟨O,S,X,rfl,Y,l,g⟩
  let⟨kk,c,e1,rfl,hc⟩:=hk
  let⟨k,e2,rfl⟩:=yO e1
  let⟨n,rfl⟩:=it k v (JY e2)
  let D:p≠d:=λz=>by rw[z,l] at J;cases J
  let B:p≠L:=λz=>by rw[z,g] at J;cases J
  let m:Ob H2 p (.tup [.ref c,.int n]) c>.tup ((iK (sN R C k)).map kV):=aj (ai hc J)<|hc
  let j:Ob H2 p (.tup [.ref c,.int n]) d>.frz o (.dT (bg R C a)):=aj (JH D)<|l
  let f:Ob H2 p (.tup [.ref c,.int n]) L>.dT (bg R C (hil b e (a.take i))):=aj (JH B)<|g
  let A:Ob H2 p (.tup [.ref c,.int n]) p>.tup [.ref c,.int n]:=ag
  let I:eY d H (Ob H2 p (.tup [.ref c,.int n])):=Y.new J
  revert m j f I A
  generalize Ob H2 p (.tup [.ref c,.int n])=H3
  intro m j f A I
  show⟨p,_,Z,a_.of A,Z,?_⟩
  show⟨_,_,Z,gn ?_⟩
  show⟨_,_,Z,gn ?_⟩
  show⟨Z,?_⟩
  let⟨hA,hB⟩:=CG (b:=b) (e:=e) pl e2
  let u:((if e<(if GT.gt b (2*n) then b else 2*n) then e else (if GT.gt b (2*n) then b else 2*n)) - b<e - b)↔(2*n<e/\b<e):=by
   split<;>split<;>lia
  show cM (aR (cI (ak (cI (ak (cY aB ∅ (DZ (by decide) (by decide))) (ak ∅ ax)) λQ' W=>⟨_,_,Z,W⟩) (ak ∅ ax)) λQ' W=>⟨_,_,Z,W⟩) ∅) ?_
  show dI (ay (aR ∅ ∅)) (λz=>?_) (λz=>?_)
  ·let U:=u.mp (N4 z)
   let hv:(if e<(if GT.gt b (2*n) then b else 2*n) then e else (if GT.gt b (2*n) then b else 2*n)) - b=if GT.gt (2*n) b then 2*n - b else 0:=by
    split<;>split<;>split<;>lia
   show⟨_,Z,_,Z,_,Z,L,_,Z,fg.t f m (by rw[bT];have:=(zr (b:=b) (e:=e) (pl.take i)).few;lia),?_⟩
   show⟨_,_,_,Z,I.at N,aj (JH r)<|j,?_⟩
   rw[ag,eS Z0,hB U,hv]
  ·let U:¬(2*n<e/\b<e):=λy=>(N6 z) (u.mpr y)
   show⟨_,_,_,Z,I,j,by rw[f,hA U]⟩
 ·rintro σ H2 ⟨O,S,X,rfl,Y,l,g⟩
  let el:ko (.dT (bg R C a))=↑a:=bT
  rw[el,Kb] at g
  show⟨l,?_⟩
  let f:Ob H2 d (.dT (bg R C a)) L>.dT (bg R C (hil b e a)):=aj r<|g
  let I:aw H (Ob H2 d (.dT (bg R C a))):=Y.thaw hd
  revert f I
  generalize Ob H2 d (.dT (bg R C a))=H3
  intro f I
  show lL (ak ∅ (ak ∅ ax)) (by change 2<=N9;decide) λt nt=>?_
  show q _ t L (I.upd nt) N ag (aj (ai f nt)<|f)
theorem FR:gE P w K mg O_ 1 "least_far" Gp ["fars"] Em:=by
 show rd ["fars", "least", "far", "spot", "price"] λnd _ _ _ _ _ H vs Q E hr h=>?_
 let⟨F,ds,fs,M,L0,R,C,rfl,Z0,hM,hF,ok,q⟩:=h
 show⟨_,(au (a9 1 nd du) (aS (dq (aY (aq 0)) (bw 2 nd) (aW (jM (dq (qZ (aq 2)) (cq Z (az (bw 3 nd) (az (bw 4 nd) bB))) (aW (cK (iz (fU (fA (aT.one hr) (aq 3) (aq 1))) (gB (cu eO (aq 4) (dF (aT.one hr) (aq 1) (aq 3) (λ_ _=>rfl))))).pt (dE (aT.one hr) (aq 1) (aq 3) (aq 4) (by rfl)))))))) (aL (aq 1)))),?_⟩
 let T:N9=2^24:=rfl
 let len:=hF.len
 show λL nL=>?_
 let s1:aw H (Ob H L (.dT [])):=(aw.refl H).upd nL
 let B:Ob H L (.dT []) L>.dT (bg R C []):=ag
 revert s1 B
 generalize Ob H L (.dT [])=H1
 intro s1 B
 show⟨_,Z,F,Z,⟨_,aN.of (s1 _ _ hF.hl)⟩,?_⟩
 show aK (K:=K) (xs:=ds.map V.ref) (λi σ H'=>∃(x2 W X:Option V) (U:-(Nat×V)),σ=[some (.ref F),some (.ref L),x2,W,X]/\aw H H'/\H' L>.dT (bg R C U)/\sP M (fs.take i).flatten U)
  ⟨none,none,none,[],Z,s1,B,sP.nil⟩ (λi σ H' _ hz=>by let⟨_,_,_,_,_,s,_⟩:=hz;show aN.of (s _ _ hF.hl)) ?_ ?_
 ·rintro i x σ H2 hx ⟨x2,W,X,U,rfl,s2,I,lst⟩
  let hi:i<↑ds:=by have:=(JX.mp hx).1;simpa using this
  obtain⟨d,an,rfl⟩:∃d,ds.getD i 0=d/\x=.ref d:=⟨_,Z,by
   rw[JV,JU hi] at hx
   rw[JS,JU hi]
   show(Option.some.inj hx).symm⟩
  obtain⟨f,aa⟩:∃f,fs.getD i []=f:=⟨_,Z⟩
  let hd:H d>.dT (bg R C f):=by rw[<-an,<-aa];show hF.ats i hi
  let N:fs[i]?>f:=by rw[<-aa,JS,JU ()];rfl
  let⟨pl,it⟩:=ok f (JY N)
  let A:L≠d:=λz=>by rw[z,hd] at nL;cases nL
  show gn ?_
  show⟨d,_,s2 _ _ hd,True.intro,λo=>⟨_,Z,d,o,_,Z,ag,True.intro,?_⟩⟩
  show nR (λj σ H'=>∃(W X:Option V) (U:-(Nat×V)),σ=[some (.ref F),some (.ref L),some (.ref d),W,X]/\eY d H H'/\H' d>.frz o (.dT (bg R C f))/\H' L>.dT (bg R C U)/\sP M ((fs.take i).flatten++f.take j) U)
   ⟨_,_,U,Z,eY.of s2,ag,aj A<|I,by simpa using lst⟩ (λi σ H' _ hz=>by let⟨_,_,_,_,_,h,_⟩:=hz;show h) ?_ ?_
  ·rintro j x v p σ H3 hk hj Y ⟨y3,y4,U,rfl,s3,u,r,lst⟩
   let⟨kk,c,e1,rfl,hc⟩:=hk
   let⟨k,e2,rfl⟩:=yO e1
   let⟨n,rfl⟩:=it k v (JY e2)
   let J:k<M:=pl.lt _ (JY e2)
   let S:p≠d:=λz=>by rw[z,u] at Y;cases Y
   let O:p≠L:=λz=>by rw[z,r] at Y;cases Y
   let e:Ob H3 p (.tup [.ref c,.int n]) c>.tup ((iK (sN R C k)).map kV):=aj (ai hc Y)<|hc
   let b:Ob H3 p (.tup [.ref c,.int n]) d>.frz o (.dT (bg R C f)):=aj (JH S)<|u
   let a:Ob H3 p (.tup [.ref c,.int n]) L>.dT (bg R C U):=aj (JH O)<|r
   let D:Ob H3 p (.tup [.ref c,.int n]) p>.tup [.ref c,.int n]:=ag
   let s4:eY d H (Ob H3 p (.tup [.ref c,.int n])):=s3.new Y
   revert e b a s4 D
   generalize Ob H3 p (.tup [.ref c,.int n])=H4
   intro e b a D s4
   let ht:(fs.take i).flatten++f.take (j+1)=((fs.take i).flatten++f.take j)++[(k,.int n)]:=by rw[K6,e2,Kl];rfl
   show⟨p,_,Z,a_.of D,Z,?_⟩
   show⟨_,_,Z,gn ?_⟩
   show⟨_,_,Z,gn ?_⟩
   show⟨Z,?_⟩
   let g:fX H4 L (.ref c) (aE U k):=by have:=fX.t a e;rwa [bP Z0] at this
   let put:sP M ((fs.take i).flatten++f.take (j+1)) (bC U k (.int n))->jw (bI 1) (bI 3) (bI 4) {nx:=λσ H'=>∃(W X:Option V) (U:-(Nat×V)),σ=[some (.ref F),some (.ref L),some (.ref d),W,X]/\eY d H H'/\H' d>.frz o (.dT (bg R C f))/\H' L>.dT (bg R C U)/\sP M ((fs.take i).flatten++f.take (j+1)) U,rt:=λ_ _=>True,bk:=λ_ _=>True,ct:=λ_ _=>True} [some (.ref F),some (.ref L),some (.ref d),some (.ref c),some (.int n)] H4:=λl=>
    ⟨_,Z,_,Z,_,Z,L,_,Z,fg.t a e (by rw[bT];have:=lst.pl.few;lia),_,_,_,Z,s4.at nL,aj (JH A)<|b,by rw[ag,eS Z0],l⟩
   cases ev:aE U k with
   |none=>
    rw[ev] at g
    show jL (EE (B0 (dz ∅ ∅ g))) Z ?_
    show put (by rw[ht];show lst.put J λm hm=>by rw[ev] at hm;cases hm)
   |some y=>
    let⟨m,rfl⟩:=lst.it.val ev
    rw[ev] at g
    show dI (oV (B0 (dz ∅ ∅ g)) (ay (aR ∅ (dG ∅ ∅ g)))) (λz=>?_) (λz=>?_)
    ·let z':n<m:=N4 z
     show put (by rw[ht];show lst.put J λm' hm=>by rw[ev] at hm;cases hm;show z')
    ·let z':¬n<m:=N6 z
     show⟨_,_,U,Z,s4,b,a,ht<|lst.stay ev z'⟩
  ·rintro σ H3 ⟨y3,y4,U,rfl,s3,u,r,lst⟩
   let el:ko (.dT (bg R C f))=↑f:=bT
   rw[el,Kb] at lst
   show⟨u,_,_,_,U,Z,s3.thaw hd,aj A<|r,?_⟩
   rw[K6,N,List.flatten_append]
   simpa using lst
 ·rintro σ H2 ⟨x2,W,X,U,rfl,s2,I,lst⟩
  rw[JF,len,Kb] at lst
  show cx ∅ (q _ L U s2 nL I lst)
theorem AE (n:K.In O_)(d:aU P w K mg O_ "check_inside" 2 ["sizes", "spot"] ij)(i:bQ P w K mg O_ Oc "is_step" 3 ["self", "one", "two"] (qp Oc))(f:bQ P w K mg O_ Oc "priced" 1 ["self", "one", "two"] (kX Oc)):ku P w K mg O_ 4 "step_price" "Floor.step_price" yB ["self", "one", "two"] (uY Oc):=by
 show rd ["self", "one", "two"] λnd _ _ _ _ _ H vs Q E hr h=>?_
 let⟨p,pr,vi,rd,td,a,b,g,x,y,w,k,j,w',rfl,l,hg,ha,hb,hi,c,e,q⟩:=h
 show⟨_,(au (bj (bR d hr (aF (bq (aq 0) Z) (aq 1)))) (au (bj (bR d hr (aF (bq (aq 0) Z) (aq 2)))) (aS (cK (fV (gu (de (aq 0) T.cl_Floor i (hr.mono (by decide)) (aF (aq 1) (aq 2))))) cX) (aL (de (aq 0) T.cl_Floor f (hr.mono (by decide)) (aF (aq 1) (aq 2))))))),?_⟩
 let⟨dx,z,h1,h2⟩:=l.ex
 show⟨_,Z,p,Oc,dx,_,_,Z,h1,T.cl_Floor,T.na_Floor_sizes,Hl,_,Z,z,a,g.L,g.R,g.C,x,y,w,Z,h2,ha,hi,?_⟩
 show⟨_,Z,p,Oc,dx,_,_,Z,h1,T.cl_Floor,T.na_Floor_sizes,Hl,_,Z,z,b,g.L,g.R,g.C,k,j,w',Z,h2,hb,c,?_⟩
 show st ?_
 show kM ⟨_,Z,p,dx,_,Z,h1,by kernel_rfl,_,Z,_,Z,p,pr,vi,rd,td,a,b,g,x,y,w,k,j,w',Z,l,hg,ha,hb,_,Z,?_⟩
 rw[e]
 show fN ?_
 let m:eQ x y w k j w':=by
  rw[Kd] at e
  let hm:[k,j,w']∈mB [x,y,w]:=N4 e.1
  show hm
 show gZ ⟨_,Z,p,dx,_,Z,h1,by kernel_rfl,_,Z,_,Z,p,pr,vi,rd,td,a,b,g,x,y,w,k,j,w',Z,l,hg,ha,hb,hi,c,m,q⟩
theorem Cz:gE P w K mg O_ 1 "is_name" DU ["name"] y9:=by
 show rd ["name"] λnd _ _ _ _ _ H vs Q E hr h=>?_
 let⟨x,rfl,nm,q⟩:=h
 show⟨_,(aS (cK (iz (fV (fJ fc fc ao (bW bc T.len_ (aI (aq 0))) (eG (by rfl) (by show T.g_MOST_SIGNS)))) (gB (eT pY (aG Fp (aq 0) ao) (eG (by rfl) (by show T.g_LETTERS)) (by with_unfolding_all rfl)))).pt (aL gJ)) (aL (bW (zm Z) T.all_ (aI (jb ["sign"] [] [] (EV (aq 0)) (eM 0) dQ (Gr (pU oz (aq 0) (eG (by rfl) (by show T.g_LETTERS)) (by with_unfolding_all rfl)) (o9 (pU oz (aq 0) (eG (by rfl) (by show T.g_FIGURES)) (by with_unfolding_all rfl))))))))),?_⟩
 let l:N9=2^24:=rfl
 let g:=nm.lo
 let k:=nm.hi
 let⟨c,r,a,f⟩:=nm.fst
 show gx (oV (ic (c9 (ay (dN aB (C9 ∅ ()) aB)) ?_)) (ay (xT (FW (c:=c) ∅ aB () (a<|cE (j:=0) Z)) aB))) ?_ ?_
 ·rw[N3 (),N3 ()];rfl
 ·have:c∈cp (Nh.ofString "abcdefghijklmnopqrstuvwxyz"):=f
  rw[N3 this];rfl
 show⟨_,Z,x,Z,nm.as,λD p=>?_⟩
 show F6 (λi o H'=>∃m:Option V,o=[m]/\H'=Ob H D (.lst ((List.replicate i true).map V.bl))) ⟨none,Z,Z⟩ ?_ ?_
 ·rintro i d o H2 hd ⟨m,rfl,rfl⟩
  let hi:i<↑x:=by have:=(JX.mp hd).1;rw[FH] at this;show this
  show gn (fK ?_)
  show(fP (Hj (yC (c:=d) ∅ aB) λ_=>yC (c:=d) ∅ aB) (c:=.bl true) ?_) _ ⟨_,ag,by simp;lia,_,Z,?_⟩
  ·rcases nm.all d (JY hd) with z|z
   ·let n:d∈cp (Nh.ofString "abcdefghijklmnopqrstuvwxyz"):=z
    rw[N3 n];rfl
   ·let n:d∈cp (Nh.ofString "0123456789"):=z
    rw[N3 n,Bool.or_true]
  ·rw[u3,List.replicate_succ',JM];rfl
 ·rintro o H2 ⟨m,rfl,rfl⟩
  show⟨D,List.replicate ↑x true,Z,aN.of ag,?_⟩
  let e:(List.replicate ↑x true).all id=true:=by rw[LD];intro b hb;rw[List.eq_of_mem_replicate hb];rfl
  rw[e]
  show q _ ((aw.refl H).upd p)
theorem wz (f:K.In O_):gE P w K mg O_ 1 "check_unlike" v9 ["spots"] qk:=by
 show rd ["spots"] λnd _ _ _ _ _ H vs Q E hr h=>?_
 let⟨l,as,cs,rfl,c,ht,a,b,q⟩:=h
 show⟨_,(aW (cK (cu iw (bW ug T.len_ (aI (fO (xB Z hr) T.set_ (aI (aq 0))))) (bW bc T.len_ (aI (aq 0)))) cX)),?_⟩
 show v_ ⟨_,Z,l,as,cs,Z,aN.of c,ht,a,b,λp d=>⟨p,↑cs,Z,ag,(),_,Z,_,_,Z,.inl ⟨_,aN.of (aj (ai c d)<|c),Z⟩,Z,_,Z,?_⟩⟩
 let e:(!decide (V.int (↑cs:Nat)=V.int (↑(as.map V.ref):Nat)))=false:=by
  rw[JF,show ↑as=↑cs from Nb.length ht];simp
 rw[e]
 show fN (q _ ((aw.refl H).upd d))
theorem yn(F:za K "__init__" "Thing.__init__" jz f fd)(k:K.In O_)(dH:aU P w K mg O_ "is_name" 1 ["name"] y9):eL P w K mg O_ jH 2 f fd ["self", "name", "half", "room"] (oY Og):=by
 let c:eF ["self", "name", "half", "room"] ["self", "name", "half", "room"] (aM jz):=⟨Z,Z,Z,by decide+kernel,Z,by decide+kernel,by decide+kernel⟩
 let nd:=c.nd
 show F.ok c (λvs H Q E h=>by first|(cases h;subst_vars;rfl)|repeat (first|(let⟨rfl,_⟩:=h;rfl)|(let⟨_,h⟩:=h))) (λg A a s H vs Q E hr h=>?_)
 let⟨p,dx,x,h,r,rfl,hp,nm,i,h2,j,d,q⟩:=h
 show⟨_,(au (cK (fV (gu (bR dH hr (aI (aq 1))))) cX) (au (cK (fV (fJ fc fc ao (aq 2) (eG (by rfl) (by show T.g_MOST_HALF)))) cX) (au (cK (fV (fJ fc fc ao (aq 3) (eG (by rfl) (by show T.g_MOST_ROOM)))) cX) (au (dJ (aq 0) (aq 1) Z) (aS (dJ (aq 0) (aq 2) Z) (dJ (aq 0) (aq 3) Z)))))),?_⟩
 show kM ⟨_,Z,x,Z,nm,λH1 s1=>⟨_,Z,?_⟩⟩
 show fN ?_
 show gx (ic (c9 (ay (dN aB ∅ aB)) (by rw[N3 i,N3 h2];rfl))) Z ?_
 show gx (ic (c9 (ay (dN aB ∅ aB)) (by rw[N3 j,N3 d];rfl))) Z ?_
 show⟨_,Z,_,Z,p,Og,dx,[],Z,s1 _ _ hp,T.cl_Net,T.na_Net_name,(by decide),?_⟩
 show⟨_,Z,_,Z,p,Og,dx,_,Z,ag,T.cl_Net,T.na_Net_half,LV (bV _ _ _) (by decide),?_⟩
 show⟨_,Z,_,Z,p,Og,dx,_,Z,ag,T.cl_Net,T.na_Net_room,LV (J1 (bV _ _ _) (LL (bV _ _ _))) (by decide),?_⟩
 show q _ _ (λb o hb e=>?_) ag (J1 (bV _ _ _) (LL (J1 (bV _ _ _) (LL (bV _ _ _)))))
 rw[aj hb,aj hb,aj hb];show s1 _ _ e
theorem Ae(F:z_ K "__init__" "Net.__init__" dS f fd)(W:K.In O_)(n:aU P w K mg O_ "check_unlike" 1 ["spots"] qk)(u:jG P w K mg O_ cThing "__init__" 2 ["self", "name", "half", "room"] (oY Og)):eL P w K mg O_ jH 3 f fd ["self", "name", "pins", "half", "room"] (oN Og):=by
 let L:eF ["self", "name", "pins", "half", "room"] ["self", "name", "pins", "half", "room"] (aM dS):=⟨Z,Z,Z,by decide+kernel,Z,by decide+kernel,by decide+kernel⟩
 let nd:=L.nd
 show F.ok L (λvs H Q E h=>by first|(cases h;subst_vars;rfl)|repeat (first|(let⟨rfl,_⟩:=h;rfl)|(let⟨_,h⟩:=h))) (λM A C s H vs Q E hr h=>?_)
 let⟨p,dx,l,as,cs,x,h,r,rfl,hp,I,ht,k,l2,U,nm,R,h2,S,N,q⟩:=h
 show⟨_,(au (bj (BF (Ap (by rfl) T.mg_Thing) u (hr.mono (by decide)) (aO (aq 0) (aO (aq 1) (aF (aq 3) (aq 4)))))) (au (cK (fV (fJ fc fc ao (bW bc T.len_ (aI (aq 2))) (eG (by rfl) (by show T.g_MOST_PINS)))) cX) (aS (bj (bR n hr (aI (aq 2)))) (dJ (aq 0) (fO mT T.tuple_ (aI (aq 2))) Z)))),?_⟩
 let i:l≠p:=bz I hp (λz=>by cases z)
 let len:↑as=↑cs:=Nb.length ht
 show⟨_,Z,_,Z,_,Z,_,Z,p,dx,x,h,r,Z,hp,nm,R,h2,S,N,λH1 fs B y few=>?_⟩
 let d:=B _ _ i I
 let j:bH H1 as cs:=Nb.mapP ht λa c e=>B _ _ (bz e hp (λz=>by cases z)) e
 show st ?_
 show gx (ic (c9 (ay (dN aB (cI (ak ∅ ax) λQ' O=>⟨_,_,Z,.inl ⟨_,aN.of d,Z⟩,O⟩) aB)) ?_)) Z ?_
 ·rw[JF,N3 (),N3 ()];rfl
 show⟨_,Z,l,as,cs,Z,d,j,(),k,λH2 D=>?_⟩
 show⟨_,Z,l,_,Z,.inl ⟨aN.of (D _ _ d),λt v=>?_⟩⟩
 let g:=D _ _ y
 show⟨_,Z,p,Og,dx,fs,Z,aj (ai g v)<|g,T.cl_Net,T.na_Net_pins,(),?_⟩
 let m:t≠p:=λz=>by rw[z,g] at v;cases v
 show q _ _ t (λb o hb e=>?_) ag (by rw[dW,N1 Z]) (by rw[aj m,ag])
 let J:=D _ _ (B _ _ hb e)
 rw[aj hb,aj (ai J v)];show J
theorem B5 (d:bQ P w K mg O_ Oc "step_price" 4 ["self", "one", "two"] (uY Oc)):ku P w K mg O_ 5 "wiring_price" "Floor.wiring_price" DF ["self", "wiring"] (AC Oc):=by
 show rd ["self", "wiring"] λnd _ _ _ _ _ H vs Q E hr h=>?_
 let⟨p,pr,vi,rd,td,l,g,as,ls,rfl,A,hg,r,ht,B,I,q⟩:=h
 show⟨_,(aW (aL (bW (xg Z) T.sum_ (aI (jb ["one", "two"] ["self"] [0] (aY (aq 1)) (ie (K:=K) (n:=2) Z Z (az (eM 0) (az (eM 1) bB)) Z Z) dQ (de (aq 2) (by show T.cl_Floor) (by show d) (by show(hr.mono (by decide))) (aF (aq 0) (aq 1)))))))),?_⟩
 let c:N9=2^24:=rfl
 let len:↑as=↑ls:=ht.length
 show⟨_,Z,l,Z,⟨_,aN.of r⟩,λD u=>?_⟩
 show aK (K:=K) (xs:=as.map V.ref) (λi f H'=>∃k o:Option V,f=[k,o,some (.ref p)]/\aw H H'/\H' D>.lst (((ls.take i).map (EX g)).map V.int))
  ⟨none,none,Z,(aw.refl H).upd u,ag⟩ (λi f H' _ B=>by let⟨_,_,_,s,_⟩:=B;show aN.of (s _ _ r)) ?_ ?_
 ·rintro i y f H' hi ⟨k,o,rfl,s,j⟩
  let⟨a,ha,rfl⟩:=b_ hi
  let b:i<↑as:=(JX.mp ha).1
  let⟨e,x,y,v,F,M,N⟩:=(ht.same s).at ha
  let⟨n,m,L,hm,rfl,J,b2,O⟩:=(I e (JY v)).ex
  let⟨dx,z,h1,h2⟩:=(A.same s).ex
  show⟨a,_,Z,a_.of F,Z,_,_,Z,_,_,Z,Z,?_⟩
  show fK ?_
  show⟨_,Z,p,dx,_,Z,h1,by kernel_rfl,_,Z,_,Z,p,pr,vi,rd,td,x,y,g,_,_,_,_,_,_,Z,A.same s,hg,M,N,t_ hg L Z,t_ hg hm Z,by change(Bm (sN g.R g.C n) (sN g.R g.C m)&&(nj g (sN g.R g.C n)&&nj g (sN g.R g.C m)))=true;rw[J,b2,O];rfl,?_⟩
  show⟨_,j,by rw[JF,JF,KH];lia,_,_,Z,aP s u,?_⟩
  rw[ag,bp v,JM,JM];rfl
 ·rintro f H' ⟨k,o,rfl,s,j⟩
  rw[JF,len,Kb] at j
  show⟨D,_,Z,aN.of j,q H' s⟩
theorem w5:ku P w K mg O_ 1 "__init__" "TreePaper.__init__" vc ["self", "wires", "price", "hills"] (rE Od):=by
 show rd ["self", "wires", "price", "hills"] λnd _ _ _ _ _ H vs Q E hr h=>?_
 let⟨p,dx,wa,h,ws,x,as,X,fs,L,R,C,M,rfl,hp,hw,F,S,hM,hh,hX,hl,q⟩:=h
 show⟨_,(au (dJ (aq 0) (fO dh T.list_ (aI (aq 1))) Z) (aS (dJ (aq 0) (aq 2) Z) (dJ (aq 0) (jb ["top", "heights"] [] [] (aY (aq 3)) (ie (K:=K) (n:=2) Z Z (az (eM 0) (az (eM 1) bB)) Z Z) dQ (bG (aF (aq 0) (fO (lV (P:=P) (w:=w) Z Z) T.dict_ (aI (aq 1)))))) Z))),?_⟩
 let J:N9=2^24:=rfl
 let len:↑as=↑X:=Nb.length hX
 show⟨_,Z,wa,_,Z,.inl (aN.of hw),λw' nw=>?_⟩
 let v:p≠w':=ai hp nw
 show⟨_,Z,p,Od,dx,[],Z,aj v<|hp,T.cl_TreePaper,T.na_TreePaper_wires,(by decide),?_⟩
 show⟨_,Z,_,Z,p,Od,dx,_,Z,ag,T.cl_TreePaper,T.na_TreePaper_price,LV (bV _ _ _) (by decide),?_⟩
 let U:fM H (Ob (Ob (Ob H w' (.lst ws)) p (.ins Od dx (dA "wires" (.ref w') []))) p (.ins Od dx (dA "price" (.int x) (dA "wires" (.ref w') [])))) p:=λb o hb e=>by rw[aj hb,aj hb,aj (ai e nw)];show e
 let g:Ob (Ob (Ob H w' (.lst ws)) p (.ins Od dx (dA "wires" (.ref w') []))) p (.ins Od dx (dA "price" (.int x) (dA "wires" (.ref w') []))) p>.ins Od dx (dA "price" (.int x) (dA "wires" (.ref w') [])):=ag
 revert U g
 generalize Ob (Ob (Ob H w' (.lst ws)) p (.ins Od dx (dA "wires" (.ref w') []))) p (.ins Od dx (dA "price" (.int x) (dA "wires" (.ref w') [])))=H1
 intro U g
 let r:=U _ _ (bz hh hp (λz=>by cases z)) hh
 let A:Nb (gN R C M fs H1) as X:=b9 hX (λb ys e=>U _ _ (bz e hp (λz=>by cases z)) e) (λb ys e=>U _ _ (bz e hp (λz=>by cases z)) e)
 show⟨_,Z,h,Z,⟨_,aN.of r⟩,λD Z0=>?_⟩
 show aK (K:=K) (xs:=as.map V.ref) (λi Y H'=>∃(x0 x1:Option V) (bs:-N8),Y=[x0,x1]/\aw H1 H'/\H' D>.lst (bs.map V.ref)/\Nb (gN R C M fs H') bs (X.take i))
  ⟨none,none,[],Z,(aw.refl H1).upd Z0,ag,.nil⟩ (λi Y H' _ hz=>by let⟨_,_,_,_,s,_⟩:=hz;show aN.of (s _ _ r)) ?_ ?_
 ·rintro i y Y H' hi ⟨x0,x1,bs,rfl,s,hD,k⟩
  let⟨a,ha,rfl⟩:=b_ hi
  let⟨c,hc,d,W,f,e1,e2,e3,e4,e5⟩:=fk A ha
  let I:↑bs<=i:=by rw[Nb.length k,KH];lia
  let B:i<↑as:=(JX.mp ha).1
  show⟨a,_,Z,a_.of (s _ _ e1),Z,_,_,Z,_,_,Z,Z,?_⟩
  show fK ?_
  show⟨_,Z,_,Z,d,Z,.inr ⟨_,.inl (s _ _ e2),iY S hM e3,λN nd=>⟨by change 2<=N9;decide,λt nt=>?_⟩⟩⟩
  let O:aw H' (Ob (Ob H' N (.dT (bg R C W))) t (.tup [.int (c.2.2 - c.2.1),.ref N])):=((aw.refl H').upd nd).upd nt
  let ht:Ob (Ob H' N (.dT (bg R C W))) t (.tup [.int (c.2.2 - c.2.1),.ref N]) t>.tup [.int (c.2.2 - c.2.1),.ref N]:=ag
  let l:Ob (Ob H' N (.dT (bg R C W))) t (.tup [.int (c.2.2 - c.2.1),.ref N]) N>.dT (bg R C W):=aj (ai ag nt)<|ag
  revert O ht l
  generalize Ob (Ob H' N (.dT (bg R C W))) t (.tup [.int (c.2.2 - c.2.1),.ref N])=H2
  intro O ht l
  let j:=O _ _ hD
  show⟨_,j,by rw[JF];lia,_,_,bs++[t],Z,aP (s.trans O) Z0,by rw[ag,JM];rfl,?_⟩
  rw[bp hc]
  show e_ (b9 k (λb ys e=>aV j _ _ (O _ _ e)) (λb ys e=>cD j _ _ (O _ _ e))) (.cons ⟨N,W,f,aV j _ _ ht,cD j _ _ l,e3,e4,e5⟩ .nil)
 ·rintro Y H2 ⟨x0,x1,bs,rfl,O,hD,k⟩
  rw[JF,len,Kb] at k
  show⟨_,Z,p,Od,dx,_,Z,O _ _ g,T.cl_TreePaper,T.na_TreePaper_hills,LV (J1 (bV _ _ _) (LL (bV _ _ _))) (by decide),?_⟩
  let m:=O _ _ g
  let u:D≠p:=λz=>by rw[z,g] at Z0;cases Z0
  show q _ D bs _ (λb o hb e=>?_) ag (by rw[dW,N0 (by decide+kernel),dW,N1 Z]) (by rw[dW,N1 Z]) (aj u<|hD) (b9 k (λb ys e=>by rw[aj (bz e m (λz=>by cases z))];show e) (λb ys e=>by rw[aj (bz e m (λz=>by cases z))];show e))
  rw[aj hb];show O _ _ (U _ _ hb e)
theorem yt:gE P w K mg O_ 1 "_law_sizes" Af ["cell"] vd:=by
 show rd ["cell"] λnd _ _ _ _ _ H vs Q E hr h=>?_
 let⟨n,rfl,q⟩:=h
 show⟨_,(aS (cK (cu eZ (aA cU (aA dt (aq 0) ao) ao) ao) (aL (bG (aO ao (aF (aA bh ao (aA cU (aq 0) ao)) (aA bh ao (aA cU (aA dt (aq 0) ao) ao))))))) (aL (bG (aO (aA bh ao (aA cU (aq 0) ao)) (aF (aA bh ao (aA cU (aA dt (aq 0) ao) ao)) (aA bh ao (aA cU (aA dt (aq 0) ao) ao))))))),?_⟩
 show q_ (ay (dR (cY (cY ∅ aB (Bp () ())) aB (by first|(change(0:Int)<_;lia)|(change(0:Int)<_;decide))) aB)) (λe=>?_) (λe=>?_)
 ·show lL (vs:=[.int 1,.int (1+n%2),.int (9+n/2%8)]) (ak aB (ak (aR aB (cY ∅ aB (by first|(change(0:Int)<_;lia)|(change(0:Int)<_;decide)))) (ak (aR aB (cY (cY ∅ aB (Bp () ())) aB (by first|(change(0:Int)<_;lia)|(change(0:Int)<_;decide)))) ax))) (by change 3<=N9;decide) λz d=>q z _ _ _ d ⟨(),(),(),(),(),()⟩ (uZ (a:=1) (b:=2) (c:=16) () () () () () () (by decide)) (u4 () () ())
 ·show lL (vs:=[.int (1+n%2),.int (1+n/2%4),.int (2+n/8%3)]) (ak (aR aB (cY ∅ aB (by first|(change(0:Int)<_;lia)|(change(0:Int)<_;decide)))) (ak (aR aB (cY (cY ∅ aB (Bp () ())) aB (by first|(change(0:Int)<_;lia)|(change(0:Int)<_;decide)))) (ak (aR aB (cY (cY ∅ aB (Bp () ())) aB (by first|(change(0:Int)<_;lia)|(change(0:Int)<_;decide)))) ax))) (by change 3<=N9;decide) λz d=>q z _ _ _ d ⟨(),(),(),(),(),()⟩ (uZ (a:=2) (b:=4) (c:=4) () () () () () () (by decide)) (u4 () () ())
theorem BJ (J:aU P w K mg O_ "_law_cell_at" 1 ["script", "k"] (so K))(U:aU P w K mg O_ "_law_spot" 1 ["sizes", "number"] lA):gE P w K mg O_ 2 "_law_pins" DO ["script", "sizes"] (AV K):=by
 show rd ["script", "sizes", "many", "first", "numbers", "k", "number"] λnd _ _ _ _ _ H vs Q E hr h=>?_
 let⟨a,z,cs,L,R,C,M,rfl,ha,hz,S,hM,m2,I,q⟩:=h
 show⟨_,(au (a9 2 nd (aA cJ (aA cJ (aG aD (aq 1) ao) (aG aD (aq 1) ao)) (aG aD (aq 1) ao))) (au (a9 3 nd (aA cU (bR J hr (aF (aq 0) ao)) (aq 2))) (au (a9 4 nd (bL (aF (aq 3) (aA cU (aA bh (aA bh (aq 3) ao) (aA cU (bR J hr (aF (aq 0) ao)) (aA cL (aq 2) ao))) (aq 2))))) (aS (dq (mS T.range_ (aI (aA cU (bR J hr (aF (aq 0) ao)) ao))) (bw 5 nd) (aS (a9 6 nd (aA cU (bR J hr (aF (aq 0) (aA bh ao (aq 5)))) (aq 2))) (cK (eT oK (aq 6) (aq 4) (by with_unfolding_all rfl)) (bj (df Kw KN KP bZ (aq 4) (aI (aq 6))))))) (aL (jb ["number"] ["sizes"] [1] (aY (aq 4)) (eM 0) dQ (bR (by show U) (by show hr) (aF (aq 1) (aq 0))))))))),?_⟩
 let F:N9=2^24:=rfl
 let j:0<L*R*C:=by lia
 let k:∀v:Int,∃n:Nat,v%(L*R*C)=(n:Nat)/\n<M:=λv=>by
  let h1:=Ld v (show L*R*C≠0 by lia)
  let h2:=Ls v j
  show⟨(v%(L*R*C)).toNat,(),()⟩
 show cM (v:=.int (L*R*C)) (o6 S Z hz) ?_
 show bF (gH (cw (ak ∅ (ak aB ax)) ⟨a,cs,2,Z,ha,by decide,λv2=>⟨_,Z,v2,L*R*C,Z,Z,j,?_⟩⟩))
 let⟨f,ef,hf⟩:=k v2
 dsimp only
 rw[ef]
 show bF ⟨_,Z,_,Z,_,_,Z,Z,_,Z,a,cs,3,Z,ha,by decide,λW=>⟨_,Z,_,_,Z,Z,W,_,Z,Z,(by change 0<L*R*C - 1;lia),_,_,Z,Z,_,Z,_,_,Z,Z,j,(by change 2<=N9;decide),λO Y=>?_⟩⟩
 let⟨s,es,hs⟩:=k ((f:Int)+1+W%(L*R*C - 1))
 dsimp only
 rw[es]
 let B:s≠f:=λe=>by
  let h1:=Ld W (show L*R*C - 1≠0 by lia)
  let h2:=Ls W (show 0<L*R*C - 1 by lia)
  let h3:=Mp ((f:Int)+1+W%(L*R*C - 1)) (L*R*C)
  rw[es,e] at h3
  generalize W%(L*R*C - 1)=r at h1 h2 h3
  generalize ((f:Int)+1+r)/(L*R*C)=d at h3
  let h4:L*R*C*d=r+1:=by lia
  rcases Int.lt_or_le d 1 with g|g
  ·have:=Int.mul_le_mul_of_nonneg_left (show d<=0 by lia) (show 0<=L*R*C by lia)
   lia
  ·have:=Int.mul_le_mul_of_nonneg_left g (show 0<=L*R*C by lia)
   lia
 let s1:aw H (Ob H O (.lst [.int (f:Nat),.int (s:Nat)])):=(aw.refl H).upd Y
 let h1:Ob H O (.lst [.int (f:Nat),.int (s:Nat)]) O>.lst (nV [f,s]):=ag
 revert s1 h1
 generalize Ob H O (.lst [.int (f:Nat),.int (s:Nat)])=H1
 intro s1 h1
 show zY (gH (cw (ak ∅ (ak aB ax)) ⟨a,cs,4,Z,s1.seq ha,by decide,λv4=>⟨v4,5,Z,Z,(by change(0:Int)<5;decide),v4%5,Z,(),(),?_⟩⟩))
 let h5:(v4%5).toNat<=4:=by lia
 show cO (n:=(v4%5).toNat) (λi σ H'=>∃(x5 x6:Option V) (ns:-Nat),σ=[some (.ref a),some (.ref z),some (.int (L*R*C)),some (.int (f:Nat)),some (.ref O),x5,x6]/\aw H H'/\H' O>.lst (nV ns)/\ns.Nodup/\2<=ns.length/\ns.length<=2+i/\∀n∈ns,n<M)
  ⟨none,none,[f,s],Z,s1,h1,by simp[JH B],JG _,JG _,λn N=>by simp at N;rcases N with e|e<;>(rw[e];assumption)⟩ ?_ ?_
 ·rintro i σ H' hi ⟨x5,x6,ns,rfl,s,N,nd,l2,l6,lt⟩
  show gn ?_
  show bF (gH (cw (ak ∅ (ak (aR aB ∅) ax)) ⟨a,cs,_,Z,s.seq ha,(),λv=>⟨_,Z,v,L*R*C,Z,Z,j,?_⟩⟩))
  let⟨n,en,u⟩:=k v
  dsimp only
  rw[en]
  show v_ ⟨_,Z,_,Z,O,nV ns,Z,.inl (aN.of N),Z,ux ns,_,Z,?_⟩
  rw[show(if true=true then !Gc (.int (n:Nat)) (nV ns) else Gc (.int (n:Nat)) (nV ns))=!decide (n∈ns) from by rw[N1 Z,Bc]]
  by_cases c:n∈ns
  ·rw[N3 c]
   show fN ⟨_,_,ns,Z,s,N,nd,l2,(),lt⟩
  ·rw[N5 c]
   show gT ⟨_,Z,.inl ⟨Z,_,aN.of N⟩,_,Z,O,_,_,Z,Z,N,by rw[fI];lia,?_⟩
   show⟨_,_,ns++[n],Z,aP s Y,by rw[ag];unfold nV;rw[JM];rfl,?_,by rw[JQ];lia,by rw[JQ];change ns.length+1<=_;lia,λm hm=>?_⟩
   ·show Lc.mpr ⟨nd,by simp,λx hx y hy e=>c (by rw[<-JJ.mp hy,<-e];show hx)⟩
   ·rcases J3.mp hm with h|h
    ·show lt m h
    ·rw[JJ.mp h];show u
 ·rintro σ H2 ⟨x5,x6,ns,rfl,s2,N,nd,l2,l6,lt⟩
  show st ?_
  let A:=s2 _ _ hz
  show⟨_,Z,O,Z,⟨_,aN.of N⟩,λD nD=>?_⟩
  show aK (K:=K) (xs:=nV ns) (λi Z0 H'=>∃(x0:Option V) (bs:-N8),Z0=[x0,some (.ref z)]/\aw H2 H'/\H' D>.lst (bs.map V.ref)/\bH H' bs ((ns.take i).map (sN R C))/\↑bs<=i)
   ⟨none,[],Z,(aw.refl H2).upd nD,ag,.nil,JG _⟩ (λi Z0 H' _ hz=>by let⟨_,_,_,s,_⟩:=hz;show aN.of (s _ _ N)) ?_ ?_
  ·rintro i x Z0 H' hx ⟨x0,bs,rfl,s,X,b,p⟩
   let⟨n,l,rfl⟩:=lh hx
   let hi:i<ns.length:=(JX.mp l).1
   let u:=lt n (JY l)
   let en:((n:Int)%(L*R*C)).toNat=n:=by rw[Ms () ()];lia
   show gn (fK (cw (ak ∅ (ak ∅ ax)) ⟨z,L,R,C,_,Z,s _ _ A,S,λt nt=>?_⟩))
   rw[en]
   let o:t≠D:=JH (ai X nt)
   show⟨bs.map V.ref,aj (JH o)<|X,by rw[JF];lia,_,bs++[t],Z,aP (s.upd nt) nD,by rw[ag,JM];rfl,?_,qO p⟩
   rw[bp l,JM]
   show eV (aC b (cg X nt)) (.cons (by rw[aj o,ag]) .nil)
  ·rintro Z0 H3 ⟨x0,bs,rfl,s3,X,b,p⟩
   rw[fI,Kb] at b
   show q _ D ns (s2.trans s3) ⟨bs,X,b⟩ nd l2 () lt
theorem Ce:gE P w K mg O_ 1 "_law_inside" D_ ["sizes", "spot"] oQ:=by
 show rd ["sizes", "spot", "k"] λnd _ _ _ _ _ H vs Q E hr h=>?_
 let⟨a,b,L,R,C,l,r,c,rfl,ha,hb,q⟩:=h
 show⟨_,(aS (dq (mS T.range_ (aI ao)) (bw 2 nd) (aW (cK (iz (cu eO (aG aD (aq 1) (aq 2)) ao) (gB (cu GL (aG aD (aq 1) (aq 2)) (aG aD (aq 0) (aq 2))))).pt (aL gJ)))) (aL gJ)),?_⟩
 show kN (j:=3) (ak aB ax) (by decide) (by decide) ?_
 let d:∀(i:Nat),i<3->∃u s:Int,jT [V.int l,.int r,.int c] (0+(i:Int))>.int u/\jT [V.int L,.int R,.int C] (0+(i:Int))>.int s/\((i=0/\u=l/\s=L)\/(i=1/\u=r/\s=R)\/(i=2/\u=c/\s=C)):=λi hi=>by
  let D:i=0\/i=1\/i=2:=by lia
  rcases D with rfl|rfl|rfl
  ·show⟨l,L,Z,Z,.inl ⟨Z,Z,Z⟩⟩
  ·show⟨r,R,Z,Z,.inr (.inl ⟨Z,Z,Z⟩)⟩
  ·show⟨c,C,Z,Z,.inr (.inr ⟨Z,Z,Z⟩)⟩
 show cO (n:=3) (λi σ H'=>∃x:Option V,σ=[some (.ref a),some (.ref b),x]/\H'=H/\(0<i->0<=l/\l<L)/\(1<i->0<=r/\r<R)/\(2<i->0<=c/\c<C)) ⟨none,Z,Z,(λh=>absurd h (by decide)),(λh=>absurd h (by decide)),λh=>absurd h (by decide)⟩ ?_ ?_
 ·rintro i σ H' hi ⟨x,rfl,rfl,i1,i2,y⟩
  let⟨u,s,z,A,B⟩:=d i hi
  show gn ?_
  show dI (iX (ay (aR (aJ (v:=.int u) ∅ ∅ (a_.of hb) z) aB)) λ_=>ay (aR (aJ (v:=.int u) ∅ ∅ (a_.of hb) z) (aJ (v:=.int s) ∅ ∅ (a_.of ha) A))) (λe=>?_) (λe=>?_)
  ·let e:u<0\/s<=u:=by simpa using e
   show cx aB ?_
   have:decide (iA L R C l r c)=false:=N5 λm=>by let⟨p,f,g,F,I,J⟩:=m;rcases B with ⟨_,o,k⟩|⟨_,o,k⟩|⟨_,o,k⟩<;>lia
   rw[this] at q
   show q
  ·let e:0<=u/\u<s:=by
    rw[Bool.or_eq_false_iff] at e
    let o:=N6 e.1
    let k:=N6 e.2
    lia
   show⟨_,Z,Z,(),(),()⟩
 ·rintro σ H' ⟨x,rfl,rfl,i1,i2,y⟩
  show st (cx aB ?_)
  let p:=i1 (by decide)
  let f:=i2 (by decide)
  let g:=y (by decide)
  have:decide (iA L R C l r c)=true:=N3 ⟨p.1,p.2,f.1,f.2,g.1,g.2⟩
  rw[this] at q
  show q
theorem xK (bv:aU P w K mg O_ "_law_cell_at" 1 ["script", "k"] (so K))(br:aU P w K mg O_ "_law_price" 2 ["cell", "k"] u_)(b0:aU P w K mg O_ "_law_sizes" 1 ["cell"] vd)(b6:aU P w K mg O_ "_law_spot" 1 ["sizes", "number"] lA)(b8:aU P w K mg O_ "_law_pins" 2 ["script", "sizes"] (AV K)):gE P w K mg O_ 3 "_law_ground" u7 ["script"] (qD K):=by
 show rd ["script", "sizes", "seed", "prices", "vias", "pins", "many", "rocks", "shut", "tolls", "cell", "spot", "way"] λnd _ _ _ _ _ H vs Q E hr h=>?_
 let⟨a,ns,rfl,ha,hn,q⟩:=h
 show⟨_,(au (a9 1 nd (bR b0 hr (aI (bR bv hr (aF (aq 0) ao))))) (au (a9 2 nd (bR bv hr (aF (aq 0) ao))) (au (rS 3 ["k"] ["seed"] [2] nd (mS T.range_ (aI (aG aD (aq 1) ao))) (eM 0) dQ (bG (aF (bR (by show br) (by show hr) (aF (aq 1) (aA cJ ao (aq 0)))) (bR (by show br) (by show hr) (aF (aq 1) (aA bh (aA cJ ao (aq 0)) ao)))))) (au (rS 4 ["k"] ["seed"] [2] nd (mS T.range_ (aI (aA cL (aG aD (aq 1) ao) ao))) (eM 0) dQ (bR (by show br) (by show hr) (aF (aq 1) (aA bh ao (aq 0))))) (au (a9 5 nd (bR b8 hr (aF (aq 0) (aq 1)))) (au (a9 6 nd (aA cJ (aA cJ (aG aD (aq 1) ao) (aG aD (aq 1) ao)) (aG aD (aq 1) ao))) (au (a9 7 nd (bL cW)) (au (a9 8 nd (bL cW)) (au (a9 9 nd du) (aS (dq (aY (qS vh (aq 0) (oP ao) (oP ao))) (bw 10 nd) (au (a9 11 nd (bR b6 hr (aF (aq 1) (aA cU (aq 10) (aq 6))))) (au (a9 12 nd (aA cU (aA dt (aq 10) (aq 6)) ao)) (au (cK (jJ (cu eZ (aq 12) ao) (il (eT (lr (K:=K) Z (by show hr)) (aq 11) (aq 5) (by with_unfolding_all rfl)))).pt (bj (df Kw KN KP bZ (aq 7) (aI (aq 11))))) (aS (cK (jJ (cu eZ (aq 12) ao) (il (eT (lr (K:=K) Z (by show hr)) (aq 11) (aq 5) (by with_unfolding_all rfl)))).pt (bj (df Kw KN KP bZ (aq 8) (aI (aq 11))))) (cK (iz (cu eZ (aq 12) ao) (gB (cu eZ (aq 12) ao))).pt (dE (aT.one hr) (aq 9) (aq 11) (aA cU (aA dt (aA dt (aq 10) (aq 6)) ao) (aG aQ (bL (aF ao (aA bh (aA z9 ao ao) ao))) (aA cL (aq 12) ao))) (by rfl)))))))) (aL (bG (aO (aq 1) (aO (aq 3) (aO (aq 4) (aO (aq 7) (aO (aq 9) (aF (aq 8) (aq 5))))))))))))))))))),?_⟩
 let bm:N9=2^24:=rfl
 show bF (Dv (cw (ak ∅ (ak aB ax)) ⟨a,ns,0,Z,ha,Kt 0,λv=>?_⟩))
 show⟨v,Z,λz L R C nz S hP dT=>?_⟩
 let l0:=S.l0
 let l1:=S.l1
 let r0:=S.r0
 let r1:=S.r1
 let c0:=S.c0
 let c1:=S.c1
 let s1:aw H (Ob H z (.tup [.int L,.int R,.int C])):=(aw.refl H).upd nz
 let B:iB (Ob H z (.tup [.int L,.int R,.int C])) z L R C:=ag
 revert s1 B
 generalize Ob H z (.tup [.int L,.int R,.int C])=H1
 intro s1 B
 show bF (cw (ak ∅ (ak aB ax)) ⟨a,ns,1,Z,s1.seq ha,by decide,λsd=>?_⟩)
 show kZ (j:=L) (ak (aJ (v:=.int L) ∅ aB (a_.of B) Z) ax) () () λD nD=>?_
 show cO (λi τ H'=>∃(x0:Option V) (us:-N8) (cs:-T3),τ=[x0,some (.int sd)]/\aw H1 H'/\H' D>.lst (us.map V.ref)/\bH H' us cs/\↑cs=i/\PP cs) ⟨none,[],[],Z,(aw.refl H1).upd nD,ag,.nil,Z,λ_ h=>by cases h⟩ ?_ ?_
 ·rintro i τ H' hi ⟨x0,us,cs,rfl,s,hD,I,hl,ab⟩
  let bn:↑us=↑cs:=Nb.length I
  show gn (fK (Fg ?_))
  show cw (ak ∅ (ak (cY aB ∅ (DZ () ())) ax)) ⟨sd,_,Z,(),(),λu H2 s2 u1 u2=>?_⟩
  show cw (ak ∅ (ak (aR (cY aB ∅ (DZ () ())) aB) ax)) ⟨sd,_,Z,(),(),λw H3 s3 w1 w2=>?_⟩
  show⟨by change 2<=N9;decide,λt nt=>?_⟩
  let U:=s2.trans s3
  let Y:=U _ _ hD
  let ah:t≠D:=JH (ai Y nt)
  show⟨us.map V.ref,aj (JH ah)<|Y,by rw[JF];lia,_,us++[t],cs++[[u,w]],Z,aP ((s.trans U).upd nt) nD,by rw[ag,JM];rfl,?_,by rw[JQ,hl];rfl,?_⟩
  ·show eV (aC I λb xs e=>cg Y nt _ _ (U _ _ e)) (.cons (by rw[aj ah,ag];rfl) .nil)
  ·intro c hc
   rcases J3.mp hc with hc|hc
   ·show ab c hc
   ·rw[JJ.mp hc];show⟨u,w,Z,u1,u2,w1,w2⟩
 rintro τ H2 ⟨x0,us,cs,rfl,ap,a4,I,bb,ab⟩
 let s2:=s1.trans ap
 let ad:iB H2 z L R C:=ap _ _ B
 try dsimp only[List.set]
 show kZ (j:=L - 1) (ak (aR (aJ (v:=.int L) ∅ aB (a_.of ad) Z) aB) ax) () () λE nE=>?_
 show cO (λi τ H'=>∃(x0:Option V) (ws:-Int),τ=[x0,some (.int sd)]/\aw H2 H'/\H' E>.lst (ws.map V.int)/\↑ws=i/\∀v∈ws,1<=v/\v<=1000000000000) ⟨none,[],Z,(aw.refl H2).upd nE,ag,Z,λ_ h=>by cases h⟩ ?_ ?_
 ·rintro i τ H' hi ⟨x0,ws,rfl,s,hE,hl,hv⟩
  show gn (fK ?_)
  show cw (ak ∅ (ak (aR aB ∅) ax)) ⟨sd,_,Z,(),(),λu H3 s3 u1 u2=>?_⟩
  show⟨ws.map V.int,s3 _ _ hE,by rw[JF];lia,_,ws++[u],Z,aP (s.trans s3) nE,by rw[ag,JM];rfl,by rw[JQ,hl];rfl,?_⟩
  intro v cN
  rcases J3.mp cN with h|h
  ·show hv v h
  ·rw[JJ.mp h];show⟨u1,u2⟩
 rintro τ H3 ⟨bl,ws,rfl,O,ba,bd,a5⟩
 let s3:=s2.trans O
 let ac:iB H3 z L R C:=O _ _ ad
 try dsimp only[List.set]
 let an:0<L*R*C:=by lia
 let⟨M,hM⟩:=Mq (show 0<=L*R*C by lia)
 show bF (cw (ak ∅ (ak ∅ ax)) ⟨a,z,ns,L,R,C,M,Z,s3.seq ha,ac,S,hM.symm,(),(),λH4 pl ps s4 cj cT p2 p6 c6=>?_⟩)
 let W:iB H4 z L R C:=s4 _ _ ac
 let ar:=s3.trans s4
 show cM (v:=.int (L*R*C)) (o6 S Z W) ?_
 show bF (eC [] ax (J4 _) λro H5 s5 cF ch=>?_)
 show bF (eC [] ax (J4 _) λsh H6 s6 co c4=>?_)
 show bF (vI λtd H7 s7 c5 db=>?_)
 let am:=(s5.trans s6).trans s7
 let a3:ro≠sh:=ai ch co
 show⟨_,Z,_,Z,_,Z,a,_,Z,(ar.trans am).seq ha,λp np=>⟨p,Z,⟨_,aN.of ag⟩,?_⟩⟩
 let⟨xs,a7,bi⟩:=BQ ns (some 9) (some 109)
 rw[a7]
 let s8:aw H7 (Ob H7 p (.lst (xs.map V.int))):=(aw.refl H7).upd np
 let aa:Ob H7 p (.lst (xs.map V.int)) p>.lst (xs.map V.int):=ag
 let X:=s7 _ _ (s6 _ _ ch)
 let N:=s7 _ _ c4
 let a6:p≠ro:=JH (ai X np)
 let a0:p≠sh:=JH (ai N np)
 revert s8 aa
 generalize Ob H7 p (.lst (xs.map V.int))=H8
 intro s8 aa
 show aK (K:=K) (xs:=xs.map V.int) (λi σ H'=>∃(l k r:Option V) (rs ss:-Nat) (ts:-(Nat×V)),σ=[some (.ref a),some (.ref z),some (.int sd),some (.ref D),some (.ref E),some (.ref pl),some (.int (L*R*C)),some (.ref ro),some (.ref sh),some (.ref td),l,k,r]/\GJ H4 H' p ro sh td xs R C M ps i i rs ss ts)
  ⟨none,none,none,[],[],[],Z,am.trans s8,aa,⟨[],s8 _ _ X,.nil⟩,⟨[],s8 _ _ N,.nil⟩,s8 _ _ db,(λ_ h=>by cases h),(λ_ h=>by cases h),JG _,JG _,Tb.nil,(λ_ h=>by cases h),cF,dD s5 co,dD (s5.trans s6) c5,a3,a6,a0⟩ (λi σ H' _ hz=>by let⟨_,_,_,_,_,_,_,J⟩:=hz;show aN.of J.p) ?_ ?_
 ·rintro i x σ H' hx ⟨l,k,r,rs,ss,ts,rfl,J⟩
  let⟨c,rfl,hc⟩:=zg hx
  let hi:i<↑xs:=(JX.mp hc).1
  show gn ?_
  show bF (cw (ak ∅ (ak (cY ∅ ∅ an) ax)) ⟨z,L,R,C,_,Z,J.s _ _ W,S,λt nt=>?_⟩)
  let F:(c%(L*R*C)%(L*R*C)).toNat<M:=by
   let h1:=Ld (c%(L*R*C)) (show L*R*C≠0 by lia)
   let h2:=Ls (c%(L*R*C)) an
   lia
  revert F
  generalize (c%(L*R*C)%(L*R*C)).toNat=n
  intro F
  let J7:=J.grow ((aw.refl H').upd nt (o:=.tup ((sN R C n).map V.int)))
  let f:Ob H' t (.tup ((sN R C n).map V.int)) t>.tup ((sN R C n).map V.int):=ag
  revert J7 f
  generalize Ob H' t (.tup ((sN R C n).map V.int))=H9
  intro J7 f
  show cM (v:=.int (c/(L*R*C)%6)) (cY (cY ∅ ∅ (Bp () ())) aB (by change(0:Int)<6;decide)) ?_
  let⟨bo,a2,a1⟩:=id cj
  let av:decide (sN R C n∈ps.map (sN R C))=decide (n∈ps):=decide_eq_decide.mpr (pb S)
  let af:∀{σ:St} {H':Hp},aw H4 H'->σ[5]?>some (.ref pl)->σ[11]?>some (.ref t)->H' t>.tup ((sN R C n).map V.int)->Ev (e9 (se K true) (bI 11) (bI 5)) σ H' (.bl (!decide (n∈ps))):=fun{σ H'} s e1 e2 e3=>by
   rw[<-av]
   show mW (K:=K) (ae e2) (ae e1) e3 (aN.of (s _ _ a2)) (aC a1 λb xs e=>s _ _ e)
  show Fc (λσ H'=>∃rs,σ=[some (.ref a),some (.ref z),some (.int sd),some (.ref D),some (.ref E),some (.ref pl),some (.int (L*R*C)),some (.ref ro),some (.ref sh),some (.ref td),some (.int c),some (.ref t),some (.int (c/(L*R*C)%6))]/\GJ H4 H' p ro sh td xs R C M ps (i+1) i rs ss ts/\H' t>.tup ((sN R C n).map V.int)) (λRr hR=>?_) ?_
  ·show dI (jx (ay (dR ∅ aB)) λ_=>ay (af J7.s Z Z f)) (λe=>?_) (λe=>hR _ _ ⟨rs,Z,J7.le (Nat.le_succ i) (JG i),f⟩)
   rw[Kd] at e
   let Z0:n∉ps:=by have:=e.2;simpa using this
   let⟨as,e1,e2⟩:=J7.ro
   let be:↑as<=i:=Nb.length e2<|JF<|J7.rl
   show⟨_,Z,.inl ⟨Z,_,aN.of e1⟩,_,Z,ro,_,_,Z,Z,e1,by rw[JF];lia,hR _ _ ⟨rs++[n],Z,J7.rock e1 e2 f F Z0,aV e1 _ _ f⟩⟩
  clear J7 f
  rintro σ H9 ⟨rs,rfl,J7,f⟩
  show Fc (λσ H'=>∃ss,σ=[some (.ref a),some (.ref z),some (.int sd),some (.ref D),some (.ref E),some (.ref pl),some (.int (L*R*C)),some (.ref ro),some (.ref sh),some (.ref td),some (.int c),some (.ref t),some (.int (c/(L*R*C)%6))]/\GJ H4 H' p ro sh td xs R C M ps (i+1) (i+1) rs ss ts/\H' t>.tup ((sN R C n).map V.int)) (λRr hR=>?_) ?_
  ·show dI (jx (ay (dR ∅ aB)) λ_=>ay (af J7.s Z Z f)) (λe=>?_) (λe=>hR _ _ ⟨ss,Z,J7.le (JG _) (Nat.le_succ i),f⟩)
   rw[Kd] at e
   let Z0:n∉ps:=by have:=e.2;simpa using this
   let⟨as,e1,e2⟩:=J7.sh
   let be:↑as<=i:=Nb.length e2<|JF<|J7.sl
   show⟨_,Z,.inl ⟨Z,_,aN.of e1⟩,_,Z,sh,_,_,Z,Z,e1,by rw[JF];lia,hR _ _ ⟨ss++[n],Z,J7.shut e1 e2 f Z0,aV e1 _ _ f⟩⟩
  clear J7 f
  rintro σ H9 ⟨ss,rfl,J7,f⟩
  show dI (iX (ay (dR ∅ aB)) λ_=>ay (dR ∅ aB)) (λe2=>?_) (λe2=>⟨_,_,_,rs,ss,ts,Z,J7⟩)
  let hw:c/(L*R*C)%6=2\/c/(L*R*C)%6=3:=by simpa using e2
  show qr (gH ((cY (cY ∅ ∅ (Bp () ())) aB (Bp (by decide) (by decide))) _ (gH (eC [.int 9,.int 1000000000001] (ak aB (ak (fP (aR (cY aB aB (IY (by decide) (by decide) (by decide))) aB) (by rfl)) ax)) (Ma Z) λy H10 sy ny hy=>?_))))
  show(aR ∅ aB) _ ?_
  let bA:=J7.grow sy
  let A:∀m:Int,0<m->m<=1000000000001->∃cm H11,(V.ref td:V)=.ref cm/\fg H10 cm (.ref t) (.int (c/(L*R*C)/6%m)) H11/\∃(l k r:Option V) (rs ss:-Nat) (ts:-(Nat×V)),[some (V.ref a),some (.ref z),some (.int sd),some (.ref D),some (.ref E),some (.ref pl),some (.int (L*R*C)),some (.ref ro),some (.ref sh),some (.ref td),some (.int c),some (.ref t),some (.int (c/(L*R*C)%6))]=[some (.ref a),some (.ref z),some (.int sd),some (.ref D),some (.ref E),some (.ref pl),some (.int (L*R*C)),some (.ref ro),some (.ref sh),some (.ref td),l,k,r]/\GJ H4 H11 p ro sh td xs R C M ps (i+1) (i+1) rs ss ts:=λm m0 m1=>by
   let h1:=Ld (c/(L*R*C)/6) (show m≠0 by lia)
   let h2:=Ls (c/(L*R*C)/6) m0
   let⟨H11,d,J11⟩:=bA.toll (v:=c/(L*R*C)/6%m) S (sy _ _ f) F () h1 ()
   show⟨td,H11,Z,d,_,_,_,rs,ss,_,Z,J11⟩
  rcases hw with e3|e3
  ·rw[e3] at A|-
   show⟨y,_,0,.int 9,Z,Z,aN.of hy,Z,_,_,Z,Z,(by change(0:Int)<9;decide),_,Z,_,Z,A 9 (by decide) (by decide)⟩
  ·rw[e3] at A|-
   show⟨y,_,1,.int 1000000000001,Z,Z,aN.of hy,Z,_,_,Z,Z,(by change(0:Int)<1000000000001;decide),_,Z,_,Z,A 1000000000001 (by decide) (by decide)⟩
 ·rintro σ H9 ⟨l,k,r,rs,ss,ts,rfl,J⟩
  show st ?_
  show gZ (kH [.ref z,.ref D,.ref E,.ref ro,.ref td,.ref sh,.ref pl] (ak ∅ (ak ∅ (ak ∅ (ak ∅ (ak ∅ (ak ∅ (ak ∅ ax))))))) (Ma Z) λt H10 ck nt ht=>?_)
  let g:=J.s.trans ck
  let bA:=J.grow ck
  let bf:=J.rl
  rw[JF] at bf
  show q _ t ⟨L,R,C,M,cs,ws,rs,ts⟩ ss ps (ar.trans g) ⟨z,D,E,ro,td,sh,pl,ht,⟨g _ _ W,jg.same ⟨us,a4,I⟩ ((O.trans s4).trans g),g _ _ (s4 _ _ ba),bA.ro,bA.td⟩,bA.sh,cj.same g⟩ ⟨⟨S,(show(M:Int)=L*R*C by lia),(show M<=128 by lia),?_,ab,?_,a5,(show ↑rs<=63 by lia),λn hn=>(J.rr n hn).1,J.tb,J.tv⟩,(show M<=32 by lia),λn hn=>⟨c6 n hn,λh=>(J.rr n h).2 hn,λh=>J.sr n h hn⟩,cT,p2,p6⟩
  ·change(↑cs:Int)=L
   rw[bb];lia
  ·change(↑ws:Int)=L - 1
   rw[bd];lia
theorem Ci (y:aU P w K mg O_ "_law_spot" 1 ["sizes", "number"] lA):gE P w K mg O_ 2 "_law_free" D7 ["ground"] Ba:=by
 show rd ["ground", "sizes", "free", "number", "spot"] λnd _ _ _ _ _ H vs Q E hr h=>?_
 let⟨t,g,ss,ns,rfl,W,J,q⟩:=h
 show⟨_,(au (a9 1 nd (aG aD (aq 0) ao)) (au (a9 2 nd du) (aS (dq (mS T.range_ (aI (aA cJ (aA cJ (aG aD (aq 1) ao) (aG aD (aq 1) ao)) (aG aD (aq 1) ao)))) (bw 3 nd) (aS (a9 4 nd (bR y hr (aF (aq 1) (aq 3)))) (cK (eT (ng hr) (aq 4) (aG aD (aq 0) ao) (by with_unfolding_all rfl)) (dE (aT.one hr) (aq 2) (aq 4) gJ (by rfl))))) (aL (aq 2))))),?_⟩
 let⟨z,pr,vi,ro,td,sh,Z0,ht,N,m,r⟩:=W.ex
 let x:N9=2^24:=rfl
 let hg:=J.ok
 let S:=hg.S
 let hm:=J.m
 let Y:=hg.M
 let o:0<g.L*g.R*g.C:=Int.mul_pos (Int.mul_pos (by have:=S.l0;lia) (by have:=S.r0;lia)) (by have:=S.c0;lia)
 show cM (v:=.ref z) (aJ ∅ aB (a_.of ht) Z) ?_
 show bF (vI λd H1 s1 nd I=>?_)
 show kN (j:=g.L*g.R*g.C) (ak (o6 S Z (s1 _ _ N.z)) ax) () () ?_
 let X:(g.L*g.R*g.C).toNat=g.M:=by lia
 rw[X]
 let⟨p,f,l⟩:=m
 show cO (n:=g.M) (λi σ H'=>∃F D:Option V,σ=[some (.ref t),some (.ref z),some (.ref d),F,D]/\aw H H'/\H' d>.dT (bg g.R g.C (j9 i ss))) ⟨none,none,Z,s1,I⟩ ?_ ?_
 ·rintro i σ H' hi ⟨F,D,rfl,s,hd⟩
  let few:=(yY i ss).few
  show gn ?_
  show bF (cw (ak ∅ (ak ∅ ax)) ⟨z,g.L,g.R,g.C,_,Z,s _ _ N.z,S,λu O=>?_⟩)
  let U:((0+(i:Int))%(g.L*g.R*g.C)).toNat=i:=by rw[Ms () ()];lia
  rw[U]
  let B:aw H' (Ob H' u (.tup ((sN g.R g.C i).map V.int))):=(aw.refl H').upd O
  let A:Ob H' u (.tup ((sN g.R g.C i).map V.int)) u>.tup ((sN g.R g.C i).map V.int):=ag
  revert B A
  generalize Ob H' u (.tup ((sN g.R g.C i).map V.int))=H2
  intro B A
  let c:=B _ _ hd
  let a:=s.trans B
  show dI (ay (mW (K:=K) ∅ (aJ (v:=.ref sh) ∅ aB (a_.of (a _ _ ht)) Z) A (aN.of (a _ _ f)) (aC l λb xs e=>a _ _ e))) (λe=>?_) (λe=>?_)
  ·let e:i∉ss:=by
    let e:sN g.R g.C i∉ss.map (sN g.R g.C):=by simpa only[L1,decide_eq_false_iff_not] using e
    show λh=>e ((pb S).mpr h)
   show kR aB ∅ ∅ (fg.t (k:=iK (sN g.R g.C i)) c (f9 A) (by rw[bT];lia)) ?_
   show⟨_,_,Z,aP a nd,by rw[ag,eS S,rY,N0 e]⟩
  ·let e:i∈ss:=by
    let e:sN g.R g.C i∈ss.map (sN g.R g.C):=by simpa only[Bool.not_eq_false',decide_eq_true_eq] using e
    show(pb S).mp e
   show⟨_,_,Z,a,rY<|N1 e<|c⟩
 ·rintro σ H' ⟨F,D,rfl,s,hd⟩
  show st (cx ∅ (q H' d s nd hd))
theorem yA (bb:aU P w K mg O_ "_law_inside" 1 ["sizes", "spot"] oQ):gE P w K mg O_ 2 "_law_step" AS ["ground", "one", "two"] uL:=by
 show rd ["ground", "one", "two", "unlike", "spot", "price"] λnd _ _ _ _ _ H vs Q E hr h=>?_
 let⟨t,a,b,g,ss,ns,x,y,w,x',y',w',rfl,hG,hg,ha,hb,hi,F,hn,q⟩:=h
 show⟨_,(au (rS 3 ["k"] ["one", "two"] [1,2] nd (mS T.range_ (aI ao)) (eM 0) (iJ (cu iw (aG (kF (K:=K) Z) (aq 1) (aq 0)) (aG (kF (K:=K) Z) (aq 2) (aq 0)))) (aq 0)) (au (cK (iz (cu iw (bW bc T.len_ (aI (aq 3))) ao) (gB (cu iw (bW iV T.abs_ (aI (aA cL (aG aD (aq 1) (aG aQ (aq 3) ao)) (aG aD (aq 2) (aG aQ (aq 3) ao))))) ao))).pt (aL iM)) (au (dq (aY (bL (aF (aq 1) (aq 2)))) (bw 4 nd) (aW (cK (iz (eT (yx hr) (aq 4) (aG aD (aq 0) ao) (by with_unfolding_all rfl)) (iz (eT (yx hr) (aq 4) (aG aD (aq 0) ao) (by with_unfolding_all rfl)) (gB (fV (gu (bR bb hr (aF (aG aD (aq 0) ao) (aq 4)))))))).pt (aL iM)))) (au (a9 5 nd (aA bh (df K7 K_ Lv (fh hr) (aG aD (aq 0) ao) (aF (aq 1) ao)) (df K7 K_ Lv (fh hr) (aG aD (aq 0) ao) (aF (aq 2) ao)))) (aS (cK (cu eZ (aG aQ (aq 3) ao) ao) (aL (aA bh (aq 5) (aG aQ (aG aD (aq 0) ao) (bW (gb Z) T.min_ (aF (aG aD (aq 1) ao) (aG aD (aq 2) ao))))))) (aL (aA bh (aq 5) (aG aD (aG aQ (aG aD (aq 0) ao) (aG aD (aq 1) ao)) (aA cL ao (aG aQ (aq 3) ao)))))))))),?_⟩
 let a1:N9=2^24:=rfl
 let⟨z,pr,vi,ro,td,sh,pi,ht,hA,⟨ar,ad,ac⟩,a0⟩:=hG.ex
 let⟨ap,ah,O⟩:=id hA.ro
 let S:=hg.S
 let⟨i1,i2,i3,i4,i5,i6⟩:=id hi
 let⟨j1,j2,j3,j4,j5,j6⟩:=id F
 let av:=hg.vl
 let a2:=hg.pl
 obtain⟨k,hk,hu,hd,hw⟩:∃k:Nat,k<3/\(([0,1,2]:-Nat).filter λj=>!decide ([x,y,w].getD j 0=[x',y',w'].getD j 0))=[k]/\(([x,y,w].getD k 0 - [x',y',w'].getD k 0=1)\/([x,y,w].getD k 0 - [x',y',w'].getD k 0= -1))/\((k=0/\x≠x'/\y=y'/\w=w')\/(k=1/\x=x'/\y≠y'/\w=w')\/(k=2/\x=x'/\y=y'/\w≠w')):=by
  unfold eQ mU at hn
  simp only[JO,List.cons.injEq,KD,or_false,and_true] at hn
  rcases hn with ⟨h1,h2,h3⟩|⟨h1,h2,h3⟩|⟨h1,h2,h3⟩|⟨h1,h2,h3⟩|⟨h1,h2,h3⟩|⟨h1,h2,h3⟩<;>rw[h1,h2,h3]
  ·show⟨0,by decide,wO (a:=true) (b:=false) (c:=false) (nq (a:=x) (b:=x - 1) ()) (yq y) (yq w),.inl (by change x - (x - 1)=1;lia),.inl ⟨Z,(),Z,Z⟩⟩
  ·show⟨1,by decide,wO (a:=false) (b:=true) (c:=false) (yq x) (nq (a:=y) (b:=y - 1) ()) (yq w),.inl (by change y - (y - 1)=1;lia),.inr (.inl ⟨Z,Z,(),Z⟩)⟩
  ·show⟨2,by decide,wO (a:=false) (b:=false) (c:=true) (yq x) (yq y) (nq (a:=w) (b:=w - 1) ()),.inl (by change w - (w - 1)=1;lia),.inr (.inr ⟨Z,Z,Z,()⟩)⟩
  ·show⟨2,by decide,wO (a:=false) (b:=false) (c:=true) (yq x) (yq y) (nq (a:=w) (b:=w+1) ()),.inr (by change w - (w+1)= -1;lia),.inr (.inr ⟨Z,Z,Z,()⟩)⟩
  ·show⟨1,by decide,wO (a:=false) (b:=true) (c:=false) (yq x) (nq (a:=y) (b:=y+1) ()) (yq w),.inr (by change y - (y+1)= -1;lia),.inr (.inl ⟨Z,Z,(),Z⟩)⟩
  ·show⟨0,by decide,wO (a:=true) (b:=false) (c:=false) (nq (a:=x) (b:=x+1) ()) (yq y) (yq w),.inr (by change x - (x+1)= -1;lia),.inl ⟨Z,(),Z,Z⟩⟩
 let n:∀(j:Nat),j<3->∀u v s:Int,jT [V.int u,.int v,.int s] (j:Int)>.int ([u,v,s].getD j 0):=λj hj u v s=>by
  let h3:j=0\/j=1\/j=2:=by lia
  rcases h3 with rfl|rfl|rfl<;>rfl
 show kZ (j:=3) (ak aB ax) (by decide) (by decide) λD nD=>?_
 show cO (λi τ H'=>∃x0:Option V,τ=[x0,some (.ref a),some (.ref b)]/\aw H H'/\H' D>.lst (nV ((([0,1,2]:-Nat).take i).filter λj=>!decide ([x,y,w].getD j 0=[x',y',w'].getD j 0)))) ⟨none,Z,(aw.refl H).upd nD,ag⟩ ?_ ?_
 ·rintro i τ H' o ⟨x0,rfl,s,hD⟩
  let o:i<3:=o
  let e0:(0:Int)+(i:Int)=(i:Int):=by lia
  let Z0:([0,1,2]:-Nat).take (i+1)=([0,1,2]:-Nat).take i++[i]:=by
   let h3:i=0\/i=1\/i=2:=by lia
   rcases h3 with rfl|rfl|rfl<;>rfl
  show gn ?_
  rw[e0,Z0,Le]
  show ay (gz (aJ ∅ ∅ (a_.of (s _ _ ha)) (n i o x y w)) (aJ ∅ ∅ (a_.of (s _ _ hb)) (n i o x' y' w'))) _ ?_
  cases e:(!decide ([x,y,w].getD i 0=[x',y',w'].getD i 0)) with
  |true=>
   show gT ⟨_,Z,_,hD,?_,_,Z,aP s nD,?_⟩
   ·rw[fI]
    have:=Lf (λj=>!decide ([x,y,w].getD j 0=[x',y',w'].getD j 0)) (([0,1,2]:-Nat).take i)
    rw[KH] at this
    simp only[J9,Ln] at this
    lia
   ·rw[ag,LG (by show e),Mr]
    unfold nV
    rw[JM];rfl
  |false=>
   show fN ⟨_,Z,s,?_⟩
   rw[LH (by rw[e];decide),Mr,J6]
   show hD
 rintro τ H1 ⟨x0,rfl,s1,hD⟩
 replace hD:H1 D>.lst (nV [k]):=by rw[<-hu];show hD
 let Y:=s1 _ _ ha
 let U:=s1 _ _ hb
 let M:∀{σ:St},σ[3]?>some (.ref D)->Ev (e9 (jF K) (bI 3) (tC (.int 0))) σ H1 (.int (k:Int)):=λe=>bN (ae e) aB (aN.of hD) Z
 try dsimp only[List.set]
 show gx (b:=false) (oV (c9 (ay (gz (cI (v:=.int 1) (ak ∅ ax) λQ' q'=>⟨_,1,Z,.inl ⟨_,aN.of hD,Z⟩,q'⟩) aB)) Z) (c9 (ay (gz (cI (v:=.int (if [x,y,w].getD k 0 - [x',y',w'].getD k 0<0 then -([x,y,w].getD k 0 - [x',y',w'].getD k 0:_) else [x,y,w].getD k 0 - [x',y',w'].getD k 0)) (ak (aR (aJ ∅ (M Z) (a_.of Y) (n k hk x y w)) (aJ ∅ (M Z) (a_.of U) (n k hk x' y' w'))) ax) λQ' q'=>⟨_,Z,q'⟩) aB)) ?_)) Z ?_
 ·rcases hd with e|e<;>rw[e]<;>rfl
 let J:∀{σ:St} {H':Hp} {u:N8} {l r c:Int},aw H1 H'->σ[0]?>some (.ref t)->σ[4]?>some (.ref u)->H' u>.tup ([l,r,c].map V.int)->iA g.L g.R g.C l r c->iq (Gi (oA (e9 (se K false) (bI 4) (e9 (lE K) (bI 0) (tC (.int 3))))) (Gi (oA (e9 (se K false) (bI 4) (e9 (lE K) (bI 0) (tC (.int 5))))) (BR (tB (fS oQ [] E0 (cz (e9 (lE K) (bI 0) (tC (.int 0))) (cz (bI 4) e8))))))) σ H' (!ye g ss [l,r,c]):=fun{σ H' u l r c} s e0 e4 hu bv=>by
  let s':=s1.trans s
  let e:=iX (ay (zN (K:=K) (ae e4) (aJ (K:=K) (i:=3) (v:=.ref ro) (ae e0) aB (a_.of (s' _ _ ht)) Z) hu (aN.of (s' _ _ ah)) (aC O λb xs e=>s' _ _ e))) λ_=>iX (ay (zN (K:=K) (ae e4) (aJ (K:=K) (i:=5) (v:=.ref sh) (ae e0) aB (a_.of (s' _ _ ht)) Z) hu (aN.of (s' _ _ ad)) (aC ac λb xs e=>s' _ _ e))) λ_=>Fe (B0 (EA (sp:=oQ) (v:=.bl (decide (iA g.L g.R g.C l r c))) (ak (aJ (K:=K) (i:=0) (v:=.ref z) (ae e0) aB (a_.of (s' _ _ ht)) Z) (ak (ae e4) ax)) λQ' q'=>⟨z,u,g.L,g.R,g.C,l,r,c,Z,s' _ _ hA.z,hu,q'⟩))
  rw[N3 bv] at e
  show c9 e ?_
  unfold ye
  simp
 show⟨_,Z,_,Z,by change 2<=N9;decide,λp np=>⟨p,Z,⟨_,aN.of ag⟩,?_⟩⟩
 let s2:aw H1 (Ob H1 p (.lst [.ref a,.ref b])):=(aw.refl H1).upd np
 let hp:Ob H1 p (.lst [.ref a,.ref b]) p>.lst [.ref a,.ref b]:=ag
 revert s2 hp
 generalize Ob H1 p (.lst [.ref a,.ref b])=H2
 intro s2 hp
 let d:=s1.trans s2
 show aK (K:=K) (xs:=[.ref a,.ref b]) (λi σ H'=>∃x4:Option V,σ=[some (.ref t),some (.ref a),some (.ref b),some (.ref D),x4,none]/\H'=H2/\(0<i->ye g ss [x,y,w]=true)/\(1<i->ye g ss [x',y',w']=true)) ⟨none,Z,Z,(λh=>absurd h (by decide)),λh=>absurd h (by decide)⟩ (λi σ H' _ hz=>by let⟨_,_,e,_⟩:=hz;rw[e];show aN.of hp) ?_ ?_
 ·rintro i u σ H' hu ⟨x4,rfl,rfl,c1,c2⟩
  let h2:=mE hu
  show gn ?_
  rcases h2 with ⟨rfl,rfl⟩|⟨rfl,rfl⟩
  ·show dI (J s2 Z Z (d _ _ ha) hi) (λe=>?_) (λe=>⟨_,Z,Z,λ_=>by simpa using e,λh=>absurd h (by decide)⟩)
   show cx aB ?_
   have:=q _ d
   rw[N0 (by rw[L1] at e;rw[e];show JR)] at this
   show this
  ·show dI (J s2 Z Z (d _ _ hb) F) (λe=>?_) (λe=>⟨_,Z,Z,λ_=>c1 (by decide),λ_=>by simpa using e⟩)
   show cx aB ?_
   have:=q _ d
   rw[N0 (by rw[L1] at e;rw[e,Bool.and_false];show JR)] at this
   show this
 rintro σ H' ⟨x4,rfl,rfl,c1,c2⟩
 let q:=q _ d
 rw[c1 (Nat.zero_lt_succ _),c2 (by change 1<2;decide)] at q
 let q:_:=q
 rw[N1 (by rfl)] at q
 let m:=d _ _ ht
 let A:=d _ _ ha
 let L:=d _ _ hb
 let f:=hA.same d
 let W:=s2 _ _ hD
 let d1:=dg (x:=[x,y,w]) (.inl f.td) A
 let d2:=dg (x:=[x',y',w']) (.inl f.td) L
 show st ?_
 show cM (v:=.int (fb g.R g.C g.ts [x,y,w]+fb g.R g.C g.ts [x',y',w'])) (aR (fP (fT (aJ (v:=.ref td) ∅ aB (a_.of m) Z) ∅ aB f.td d1) (hZ hg.tv _)) (fP (fT (aJ (v:=.ref td) ∅ aB (a_.of m) Z) ∅ aB f.td d2) (hZ hg.tv _))) ?_
 let I:∀{σ:St},σ[3]?>some (.ref D)->Ev (e9 (jF K) (bI 3) (tC (.int 0))) σ H' (.int (k:Int)):=λe=>bN (ae e) aB (aN.of W) Z
 show q_ (ay (dR (I Z) aB)) (λe=>?_) (λe=>?_)
 ·let e:k=0:=by have:=N4 e;lia
  let e:x≠x':=by rcases hw with h|h|h<;>first|show h.2.1|lia
  let an:x'=x - 1\/x'=x+1:=by
   unfold eQ mU at hn
   simp only[JO,List.cons.injEq,KD,or_false,and_true] at hn
   lia
  let hm:(min x x').toNat<↑g.vs:=by lia
  let B:jT (g.vs.map V.int) (if x'<x then x' else x)>.int (g.vs.getD (min x x').toNat 0):=by
   rw[DK]
   have:min x x'=(((min x x').toNat:Nat):Int):=by lia
   rw[this]
   show cE ?_
   rw[Kv,JV,JS,JU hm];rfl
  show cx (fP (aR ∅ (bN (v:=.int (g.vs.getD (min x x').toNat 0)) (aJ (v:=.ref vi) ∅ aB (a_.of m) Z) (cI (v:=.int (if x'<x then x' else x)) (ak (aJ (v:=.int x) ∅ aB (a_.of A) Z) (ak (aJ (v:=.int x') ∅ aB (a_.of L) Z) ax)) λQ' q'=>⟨_,_,Z,q'⟩) (aN.of f.vi) B)) (c:=.int (cV g [x,y,w] [x',y',w'])) ?_) q
  unfold cV bare
  rw[N1 (show [x,y,w].getD 0 0≠[x',y',w'].getD 0 0 from e)]
  rfl
 let X:k≠0:=by have:=N6 e;lia
 let ex:x=x':=by rcases hw with h|h|h<;>first|show h.2.1|lia
 let⟨as,p1,p2⟩:=f.pr
 let hx:x.toNat<↑g.ps:=by lia
 let am:x.toNat<↑as:=Nb.length p2<|hx
 obtain⟨aa,bi⟩:∃aa,as[x.toNat]?>aa:=⟨_,JU am⟩
 let⟨c,hc,R⟩:=cn p2 bi
 let⟨u,v,rfl,_⟩:=hg.pp c (JY hc)
 let af:g.ps.getD x.toNat []=[u,v]:=by rw[JS,hc];rfl
 let B:jT (as.map V.ref) x>.ref aa:=by
  have:x=((x.toNat:Nat):Int):=by lia
  rw[this]
  show cE ?_
  rw[JV,bi];rfl
 let C:bare g [x,y,w] [x',y',w']=if y=y' then u else v:=by
  unfold bare
  rw[N0 (show¬[x,y,w].getD 0 0≠[x',y',w'].getD 0 0 from λh=>h ex)]
  change(if y=y' then (g.ps.getD x.toNat []).getD 0 0 else (g.ps.getD x.toNat []).getD 1 0)=_
  rw[af];rfl
 let N:cV g [x,y,w] [x',y',w']=fb g.R g.C g.ts [x,y,w]+fb g.R g.C g.ts [x',y',w']+(if y=y' then u else v):=by
  unfold cV
  rw[C]
 rw[N] at q
 let ab:jT [V.int u,.int v] (2 - (k:Int))>.int (if y=y' then u else v):=by
  rcases hw with ⟨h,_⟩|⟨rfl,_,h,_⟩|⟨rfl,_,h,_⟩
  ·show absurd h X
  ·rw[N0 h];rfl
  ·rw[N1 h];rfl
 show cx (aR ∅ (aJ (v:=.int (if y=y' then u else v)) (bN (v:=.ref aa) (aJ (v:=.ref pr) ∅ aB (a_.of m) Z) (aJ (v:=.int x) ∅ aB (a_.of A) Z) (aN.of p1) B) (aR aB (I Z)) (a_.of R) ab)) q
theorem Cw (a7:aU P w K mg O_ "_law_step" 2 ["ground", "one", "two"] uL):gE P w K mg O_ 3 "_law_arcs" DW ["ground", "spot"] A8:=by
 show rd ["ground", "spot", "sizes", "found", "k", "by", "other", "price"] λnd _ _ _ _ _ H vs Q E hr h=>?_
 let⟨t,b,g,ss,ns,n,rfl,hG,hg,hn,hb,q⟩:=h
 show⟨_,(au (a9 2 nd (aG aD (aq 0) ao)) (au (a9 3 nd (bL cW)) (aS (dq (aY (bL (aO ao (aF ao ao)))) (bw 4 nd) (aW (dq (aY (bL (aF (yI s_ ao) ao))) (bw 5 nd) (aS (a9 6 nd (bG (aO (aA bh (aG aD (aq 1) ao) (aA cJ (aq 5) (fO jK T.int_ (aI (zo eZ (aq 4) ao))))) (aF (aA bh (aG aD (aq 1) ao) (aA cJ (aq 5) (fO jK T.int_ (aI (zo eZ (aq 4) ao))))) (aA bh (aG aD (aq 1) ao) (aA cJ (aq 5) (fO jK T.int_ (aI (zo eZ (aq 4) ao))))))))) (m8 (fJ fc eO ao (aG aD (aq 6) (aq 4)) (aG aD (aq 2) (aq 4))) (aS (a9 7 nd (bR a7 hr (aO (aq 0) (aF (aq 1) (aq 6))))) (cK (cu u5 (aq 7) iM) (bj (df Kw KN KP bZ (aq 3) (aI (bG (aF (aq 6) (aq 7)))))))) h_))))) (aL (aq 3))))),?_⟩
 let ap:N9=2^24:=rfl
 let⟨z,pr,vi,ro,td,sh,pi,ht,hA,am,an⟩:=hG.ex
 obtain⟨x,y,w,ec⟩:∃x y w,sN g.R g.C n=[x,y,w]:=⟨_,_,_,Z⟩
 let N:iA g.L g.R g.C x y w:=t_ hg hn ec.symm
 let R:iB H b x y w:=by unfold mK at hb;rw[ec] at hb;show hb
 let aa:=BZ hg (ss:=ss) hn ec
 show cM (v:=.ref z) (aJ ∅ aB (a_.of ht) Z) ?_
 show bF (eC [] ax (J4 _) λG H1 s1 nG bo=>?_)
 show⟨by change 3<=N9;decide,λp np=>⟨p,Z,⟨_,aN.of ag⟩,?_⟩⟩
 let s2:aw H1 (Ob H1 p (.lst [.int 0,.int 1,.int 2])):=(aw.refl H1).upd np
 let hp:Ob H1 p (.lst [.int 0,.int 1,.int 2]) p>.lst [.int 0,.int 1,.int 2]:=ag
 let ac:p≠G:=JH (ai bo np)
 revert s2 hp
 generalize Ob H1 p (.lst [.int 0,.int 1,.int 2])=H2
 intro s2 hp
 show aK (K:=K) (xs:=[.int 0,.int 1,.int 2]) (λi σ H'=>∃(x4 x5 x6 x7:Option V),σ=[some (.ref t),some (.ref b),some (.ref z),some (.ref G),x4,x5,x6,x7]/\aw H H'/\H' p>.lst [.int 0,.int 1,.int 2]/\vo H' G (AU g ss x y w (2*i)))
  ⟨none,none,none,none,Z,s1.trans s2,hp,[],s2 _ _ bo,.nil⟩ (λi σ H' _ hz=>by let⟨_,_,_,_,_,_,e,_⟩:=hz;show aN.of e) ?_ ?_
 ·rintro i u σ H' hu ⟨x4,x5,x6,x7,rfl,s,U,f⟩
  obtain⟨hi,rfl⟩:i<3/\u=.int (i:Int):=by
   rcases i with _|i
   ·show⟨by decide,(Option.some.inj hu).symm⟩
   ·rcases mE hu with ⟨rfl,z⟩|⟨rfl,z⟩
    ·show⟨by decide,z⟩
    ·show⟨by decide,z⟩
  show gn ?_
  show⟨_,Z,by change 2<=N9;decide,λp2 bu=>⟨p2,Z,⟨_,aN.of ag⟩,?_⟩⟩
  let s3:aw H' (Ob H' p2 (.lst [.int (-1),.int 1])):=(aw.refl H').upd bu
  let D:Ob H' p2 (.lst [.int (-1),.int 1]) p2>.lst [.int (-1),.int 1]:=ag
  let Z0:p2≠G:=by let⟨qs,e,_⟩:=f;show JH (ai e bu)
  let B:=f.same s3
  revert s3 D B
  generalize Ob H' p2 (.lst [.int (-1),.int 1])=H3
  intro s3 D B
  let ab:=s.trans s3
  let ah:=s3 _ _ U
  clear f
  show aK (K:=K) (xs:=[.int (-1),.int 1]) (λj σ H'=>∃(x5 x6 x7:Option V),σ=[some (.ref t),some (.ref b),some (.ref z),some (.ref G),some (.int (i:Int)),x5,x6,x7]/\aw H H'/\H' p>.lst [.int 0,.int 1,.int 2]/\H' p2>.lst [.int (-1),.int 1]/\vo H' G (AU g ss x y w (2*i+j)))
   ⟨_,_,_,Z,ab,ah,D,B⟩ (λi σ H' _ hz=>by let⟨_,_,_,_,_,_,e,_⟩:=hz;show aN.of e) ?_ ?_
  ·rintro j u σ H4 hu ⟨x5,x6,x7,rfl,s4,C,F,qs,af,X⟩
   obtain⟨hj,v,rfl,hv⟩:j<2/\∃v:Int,u=.int v/\v=2*(j:Int) - 1:=by
    rcases mE hu with ⟨rfl,z⟩|⟨rfl,z⟩
    ·show⟨by decide,_,z,Z⟩
    ·show⟨by decide,_,z,Z⟩
   obtain⟨x',y',w',c1,c2,c3,c4,uk,sk,c5,c6,c7,c8⟩:∃x' y' w':Int,(CS x y w)[2*i+j]?>[x',y',w']/\x+v*(if decide ((i:Int)=0)=true then 1 else 0)=x'/\y+v*(if decide ((i:Int)=1)=true then 1 else 0)=y'/\w+v*(if decide ((i:Int)=2)=true then 1 else 0)=w'/\∃uk sk:Int,jT [V.int x',.int y',.int w'] (i:Int)>.int uk/\jT [V.int g.L,.int g.R,.int g.C] (i:Int)>.int sk/\(km g [x',y',w']=true↔0<=uk/\uk<sk)/\eQ x y w x' y' w':=by
    let⟨a1,a2,a3,a4,a5,a6⟩:=N
    let d:∀{a b c:Int},km g [a,b,c]=true↔iA g.L g.R g.C a b c:=⟨λh=>N4 h,λh=>N3 h⟩
    let i3:i=0\/i=1\/i=2:=by lia
    let j2:j=0\/j=1:=by lia
    rcases i3 with rfl|rfl|rfl<;>rcases j2 with rfl|rfl<;>subst hv
    ·show⟨x - 1,y,w,Z,by simp;lia,by simp,by simp,_,_,Z,Z,d.trans ⟨λh=>⟨h.1,h.2.1⟩,λh=>⟨h.1,h.2,a3,a4,a5,a6⟩⟩,by unfold eQ mU;simp⟩
    ·show⟨x+1,y,w,Z,by simp,by simp,by simp,_,_,Z,Z,d.trans ⟨λh=>⟨h.1,h.2.1⟩,λh=>⟨h.1,h.2,a3,a4,a5,a6⟩⟩,by unfold eQ mU;simp⟩
    ·show⟨x,y - 1,w,Z,by simp,by simp;lia,by simp,_,_,Z,Z,d.trans ⟨λh=>⟨h.2.2.1,h.2.2.2.1⟩,λh=>⟨a1,a2,h.1,h.2,a5,a6⟩⟩,by unfold eQ mU;simp⟩
    ·show⟨x,y+1,w,Z,by simp,by simp,by simp,_,_,Z,Z,d.trans ⟨λh=>⟨h.2.2.1,h.2.2.2.1⟩,λh=>⟨a1,a2,h.1,h.2,a5,a6⟩⟩,by unfold eQ mU;simp⟩
    ·show⟨x,y,w - 1,Z,by simp,by simp,by simp;lia,_,_,Z,Z,d.trans ⟨λh=>⟨h.2.2.2.2.1,h.2.2.2.2.2⟩,λh=>⟨a1,a2,a3,a4,h.1,h.2⟩⟩,by unfold eQ mU;simp⟩
    ·show⟨x,y,w+1,Z,by simp,by simp,by simp,_,_,Z,Z,d.trans ⟨λh=>⟨h.2.2.2.2.1,h.2.2.2.2.2⟩,λh=>⟨a1,a2,a3,a4,h.1,h.2⟩⟩,by unfold eQ mU;simp⟩
   let ad:=s4 _ _ R
   let el:∀{σ:St} {c u':Int} (k:Int) (u:Int),σ[1]?>some (.ref b)->σ[4]?>some (.int (i:Int))->σ[5]?>some (.int v)->jT [V.int x,.int y,.int w] k>.int u->u+v*(if decide ((i:Int)=k)=true then 1 else 0)=u'->Ev (e9 (sI λi j=>V.int (i+j)) (e9 (lE K) (bI 1) (tC (.int k))) (e9 (rI qy λi j=>V.int (i*j)) (bI 5) (zf (λxs H Q=>(∃i,xs=[.int i]/\Q (.int i) H)\/∃k,xs=[.bl k]/\Q (.int (if k then 1 else 0)) H) (cz (e9 IE (bI 4) (tC (.int k))) e8)))) σ H4 (.int u'):=λk u e1 e4 e5 hu e=>by
    rw[<-e]
    show aR (aJ (ae e1) aB (a_.of ad) hu) (cY (ae e5) (cI (v:=.int (if decide ((i:Int)=k)=true then 1 else 0)) (ak (dR (ae e4) aB) ax) λQ' q'=> .inr ⟨_,Z,q'⟩) (DZ () ()))
   show gn ?_
   show bF (kH [.int x',.int y',.int w'] (ak (el (c:=0) 0 x Z Z Z Z c2) (ak (el (c:=0) 1 y Z Z Z Z c3) (ak (el (c:=0) 2 w Z Z Z Z c4) ax))) (Ma Z) λo H5 s5 no ho=>?_)
   let r:=s4.trans s5
   let M:=s5 _ _ af
   let J:Nb (y_ H5) qs (AU g ss x y w (2*i+j)):=c_ X λb ys e=>s5 _ _ e
   let ql:↑qs<=6:=by have:=uW (g:=g) (ss:=ss) (x:=x) (y:=y) (w:=w) (m:=2*i+j);rw[<-Nb.length X] at this;lia
   let S:∀{H6:Hp} {σ:St},aw H5 H6->res g ss [x,y,w] [x',y',w']=none->vo H6 G (AU g ss x y w (2*i+(j+1))):=fun{H6 σ} s6 e=>by
    rw[show 2*i+(j+1)=2*i+j+1 by lia,qH c1,e]
    show⟨qs,s6 _ _ M,by rw[show(none:Option (T3×Int)).toList=[] from Z,J6];show c_ J λb ys e=>s6 _ _ e⟩
   show dI (ay (dN aB (aJ (v:=.int uk) ∅ ∅ (a_.of ho) c5) (aJ (v:=.int sk) ∅ ∅ (a_.of (r _ _ hA.z)) c6))) (λe=>?_) (λe=>?_)
   ·let l:km g [x',y',w']=true:=c7.mpr (by simpa using e)
    show bF (cw (ak ∅ (ak ∅ (ak ∅ ax))) ⟨t,b,o,g,ss,ns,x,y,w,x',y',w',Z,hG.same r,hg,r _ _ R,ho,N,N4 l,c8,λH6 s6=>?_⟩)
    let W:=r.trans s6
    let L:=s6 _ _ (s5 _ _ C)
    let I:=s6 _ _ (s5 _ _ F)
    by_cases hc:(ye g ss [x,y,w]&&ye g ss [x',y',w'])=true
    ·rw[N1 hc]
     show jL (c9 (ay (kE ∅ aB)) (by rfl)) Z ?_
     let A:=s6 _ _ M
     show⟨_,Z,.inl ⟨Z,_,aN.of A⟩,_,Z,_,Z,by change 2<=N9;decide,λT' nT=>?_⟩
     let O:T'≠G:=JH (ai A nT)
     show⟨G,_,_,Z,Z,aj (JH O)<|A,by rw[JF];lia,?_⟩
     show⟨_,_,_,Z,aP (W.upd nT) nG,aj ac<|aj (ai L nT)<|L,aj Z0<|aj (ai I nT)<|I,qs++[T'],by rw[ag,JM];rfl,?_⟩
     rw[show 2*i+(j+1)=2*i+j+1 by lia,qH c1,show res g ss [x,y,w] [x',y',w']>([x',y',w'],cV g [x,y,w] [x',y',w']) by unfold res;rw[l,hc];rfl]
     show e_ (c_ J λb ys e=>cg A nT _ _ (s6 _ _ e)) (.cons ⟨o,by rw[aj O,ag],cg A nT _ _ (s6 _ _ ho)⟩ .nil)
    ·rw[N0 hc]
     show gY (c9 (ay (kE ∅ aB)) (by rfl)) Z ?_
     show⟨_,_,_,Z,W,L,I,S (σ:=[]) s6 (by unfold res;rw[l,Bool.true_and,N0 hc])⟩
   ·let l:km g [x',y',w']=false:=by
     cases e':km g [x',y',w'] with
     |false=>rfl
     |true=>
      let h:=c7.mp e'
      rw[N3 h.1,N3 h.2] at e;cases e
    show⟨_,_,_,Z,r,s5 _ _ C,s5 _ _ F,S (σ:=[]) (aw.refl H5) (by unfold res;rw[l];rfl)⟩
  ·rintro σ H4 ⟨x5,x6,x7,rfl,s4,C,F,Y⟩
   show⟨_,_,_,_,Z,s4,C,Y⟩
 ·rintro σ H' ⟨x4,x5,x6,x7,rfl,s,U,f⟩
  show st (cx ∅ (q H' G _ s nG f uW aa))
theorem CK (aa:aU P w K mg O_ "_law_spot" 1 ["sizes", "number"] lA)(ad:aU P w K mg O_ "_law_arcs" 3 ["ground", "spot"] A8):gE P w K mg O_ 4 "_law_all_arcs" DI ["ground"] yT:=by
 show rd ["ground", "sizes", "arcs", "number", "spot", "other", "price"] λnd _ _ _ _ _ H vs Q E hr h=>?_
 let⟨t,g,ss,ns,rfl,hG,h7,q⟩:=h
 show⟨_,(au (a9 1 nd (aG aD (aq 0) ao)) (au (a9 2 nd (bL cW)) (aS (dq (mS T.range_ (aI (aA cJ (aA cJ (aG aD (aq 1) ao) (aG aD (aq 1) ao)) (aG aD (aq 1) ao)))) (bw 3 nd) (aS (a9 4 nd (bR aa hr (aF (aq 1) (aq 3)))) (dq (aY (bR ad hr (aF (aq 0) (aq 4)))) (cq Z (az (bw 5 nd) (az (bw 6 nd) bB))) (aW (bj (df Kw KN KP bZ (aq 2) (aI (bG (aO (aq 4) (aF (aq 5) (aq 6))))))))))) (aL (aq 2))))),?_⟩
 let Z0:N9=2^24:=rfl
 let⟨z,pr,vi,ro,td,sh,pi,ht,hA,X,Y⟩:=hG.ex
 let hg:=h7.ok
 let S:=hg.S
 let hm:=h7.m
 let hM:=hg.M
 show cM (v:=.ref z) (aJ ∅ aB (a_.of ht) Z) ?_
 show bF (eC [] ax (J4 _) λG H1 s1 nG a1=>?_)
 show kN (j:=g.L*g.R*g.C) (ak (o6 S Z (s1 _ _ hA.z)) ax) () () ?_
 rw[show(g.L*g.R*g.C).toNat=g.M by lia]
 show cO (n:=g.M) (λi σ H'=>∃(x3 x4 x5 x6:Option V) (as:-Ar),σ=[some (.ref t),some (.ref z),some (.ref G),x3,x4,x5,x6]/\aw H H'/\F0 g.R g.C H' G as/\↑as<=6*i/\∀m o w,(m,o,w)∈as↔m<i/\(o,w)∈rows g (j9 g.M ss) m)
  ⟨none,none,none,none,[],Z,s1,⟨[],a1,.nil⟩,JG _,λm o w=>⟨(λh=>by cases h),λh=>absurd h.1 (KJ _)⟩⟩ ?_ ?_
 ·rintro i σ H' hi ⟨x3,x4,x5,x6,as,rfl,s,r,W,p⟩
  show gn ?_
  show bF (cw (ak ∅ (ak ∅ ax)) ⟨z,g.L,g.R,g.C,_,Z,s _ _ hA.z,S,λu nu=>?_⟩)
  let en:((0+(i:Int))%(g.L*g.R*g.C)).toNat=i:=by rw[Ms () ()];lia
  rw[en]
  let s2:aw H' (Ob H' u (.tup ((sN g.R g.C i).map V.int))):=(aw.refl H').upd nu
  let hu:Ob H' u (.tup ((sN g.R g.C i).map V.int)) u>.tup ((sN g.R g.C i).map V.int):=ag
  revert s2 hu
  generalize Ob H' u (.tup ((sN g.R g.C i).map V.int))=H2
  intro s2 hu
  let D:=s.trans s2
  let k:=r.same s2
  show Ck (K:=K) (ak ∅ (ak ∅ ax)) ⟨t,u,g,ss,ns,i,Z,hG.same D,hg,hi,hu,λH3 l xs s3 nl ⟨bs,hl,ar⟩ bu hx=>⟨l,Z,⟨_,aN.of hl⟩,?_⟩⟩
  let N:=D.trans s3
  let R:l≠G:=by let⟨qs,e,_⟩:=k;show JH (ai e nl)
  let L:↑bs=↑xs:=Nb.length ar
  show aK (K:=K) (xs:=bs.map V.ref) (λj σ H'=>∃(x5 x6:Option V),σ=[some (.ref t),some (.ref z),some (.ref G),some (.int (0+(i:Int))),some (.ref u),x5,x6]/\aw H H'/\Sb G H3 H'/\F0 g.R g.C H' G (as++(xs.take j).map λx=>(i,jA g.R g.C x.1,x.2)))
   ⟨_,_,Z,N,Sb.refl G H3,List.take_zero<|List.map_nil<|J6<|k.same s3⟩ (λj σ H' _ hz=>by let⟨_,_,_,_,sb,_⟩:=hz;show aN.of (sb _ _ R hl)) ?_ ?_
  ·rintro j y σ H4 hy ⟨x5,x6,rfl,s4,sb,qs,f,J⟩
   let⟨a,ha,rfl⟩:=b_ hy
   let hj:j<↑bs:=(JX.mp ha).1
   let⟨x,I,b,e1,e2⟩:=fk ar ha
   let⟨d,d1,d2,d3,d4,m,m1,m2,m3⟩:=lH hg ((hx x).mp (JY I))
   let A:∀{a:N8} {ys:-V},H3 a>.tup ys->a≠G:=λe z=>by
    let⟨qs,e',_⟩:=k
    rw[z,s3 _ _ e'] at e;cases e
   let U:=sb _ _ (A e1) e1
   let O:=sb _ _ (A e2) e2
   let M:=sb _ _ (A (s3 _ _ hu)) (s3 _ _ hu)
   let ql:↑qs<=6*i+6:=by
    have:=Nb.length J
    rw[JQ,JF,KH] at this
    lia
   show⟨a,_,Z,a_.of U,Z,_,_,Z,_,_,Z,Z,?_⟩
   show⟨_,Z,.inl ⟨Z,_,aN.of f⟩,_,Z,_,Z,_,Z,by change 3<=N9;decide,λT' nT=>?_⟩
   let F:T'≠G:=JH (ai f nT)
   show⟨G,_,_,Z,Z,aj (JH F)<|f,by rw[JF];lia,?_⟩
   show⟨_,_,Z,aP (s4.upd nT) nG,(sb.trans (Sb.of ((aw.refl H4).upd nT))).set,qs++[T'],by rw[ag,JM];rfl,?_⟩
   rw[bp I,JM,<-Kl]
   show e_ (rg J (cg f nT)) (.cons ⟨u,b,by rw[aj F,ag],cg f nT _ _ M,?_⟩ .nil)
   change _>HO.tup ((sN g.R g.C (jA g.R g.C x.1)).map V.int)
   let ex:x.1=d:=by rw[d2]
   rw[ex,m3,<-m2,<-ex]
   show cg f nT _ _ O
  ·rintro σ H4 ⟨x5,x6,rfl,s4,sb,B⟩
   rw[JF,L,Kb] at B
   show⟨_,_,_,_,_,Z,s4,B,by rw[JQ,JF];lia,λm o w=>?_⟩
   rw[J3,p]
   constructor
   ·rintro(h|h)
    ·show⟨(),h.2⟩
    ·let⟨x,C,e⟩:=JL.mp h
     injection e with e1 e
     injection e with e2 e3
     subst e1 e2 e3
     show⟨(),JL.mpr ⟨x,(hx x).mp C,Z⟩⟩
   ·rintro⟨h1,h2⟩
    by_cases c:m<i
    ·show .inl ⟨c,h2⟩
    ·have:m=i:=by lia
     subst this
     let⟨x,C,e⟩:=JL.mp h2
     show .inr (JL.mpr ⟨x,(hx x).mpr C,by injection e with e1 e2;rw[<-e1,<-e2]⟩)
 ·rintro σ H' ⟨x3,x4,x5,x6,as,rfl,s,r,W,p⟩
  show st (cx ∅ (q H' G as s r () λm o w=>?_))
  rw[p]
  show⟨λh=>h.2,λh=>⟨?_,h⟩⟩
  have:=qE hg h
  rw[kL,Kd] at this
  show N4 this.1
theorem Dc:gE P w K mg O_ 1 "_law_far" Ed ["arcs", "pin"] yo:=by
 show rd ["arcs", "pin", "far", "kept", "one", "two", "price"] λnd _ _ _ _ _ H vs Q E hr h=>?_
 let⟨l,b,g,F,as,n,ok,rfl,⟨qs,hl,L⟩,ad,r,hn,hb,q⟩:=h
 show⟨_,(au (a9 2 nd (xH (aT.one hr) (aq 1) ao)) (au (a9 3 nd du) (aS (fH NN.never (cu (Do hr) (aq 2) (aq 3)) (aS (a9 3 nd (fO ip T.dict_ (aI (aq 2)))) (dq (aY (aq 0)) (cq Z (az (bw 4 nd) (az (bw 5 nd) (az (bw 6 nd) bB)))) (aW (m8 (fU (jD (aT.one hr) (aq 4) (aq 2))) (aS (a9 6 nd (aA bh (aq 6) (dF (aT.one hr) (aq 2) (aq 4) (λ_ _=>rfl)))) (dE (aT.one hr) (aq 2) (aq 5) (bW (gb Z) T.min_ (aF (aq 6) (df K7 K_ Lv (fh hr) (aq 2) (aF (aq 5) (aq 6))))) (by rfl))) h_))))) (aL (aq 2))))),?_⟩
 let ac:N9=2^24:=rfl
 let S:=ok.S
 let hM:=ok.M
 let hm:=ok.m
 let O:↑qs=↑as:=Nb.length L
 obtain⟨f0,av⟩:∃f0:Dj.Far,f0=λm=>if m=n then some 0 else none:=⟨_,Z⟩
 let r0:cS [(n,.int 0)] f0:=λm=>by
  rw[av]
  by_cases c:m=n
  ·rw[c,cf Z]
   change _=Option.map V.int (if n=n then some 0 else none)
   rw[N1 Z];rfl
  ·rw[bU (λz=>c z.symm)]
   change _=Option.map V.int (if m=n then some 0 else none)
   rw[N0 c];rfl
 let ha:∀a∈as,a.2.1<g.M/\0<=a.2.2:=λa h=>by
  have:=(r a.1 a.2.1 a.2.2).mp h
  show⟨(i_ ok this).1,kO ok F _ _ this⟩
 let R:∀a∈as,(a.2.1,a.2.2)∈(gG g F [n] ok).rows a.1:=λa h=>(r a.1 a.2.1 a.2.2).mp h
 let A:∀m p,f0 m>p->m=n/\p=0:=λm p e=>by
  rw[av] at e
  let e:(if m=n then some (0:Int) else none)>p:=e
  split at e
  ·show⟨by assumption,(Option.some.inj e).symm⟩
  ·cases e
 let M:Dj.Sup g.M f0:=by
  show⟨λm h=>?_,λm p h=>?_⟩
  ·let⟨p,hp⟩:=LU.mp h
   rw[(A m p hp).1];show hn
  ·rw[(A m p h).2];show Kt 0
 let p0:∀m p,f0 m>p->Dj.Pth (gG g F [n] ok) m p:=λm p e=>by
  rw[(A m p e).1,(A m p e).2]
  show .st (JJ.mpr Z)
 let⟨N,hN⟩:=Dj.goes_end ha _ _ f0 M (JG _) (JG _)
 show bF λd nd=>⟨_,Z,ag,b,iK (sN g.R g.C n),Z,f9 (aj (ai hb nd)<|hb),?_⟩
 rw[u3]
 let s1:aw H (Ob H d (.dT [(iK (sN g.R g.C n),.int 0)])):=(aw.refl H).upd nd
 let D:Ob H d (.dT [(iK (sN g.R g.C n),.int 0)]) d>.dT (bg g.R g.C [(n,.int 0)]):=ag
 revert s1 D
 generalize Ob H d (.dT [(iK (sN g.R g.C n),.int 0)])=H1
 intro s1 D
 show bF (vI λkd H2 s2 nk be=>?_)
 show⟨λm σ H'=>∃(i:Nat) (kd:N8) (x4 x5 x6:Option V) (Fr Kp:-(Nat×V)),σ=[some (.ref l),some (.ref b),some (.ref d),some (.ref kd),x4,x5,x6]/\m+i=N+1/\aw H H'/\H' d>.dT (bg g.R g.C Fr)/\H' kd>.dT (bg g.R g.C Kp)/\Tb g.M Fr/\cS Fr (Dj.goes as f0 i)/\((i=0/\Kp=[])\/∃j,i=j+1/\Tb g.M Kp/\cS Kp (Dj.goes as f0 j)),
  ⟨N+1,0,kd,none,none,none,_,[],Z,Z,s1.trans s2,s2 _ _ D,be,⟨by simp,λp hp=>by rw[JJ.mp hp];show hn⟩,r0,.inl ⟨Z,Z⟩⟩,?_⟩
 rintro m σ H' ⟨i,kd,x4,x5,x6,Fr,Kp,rfl,ab,s,hd,hk,tF,rF,hK⟩
 let X:↑(bg g.R g.C Fr)=↑(bg g.R g.C Kp)->∀p∈bg g.R g.C Fr,∃i j:Int,p.2=.int i/\aE (bg g.R g.C Kp) p.1>.int j:=λe=>by
  rcases hK with ⟨rfl,rfl⟩|⟨j,rfl,tK,rK⟩
  ·intro p hp
   have:=MH hp
   rw[e] at this;show absurd this (Ku 0)
  ·show Bo S tF tK rF rK (Dj.pass_low as _) e
 show⟨_,Z,_,Z,d,kd,_,_,Z,Z,.inl hd,.inl hk,X,_,Z,?_⟩
 change if (!D1 g.R g.C Fr Kp)=true then _ else _
 show Gy (λe=>?_) (λe=>?_)
 ·-- once more
  let e:D1 g.R g.C Fr Kp=false:=by simpa using e
  let lt:i<=N:=by
   rcases hK with ⟨rfl,rfl⟩|⟨j,rfl,tK,rK⟩
   ·show J4 _
   ·show Nat.lt_of_le_of_ne () λz=>?_
    let z:j=N:=by lia
    rw[z] at rK rF
    let rF:cS Fr (Dj.goes as f0 N):=by have:=rF;change cS Fr _;rw[<-hN];show this
    rw[E1 S tF tK rF rK] at e;cases e
  show⟨λa6 H'=>∃(kd:N8) (x4 x5 x6:Option V) (Fr Kp:-(Nat×V)),a6=[some (.ref l),some (.ref b),some (.ref d),some (.ref kd),x4,x5,x6]/\aw H H'/\H' d>.dT (bg g.R g.C Fr)/\H' kd>.dT (bg g.R g.C Kp)/\Tb g.M Fr/\cS Fr (Dj.goes as f0 (i+1))/\Tb g.M Kp/\cS Kp (Dj.goes as f0 i),λa6 H' bi=>by let⟨kd,x4,x5,x6,Fr,Kp,h1,h2,h3,h4,h5,h6,h7,h8⟩:=bi;show⟨m - 1,(),i+1,kd,x4,x5,x6,Fr,Kp,h1,(),h2,h3,h4,h5,h6,.inr ⟨i,Z,h7,h8⟩⟩,?_⟩
  show bF ⟨_,Z,d,Z,.inr ⟨_,.inl hd,iY S hM tF,λaf a7=>?_⟩⟩
  let s3:aw H' (Ob H' af (.dT (bg g.R g.C Fr))):=(aw.refl H').upd a7
  let C:Ob H' af (.dT (bg g.R g.C Fr)) af>.dT (bg g.R g.C Fr):=ag
  let W:af≠d:=JH (ai hd a7)
  revert s3 C
  generalize Ob H' af (.dT (bg g.R g.C Fr))=H3
  intro s3 C
  let Z0:=s3 _ _ hd
  let J:=s.trans s3
  show⟨_,Z,l,Z,⟨_,aN.of (J _ _ hl)⟩,?_⟩
  show aK (K:=K) (xs:=qs.map V.ref) (λj σ H'=>∃(x4 x5 x6:Option V) (Fj:-(Nat×V)),σ=[some (.ref l),some (.ref b),some (.ref d),some (.ref af),x4,x5,x6]/\aw H H'/\H' d>.dT (bg g.R g.C Fj)/\H' af>.dT (bg g.R g.C Fr)/\Tb g.M Fj/\cS Fj (Dj.pass (as.take j) (Dj.goes as f0 i)))
   ⟨_,_,_,Fr,Z,J,Z0,C,tF,rF⟩ (λj σ H' _ hz=>by let⟨_,_,_,_,_,s,_⟩:=hz;show aN.of (s _ _ hl)) ?_ ?_
  ·rintro j y σ H4 hy ⟨x4,x5,x6,Fj,rfl,s4,f,B,tj,rj⟩
   let⟨a,U,rfl⟩:=b_ hy
   let⟨⟨u,o,w⟩,hc,b1,b2,e1,e2,e3⟩:=fk L U
   let aa:=s4 _ _ e1
   let Y:mK g.R g.C H4 b1 u:=s4 _ _ e2
   let I:mK g.R g.C H4 b2 o:=s4 _ _ e3
   let g1:=dg (.inl f) Y
   let g2:=dg (.inl f) I
   rw[bP S,rj u] at g1
   rw[bP S,rj o] at g2
   let ho:=(ha _ (JY hc)).1
   let few:=tj.few
   rw[xX as j _ hc]
   show⟨a,_,Z,a_.of aa,Z,_,_,Z,_,_,Z,_,_,Z,Z,?_⟩
   show dI (ay (iL ∅ ∅ g1)) (λe=>?_) (λe=>?_)
   ·cases fu:Dj.pass (as.take j) (Dj.goes as f0 i) u with
    |none=>rw[fu] at e;cases e
    |some p=>
     rw[fu] at g1
     show cM (v:=.int (w+p)) (aR ∅ (dG (v:=.int p) ∅ ∅ g1)) ?_
     let em:(if ((Dj.pass (as.take j) (Dj.goes as f0 i) o).getD (w+p))<w+p then ((Dj.pass (as.take j) (Dj.goes as f0 i) o).getD (w+p)) else w+p)=Dj.low (w+p) (Dj.pass (as.take j) (Dj.goes as f0 i) o):=by
      cases Dj.pass (as.take j) (Dj.goes as f0 i) o with
      |none=>simp[Dj.low]
      |some x=>simp[Dj.low]
     let eg:((Dj.pass (as.take j) (Dj.goes as f0 i) o).map V.int).getD (.int (w+p))=.int ((Dj.pass (as.take j) (Dj.goes as f0 i) o).getD (w+p)):=by cases Dj.pass (as.take j) (Dj.goes as f0 i) o<;>rfl
     show kR (v:=.int (Dj.low (w+p) (Dj.pass (as.take j) (Dj.goes as f0 i) o))) (cI (ak ∅ (ak (fP (fT ∅ ∅ ∅ f g2) eg) ax)) λQ' q'=>⟨_,_,Z,em<|q'⟩) ∅ ∅ (fg.t (k:=iK (sN g.R g.C o)) f (f9 I) (by rw[bT];lia)) ?_
     show⟨_,_,_,_,Z,aP s4 nd,by rw[ag,eS S],aj W<|B,tj.put ho,?_⟩
     unfold Dj.rlx
     dsimp only
     rw[fu]
     show rj.put o _
   ·let fu:Dj.pass (as.take j) (Dj.goes as f0 i) u=none:=by
     cases fu:Dj.pass (as.take j) (Dj.goes as f0 i) u with
     |none=>rfl
     |some p=>rw[fu] at e;cases e
    show⟨_,_,_,Fj,Z,s4,f,B,tj,?_⟩
    unfold Dj.rlx
    dsimp only
    rw[fu]
    show rj
  ·rintro σ H4 ⟨x4,x5,x6,Fj,rfl,s4,f,B,tj,rj⟩
   rw[JF,O,Kb] at rj
   show⟨af,_,_,_,Fj,Fr,Z,s4,f,B,tj,rj,tF,rF⟩
 ·let e:D1 g.R g.C Fr Kp=true:=by simpa using e
  rcases hK with ⟨rfl,rfl⟩|⟨j,rfl,tK,rK⟩
  ·exfalso
   have:(n,V.int 0)∈Fr:=rF.mem (m:=n) (p:=0) (by change f0 n=_;rw[av];show N1 Z)
   let h1:=MH this
   unfold D1 at e
   rw[Kd,bT,bT] at e
   have:=e.1
   simp at this
   rw[this] at h1
   show absurd h1 (by decide)
  ·let es:=Az S tF rF rK (Dj.pass_low as _) e
   show st (cx ∅ (q H' d Fr _ s nd hd tF rF ?_))
   rw[es]
   show Dj.pass_fix (f0:=f0) (rN p0 R j) (qW as f0 j) (λa h=>by
    let h:a∈[(n,(0:Int))]:=h
    rw[JJ.mp h]
    show⟨0,av<|N1 Z,Kt 0⟩) (λm a h=>(r m a.1 a.2).mpr h) es
theorem yN:gE P w K mg O_ 1 "_law_links" AB ["pins", "fars"] vD:=by
 show rd ["pins", "fars", "links", "k", "j"] λnd _ _ _ _ _ H vs Q E hr h=>?_
 let⟨l,F,ns,ds,ts,fs,L,R,C,M,rfl,S,⟨as,hl,z⟩,h6,hF,I,q⟩:=h
 show⟨_,(au (a9 2 nd (bL cW)) (aS (dq (mS T.range_ (aI (bW bc T.len_ (aI (aq 0))))) (bw 3 nd) (aW (dq (nQ (by rfl) T.range_ (aF (aA bh (aq 3) ao) (bW bc T.len_ (aI (aq 0))))) (bw 4 nd) (aW (cK (fU (jD (aT.one hr) (aG aQ (aq 0) (aq 4)) (aG aQ (aq 1) (aq 3)))) (bj (df Kw KN KP bZ (aq 2) (aI (bG (aO (dF (aT.one hr) (aG aQ (aq 1) (aq 3)) (aG aQ (aq 0) (aq 4)) (λ_ _=>rfl)) (aF (aq 3) (aq 4)))))))))))) (aL (bW (iT hr) T.sorted_ (aI (aq 2)))))),?_⟩
 let J:N9=2^24:=rfl
 let len:↑as=ns.length:=by rw[Nb.length z,JF]
 show bF (eC [] ax (J4 _) λG H1 s1 nG X=>?_)
 show kN (j:=(ns.length:Nat)) (ak (cI (v:=.int (ns.length:Nat)) (ak ∅ ax) λQ' q'=>⟨_,ns.length,Z,.inl ⟨_,aN.of (s1 _ _ hl),by rw[JF,len]⟩,q'⟩) ax) () () ?_
 rw[Kv]
 show cO (n:=ns.length) (λi σ H'=>∃(x3 O:Option V) (bs:-N8),σ=[some (.ref l),some (.ref F),some (.ref G),x3,O]/\aw H H'/\H' G>.lst (bs.map V.ref)/\bH H' bs ((gK ns fs i).map tr)) ⟨none,none,[],Z,s1,X,.nil⟩ ?_ ?_
 ·rintro i σ H' hi ⟨x3,O,bs,rfl,s,hG,u⟩
  rw[LN]
  show gn ?_
  show vV (i:=(i:Int)+1) (j:=(ns.length:Nat)) (ak (aR ∅ aB) (ak (cI (v:=.int (ns.length:Nat)) (ak ∅ ax) λQ' q'=>⟨_,ns.length,Z,.inl ⟨_,aN.of (s _ _ hl),by rw[JF,len]⟩,q'⟩) ax)) ⟨(),(),(),()⟩ ?_
  rw[show((ns.length:Int) - ((i:Int)+1)).toNat=ns.length - (i+1) by lia]
  show cO (lo:=(i:Int)+1) (n:=ns.length - (i+1)) (λj σ H'=>∃(O:Option V) (bs:-N8),σ=[some (.ref l),some (.ref F),some (.ref G),some (.int (i:Int)),O]/\aw H H'/\H' G>.lst (bs.map V.ref)/\bH H' bs ((gK ns fs i++kC ns (fs i) i j).map tr)) ⟨_,bs,Z,s,hG,by change bH _ _ ((gK ns fs i++[]).map tr);rw[J6];show u⟩ ?_ ?_
  ·rintro j σ H2 hj ⟨O,bs,rfl,N,d,g⟩
   let D:i+1+j<ns.length:=by lia
   rw[show(i:Int)+1+(j:Int)=((i+1+j:Nat):Int) by lia]
   show gn ?_
   obtain⟨a,ha⟩:∃a,as[i+1+j]?>a:=⟨_,JU ()⟩
   let⟨c,Y,y⟩:=cn z ha
   rw[rh D Y] at y
   let hd:=hF.fs.ats i ()
   let U:=dg (.inl (N _ _ hd)) (N _ _ y)
   rw[bP S,(hF.ok i ()).2] at U
   let o:∀{σ:St},σ[0]?>some (.ref l)->σ[4]?>some (.int ((i+1+j:Nat):Int))->Ev (e9 (jF K) (bI 0) (bI 4)) σ H2 (.ref a):=λe1 e2=>bN (ae e1) (ae e2) (aN.of (N _ _ hl)) (eE ha)
   let r:∀{σ:St},σ[1]?>some (.ref F)->σ[3]?>some (.int (i:Int))->Ev (e9 (jF K) (bI 1) (bI 3)) σ H2 (.ref (ds.getD i 0)):=λe1 e2=>bN (ae e1) (ae e2) (aN.of (N _ _ hF.fs.hl)) (eE (ke ()))
   let bl:↑bs<=100:=by
    let h1:=Nb.length g
    let h2:=fE ns fs i
    let h3:=lI (ns:=ns) (f:=fs i) (k:=i) (m:=j)
    let h4:i*ns.length<=6*6:=Mb () h6
    rw[JF,JQ] at h1
    lia
   cases hf:fs i (ns.getD (i+1+j) 0) with
   |none=>
    rw[hf] at U
    show gY (ay (iL (o Z Z) (r Z Z) U)) Z ?_
    show⟨_,bs,Z,N,d,vp hf<|g⟩
   |some p=>
    rw[hf] at U
    show jL (ay (iL (o Z Z) (r Z Z) U)) Z ?_
    show⟨_,Z,.inl ⟨Z,_,aN.of d⟩,?_⟩
    show gX (vs:=[.int p,.int (i:Int),.int ((i+1+j:Nat):Int)]) (ak (dG (r Z Z) (o Z Z) U) (ak ∅ (ak ∅ ax))) (by change 3<=N9;decide) λT' nT=>?_
    let A:T'≠G:=JH (ai d nT)
    show⟨G,_,_,Z,Z,aj (JH A)<|d,by rw[JF];lia,?_⟩
    show⟨_,bs++[T'],Z,aP (N.upd nT) nG,by rw[ag,JM];rfl,?_⟩
    rw[uA hf,<-Kl,JM]
    show eV (aC g (cg d nT)) (.cons (by rw[aj A,ag];rfl) .nil)
  ·rintro σ H2 ⟨O,bs,rfl,N,d,g⟩
   show⟨_,_,bs,Z,N,d,jy<|g⟩
 ·rintro σ H' ⟨x3,O,bs,rfl,s,hG,u⟩
  let bl:↑bs<64:=by
   let h1:=Nb.length u
   let h2:=fE ns fs ns.length
   let h4:ns.length*ns.length<=6*6:=Mb h6 h6
   rw[JF] at h1
   lia
  show st (gZ ⟨_,Z,G,bs,_,Z,aN.of hG,u,(λc Y=>by let⟨x,_,rfl⟩:=JL.mp Y;show Ef x),bl,λl' Z0 a0 nl W pd sd=>?_⟩)
  let⟨ss,B,rfl⟩:=uR pd
  show q _ l' Z0 ss (s.upd nl) ag (aC W λb xs e=>by rw[aj (ai e nl)];show e) B sd
theorem Cf:gE P w K mg O_ 1 "links_between" D9 ["pins", "fars"] A7:=by
 show rd ["pins", "fars", "links", "one", "far", "other"] λnd _ _ _ _ _ H vs Q E hr h=>?_
 let⟨l,F,ns,ds,ts,fs,L,R,C,M,rfl,S,⟨as,hl,B⟩,h6,Z0,J,q⟩:=h
 show⟨_,(au (a9 2 nd (bL cW)) (aS (dq (yG (by rfl) T.enumerate_ oX (aI (aq 1))) (cq Z (az (bw 3 nd) (az (bw 4 nd) bB))) (aW (dq (nQ (by rfl) T.range_ (aF (aA bh (aq 3) ao) (bW bc T.len_ (aI (aq 0))))) (bw 5 nd) (aW (cK (fU (jD (aT.one hr) (aG aD (aq 0) (aq 5)) (aq 4))) (bj (df Kw KN KP bZ (aq 2) (aI (bG (aO (dF (aT.one hr) (aq 4) (aG aD (aq 0) (aq 5)) (λ_ _=>rfl)) (aF (aq 3) (aq 5)))))))))))) (aL (aq 2)))),?_⟩
 let N:N9=2^24:=rfl
 let len:↑as=ns.length:=by rw[Nb.length B,JF]
 show bF (eC [] ax (J4 _) λG H1 s1 nG aa=>?_)
 show⟨_,Z,F,Z,⟨_,aN.of (s1 _ _ Z0.fs.hl)⟩,?_⟩
 show w6 (K:=K) (xs:=ds.map V.ref) (λi σ H'=>∃(x3 x4 U:Option V) (bs:-N8),σ=[some (.ref l),some (.ref F),some (.ref G),x3,x4,U]/\aw H H'/\H' G>.lst (bs.map V.ref)/\bH H' bs ((gK ns fs i).map tr)) ⟨none,none,none,[],Z,s1,aa,.nil⟩ (λi σ H' _ hz=>by let⟨_,_,_,_,_,s,_⟩:=hz;show aN.of (s _ _ Z0.fs.hl)) ?_ ?_
 ·rintro i y p σ H' hy np ⟨x3,x4,U,bs,rfl,s,X,r⟩
  let⟨d,x,rfl⟩:=b_ hy
  let hi:i<↑ds:=(JX.mp x).1
  let ed:d=ds.getD i 0:=by rw[ke hi] at x;show(Option.some.inj x).symm
  let Y:aw H' (Ob H' p (.tup [.int ((i:Nat):Int),.ref d])):=(aw.refl H').upd np
  let z:Ob H' p (.tup [.int ((i:Nat):Int),.ref d]) p>.tup [.int ((i:Nat):Int),.ref d]:=ag
  revert Y z
  generalize Ob H' p (.tup [.int ((i:Nat):Int),.ref d])=H0
  intro Y z
  show⟨p,_,Z,a_.of z,Z,_,_,Z,_,_,Z,Z,?_⟩
  replace X:=Y _ _ X
  replace r:bH H0 bs ((gK ns fs i).map tr):=aC r λb xs e=>Y _ _ e
  replace s:=s.trans Y
  show vV (i:=(i:Int)+1) (j:=(ns.length:Nat)) (ak (aR ∅ aB) (ak (cI (v:=.int (ns.length:Nat)) (ak ∅ ax) λQ' q'=>⟨_,ns.length,Z,.inr ⟨_,a_.of (s _ _ hl),by rw[JF,len]⟩,q'⟩) ax)) ⟨(),(),(),()⟩ ?_
  rw[show((ns.length:Int) - ((i:Int)+1)).toNat=ns.length - (i+1) by lia]
  show cO (lo:=(i:Int)+1) (n:=ns.length - (i+1)) (λj σ H'=>∃(U:Option V) (bs:-N8),σ=[some (.ref l),some (.ref F),some (.ref G),some (.int (i:Int)),some (.ref d),U]/\aw H H'/\H' G>.lst (bs.map V.ref)/\bH H' bs ((gK ns fs i++kC ns (fs i) i j).map tr)) ⟨_,bs,Z,s,X,by change bH _ _ ((gK ns fs i++[]).map tr);rw[J6];show r⟩ ?_ ?_
  ·rintro j σ H2 hj ⟨U,bs,rfl,O,g,o⟩
   let I:i+1+j<ns.length:=by lia
   rw[show(i:Int)+1+(j:Int)=((i+1+j:Nat):Int) by lia]
   show gn ?_
   obtain⟨a,ha⟩:∃a,as[i+1+j]?>a:=⟨_,JU ()⟩
   let⟨c,hc,A⟩:=cn B ha
   rw[rh I hc] at A
   let hd:=Z0.fs.ats i hi
   rw[<-ed] at hd
   let W:=dg (.inl (O _ _ hd)) (O _ _ A)
   rw[bP S,(Z0.ok i hi).2] at W
   let u:∀{σ:St},σ[0]?>some (.ref l)->σ[5]?>some (.int ((i+1+j:Nat):Int))->Ev (e9 (lE K) (bI 0) (bI 5)) σ H2 (.ref a):=λe1 e2=>aJ (ae e1) (ae e2) (a_.of (O _ _ hl)) (eE ha)
   let bl:↑bs<=100:=by
    let h1:=Nb.length o
    let h2:=fE ns fs i
    let h3:=lI (ns:=ns) (f:=fs i) (k:=i) (m:=j)
    let h4:i*ns.length<=6*6:=Mb () h6
    rw[JF,JQ] at h1
    lia
   cases hf:fs i (ns.getD (i+1+j) 0) with
   |none=>
    rw[hf] at W
    show gY (ay (iL (u Z Z) ∅ W)) Z ?_
    show⟨_,bs,Z,O,g,vp hf<|o⟩
   |some p=>
    rw[hf] at W
    show jL (ay (iL (u Z Z) ∅ W)) Z ?_
    show⟨_,Z,.inl ⟨Z,_,aN.of g⟩,?_⟩
    show gX (vs:=[.int p,.int (i:Int),.int ((i+1+j:Nat):Int)]) (ak (dG ∅ (u Z Z) W) (ak ∅ (ak ∅ ax))) (by change 3<=N9;decide) λT' nT=>?_
    let D:T'≠G:=JH (ai g nT)
    show⟨G,_,_,Z,Z,aj (JH D)<|g,by rw[JF];lia,?_⟩
    show⟨_,bs++[T'],Z,aP (O.upd nT) nG,by rw[ag,JM];rfl,?_⟩
    rw[uA hf,<-Kl,JM]
    show eV (aC o (cg g nT)) (.cons (by rw[aj D,ag];rfl) .nil)
  ·rintro σ H2 ⟨U,bs,rfl,O,g,o⟩
   show⟨_,_,_,bs,Z,O,g,jy<|o⟩
 ·rintro σ H' ⟨x3,x4,U,bs,rfl,s,X,r⟩
  rw[JF,J] at r
  show st (cx ∅ (q _ G bs s X r))
theorem w9:gE P w K mg O_ 1 "_law_round" vR ["fars", "members", "born", "died"] sg:=by
 show rd ["fars", "members", "born", "died", "heights", "k", "spot", "level"] λnd _ _ _ _ _ H vs Q E hr h=>?_
 let⟨F,m,ds,ts,fs,ms,b,e,L,R,C,M,rfl,S,hM,hF,hm,m6,U,af,q⟩:=h
 show⟨_,(au (a9 4 nd du) (aS (dq (aY (aq 1)) (bw 5 nd) (aW (jM (dq (kK (aG aQ (aq 0) (aq 5))) (bw 6 nd) (aS (a9 7 nd (aA cL (bW (xf Z) T.min_ (aI (bL (aF (bW (wK Z) T.max_ (aI (bL (aF (aA cJ ao (dF (aT.one hr) (aG aQ (aq 0) (aq 5)) (aq 6) (λ_ _=>rfl))) (aq 2))))) (aq 3))))) (aq 2))) (cK (cu eO (aq 7) (aA cL (aq 3) (aq 2))) (dE (aT.one hr) (aq 4) (aq 6) (bW (gb Z) T.min_ (aF (aq 7) (df K7 K_ Lv (fh hr) (aq 4) (aF (aq 6) (aq 7))))) (by rfl)))))))) (aL (bG (aF (aA cL (aq 3) (aq 2)) (aq 4)))))),?_⟩
 let ah:N9=2^24:=rfl
 show bF (vI λhd H1 s1 nh a4=>?_)
 show⟨_,Z,m,Z,⟨_,aN.of (s1 _ _ hm)⟩,?_⟩
 show aK (K:=K) (xs:=nV ms) (λi σ H'=>∃(x5 x6 x7:Option V) (kv:-(Nat×V)),σ=[some (.ref F),some (.ref m),some (.int b),some (.int e),some (.ref hd),x5,x6,x7]/\aw H H'/\H' hd>.dT (bg R C kv)/\wN M b e ((ms.take i).map λk=>ts.getD k []).flatten kv)
  ⟨none,none,none,[],Z,s1,a4,wN.nil⟩ (λi σ H' _ hz=>by let⟨_,_,_,_,_,s,_⟩:=hz;show aN.of (s _ _ hm)) ?_ ?_
 ·rintro i x σ H' hx ⟨x5,x6,x7,kv,rfl,s,hh,J⟩
  let⟨k,hk,rfl⟩:=lh hx
  let D:=U k (JY hk)
  let g:=hF.fs.ats k D
  let⟨tb,fr⟩:=hF.ok k D
  let few:=tb.few
  show gn ?_
  generalize a6:ds.getD k 0=d at g
  let N:jT (ds.map V.ref) (k:Int)>.ref d:=by rw[<-a6];show eE (ke D)
  let Y:=s _ _ g
  let l:hd≠d:=λz=>by rw[<-z,nh] at g;cases g
  show⟨d,.dT (bg R C (ts.getD k [])),Y,trivial,λo=>?_⟩
  let nF:F≠d:=bz hF.fs.hl g (λz=>by cases z)
  let A:Ob H' d (.frz o (.dT (bg R C (ts.getD k [])))) F>.lst (ds.map V.ref):=aj nF<|s _ _ hF.fs.hl
  let f:Ob H' d (.frz o (.dT (bg R C (ts.getD k [])))) d>.frz o (.dT (bg R C (ts.getD k []))):=ag
  let B:Ob H' d (.frz o (.dT (bg R C (ts.getD k [])))) hd>.dT (bg R C kv):=aj l<|hh
  let bk:∀{H2:Hp},Sb hd (Ob H' d (.frz o (.dT (bg R C (ts.getD k []))))) H2->aw H (Ob H2 d (.dT (bg R C (ts.getD k [])))):=fun{H2} sb c u ec=>by
   by_cases z:c=d
   ·rw[z,g] at ec
    rw[z,ag];show ec
   ·rw[aj z]
    show sb _ _ (ai ec nh) (aj z<|s _ _ ec)
  revert A f B bk
  generalize Ob H' d (.frz o (.dT (bg R C (ts.getD k []))))=HF
  intro A f B bk
  show(bN (v:=.ref d) ∅ ∅ (aN.of A) N) _ ⟨d,o,_,Z,f,trivial,?_⟩
  show jd (λj σ H2=>∃(x6 x7:Option V) (kv:-(Nat×V)),σ=[some (.ref F),some (.ref m),some (.int b),some (.int e),some (.ref hd),some (.int (k:Int)),x6,x7]/\Sb hd HF H2/\H2 hd>.dT (bg R C kv)/\wN M b e (((ms.take i).map λk=>ts.getD k []).flatten++(ts.getD k []).take j) kv)
   ⟨_,_,kv,Z,Sb.refl hd HF,B,List.take_zero<|J6<|J⟩ (λj σ H2 _ hz=>by let⟨_,_,_,_,sb,_⟩:=hz;show sb _ _ (JH l) f) ?_ ?_
  ·rintro j x v σ H2 aa hj ⟨x6,x7,kv,rfl,sb,n,J2⟩
   let⟨y,a,hy,rfl,rfl,ha⟩:=Du aa
   let⟨p,ep,Z0⟩:=fr.int tb.nd (m:=y.1) (v:=y.2) (JY hy)
   let W:=tb.lt y (JY hy)
   let ad:=J2.tb.few
   let ab:=sb _ _ (JH l) f
   let ac:=sb _ _ (ai hF.fs.hl nh) A
   let gg:fX H2 d (.ref a) (some (.int p)):=by
    have:=dg (.inr ⟨o,ab⟩) ha
    rw[bP S,fr y.1,Z0] at this
    show this
   let gk:=dg (.inl n) ha
   rw[bP S,rW J2.it y.1] at gk
   show gn ?_
   let eP:y=(y.1,.int p):=by rw[<-ep]
   show bF (gH (Gn (a:=2*p) (b:=b) (c:=e) (cY aB (dG (v:=.int p) (bN (v:=.ref d) ∅ ∅ (aN.of ac) N) ∅ gg) (DZ (by decide) (by decide))) ∅ (λ_ _=>ae Z) λH4 ar=>⟨_,Z,_,_,Z,Z,?_⟩))
   let r:=ar _ _ n
   let I:mK R C H4 a y.1:=ar _ _ ha
   let X:fX H4 hd (.ref a) ((lC kv y.1).map V.int):=by
    have:=dg (.inl r) I
    rw[bP S,rW J2.it y.1] at this
    show this
   let O:Sb hd HF H4:=sb.trans (Sb.of ar)
   show dI (ay (aR ∅ (aR ∅ ∅))) (λc=>?_) (λc=>?_)
   ·let hl:=Ab (N4 c)
    let em:(if ((lC kv y.1).getD (min (max (2*p) b) e - b))<(min (max (2*p) b) e - b) then ((lC kv y.1).getD (min (max (2*p) b) e - b)) else (min (max (2*p) b) e - b))=Dj.low (min (max (2*p) b) e - b) (lC kv y.1):=by
     cases lC kv y.1 with
     |none=>simp[Dj.low]
     |some x=>simp[Dj.low]
    let eg:((lC kv y.1).map V.int).getD (.int (min (max (2*p) b) e - b))=.int ((lC kv y.1).getD (min (max (2*p) b) e - b)):=by cases lC kv y.1<;>rfl
    show kR (v:=.int (Dj.low (min (max (2*p) b) e - b) (lC kv y.1))) (cI (ak ∅ (ak (fP (fT ∅ ∅ ∅ r X) eg) ax)) λQ' q'=>⟨_,_,Z,em<|q'⟩) ∅ ∅ (fg.t (k:=iK (sN R C y.1)) r (f9 I) (by rw[bT];lia)) ?_
    show⟨_,_,_,Z,O.set,by rw[ag,eS S],?_⟩
    rw[bp hy,<-Kl,eP]
    show J2.put W hl
   ·show⟨_,_,kv,Z,O,r,?_⟩
    rw[bp hy,<-Kl,eP]
    show J2.stay (zt (N6 c))
  ·rintro σ H2 ⟨x6,x7,kv,rfl,sb,n,J2⟩
   show⟨sb _ _ (JH l) f,?_⟩
   show⟨_,_,_,kv,Z,bk sb,aj l<|n,?_⟩
   rw[show ko (.dT (bg R C (ts.getD k [])))=↑(ts.getD k []) from bT,Kb] at J2
   rw[bp hk,JM,List.flatten_append]
   simpa using J2
 ·rintro σ H' ⟨x5,x6,x7,kv,rfl,s,hh,J⟩
  rw[fI,Kb] at J
  let⟨r1,r2⟩:=J.hil λk hk=>hF.ok k (U k hk)
  show st (gZ (kH [.int (e - b),.ref hd] (ak (aR ∅ ∅) (ak ∅ ax)) (Ma Z) λt H2 s2 nt ht=>?_))
  show q H2 t (s.trans s2) ⟨hd,kv,_,ht,s2 _ _ hh,J.tb,r1,r2⟩
set_option maxHeartbeats 1000000 in
theorem Fz (ct:aU P w K mg O_ "_law_links" 1 ["pins", "fars"] vD)(cm:aU P w K mg O_ "_law_round" 1 ["fars", "members", "born", "died"] sg):gE P w K mg O_ 2 "_law_due" Hg ["pins", "fars"] Eg:=by
 show rd ["pins", "fars", "labels", "born", "whole", "hills", "price", "one", "two", "label", "members", "lost"] λnd _ _ _ _ _ H vs Q E hr h=>?_
 let⟨l,F,ns,ds,ts,fs,L,R,C,M,rfl,S,hM,⟨bb,hl,a4⟩,h6,hF,a7,q⟩:=h
 show⟨_,(au (a9 2 nd (fO (iy Z) T.list_ (aI (fO jX T.range_ (aI (bW bc T.len_ (aI (aq 0)))))))) (au (a9 3 nd (aA F1 (bL (aI ao)) (bW bc T.len_ (aI (aq 0))))) (au (a9 4 nd ao) (au (a9 5 nd (bL cW)) (aS (dq (aY (bR ct hr (aF (aq 0) (aq 1)))) (cq Z (az (bw 6 nd) (az (bw 7 nd) (az (bw 8 nd) bB)))) (aW (m8 (cu iw (aG aQ (aq 2) (aq 7)) (aG aQ (aq 2) (aq 8))) (au (dq (aY (bL (aF (aG aQ (aq 2) (aq 7)) (aG aQ (aq 2) (aq 8))))) (bw 9 nd) (aS (rS 10 ["k"] ["label", "labels"] [9,2] nd (mS T.range_ (aI (bW bc T.len_ (aI (aq 0))))) (eM 0) (iJ (cu eZ (aG (jv (K:=K) Z) (aq 2) (aq 0)) (aq 1))) (aq 0)) (cK (cu eO (aG aQ (aq 3) (aq 9)) (aq 6)) (bj (df Kw KN KP bZ (aq 5) (aI (bR cm hr (aO (aq 1) (aO (aq 10) (aF (aG aQ (aq 3) (aq 9)) (aq 6))))))))))) (au (a9 11 nd (aG aQ (aq 2) (aq 8))) (au (a9 2 nd (jb ["label"] ["lost", "labels", "one"] [11,2,7] (aY (aq 2)) (eM 0) dQ (jt (cu eZ (aq 0) (aq 1)) (aG (jv (K:=K) Z) (aq 2) (aq 3)) (aq 0)))) (aS (eK (aq 6) (g0 (aq 3) (aG aQ (aq 2) (aq 7)) eW)) (a9 4 nd (aA bh (aq 4) (aq 6))))))) h_))) (aL (bG (aF (aq 4) (aq 5))))))))),?_⟩
 let cd:N9=2^24:=rfl
 let len:↑bb=ns.length:=by rw[Nb.length a4,JF]
 generalize hn:ns.length=n at len
 let be:∀{H':Hp} {Q':VK},aw H H'->Q' (.int (n:Nat)) H'->∃x m,[V.ref l]=[x]/\CI K x H' m/\Q' (.int m) H':=λs' q'=>⟨_,n,Z,.inl ⟨_,aN.of (s' _ _ hl),by rw[JF,len]⟩,q'⟩
 show bF ⟨_,Z,_,n,Z,.inl ⟨_,aN.of hl,by rw[JF,len]⟩,_,Z,λr nr=>⟨r,0,(n:Nat),Z,ag,⟨by decide,by decide,(),()⟩,(),λlb dl=>?_⟩⟩
 let s1:aw H (Ob (Ob H r (.rng 0 (n:Nat))) lb (.lst ((List.range (((n:Nat):Int) - 0).toNat).map λ(i:Nat)=>V.int (0+(i:Int))))):=((aw.refl H).upd nr).upd dl
 let N:Ob (Ob H r (.rng 0 (n:Nat))) lb (.lst ((List.range (((n:Nat):Int) - 0).toNat).map λ(i:Nat)=>V.int (0+(i:Int)))) lb>.lst (Bh n id):=by rw[ag,EO];rfl
 revert s1 N
 generalize Ob (Ob H r (.rng 0 (n:Nat))) lb (.lst ((List.range (((n:Nat):Int) - 0).toNat).map λ(i:Nat)=>V.int (0+(i:Int))))=H1
 intro s1 N
 show bF (gH (eC [.int 0] (ak aB ax) (Ma Z) λz H2 s2 nz hz=>⟨_,Z,_,n,Z,.inl ⟨_,aN.of (s2 _ _ (s1 _ _ hl)),by rw[JF,len]⟩,z,_,_,Z,Z,hz,(),(),by rw[Kv];change 1*n<=_;lia,λbo c0=>?_⟩))
 rw[Kv,Ak]
 let s3:aw H2 (Ob H2 bo (.lst (mX n λ_=>0))):=(aw.refl H2).upd c0
 let B:Ob H2 bo (.lst (mX n λ_=>0)) bo>.lst (mX n λ_=>0):=ag
 let bl:lb≠bo:=ai (s2 _ _ N) c0
 revert s3 B
 generalize Ob H2 bo (.lst (mX n λ_=>0))=H3
 intro s3 B
 show cM aB ?_
 show bF (eC [] ax (J4 _) λhi H4 s4 c4 dc=>?_)
 let a1:=((s1.trans s2).trans s3).trans s4
 let bd:H bo=none:=dD (s1.trans s2) c0
 let bu:H hi=none:=dD ((s1.trans s2).trans s3) c4
 let b7:H lb=none:=dD ((aw.refl H).upd nr) dl
 let ap:bo≠hi:=ai B c4
 let bv:lb≠hi:=ai (s3 _ _ (s2 _ _ N)) c4
 show Cy (K:=K) (ak ∅ (ak ∅ ax)) ⟨l,F,ns,ds,ts,fs,L,R,C,M,Z,S,jg.same ⟨bb,hl,a4⟩ a1,h6,hF.same a1,a7,λH5 ll bs ss s5 cj dv cF ee=>⟨ll,Z,⟨_,aN.of cj⟩,?_⟩⟩
 let b5:=a1.trans s5
 let bi:↑bs=↑ss:=by rw[Nb.length dv,JF]
 let b8:↑ss<=36:=by
  rw[cF.length_eq]
  let h1:=fE ns fs ns.length
  let h2:ns.length*ns.length<=6*6:=Mb h6 h6
  lia
 let b3:∀c∈ss,c.2.1<n/\c.2.2<n:=λc hc=>by
  have:=ig (cF.mem_iff.mp hc)
  rw[hn] at this
  show⟨this.1,this.2.1⟩
 let ca:∀{a:N8} {o:HO},H4 a>o->(∀xs,o≠.lst xs)->True:=λ_ _=>trivial
 show aK (K:=K) (xs:=bs.map V.ref) (λi σ H'=>∃(lb:N8) (x6 x7 x8 x9 I af:Option V) (rep:Nat->Nat) (bn:Nat->Int) (as:-N8) (X:-((Nat->Prop)×Int×Int)) (wh:Int),σ=[some (.ref l),some (.ref F),some (.ref lb),some (.ref bo),some (.int wh),some (.ref hi),x6,x7,x8,x9,I,af]/\DJ R C M n fs ss H H' bo hi lb i rep bn as X wh/\H' ll>.lst (bs.map V.ref)/\bH H' bs (ss.map tr)/\lb≠bo/\lb≠hi)
  ⟨lb,none,none,none,none,none,none,id,λ_=>0,[],[],0,Z,⟨b5,s5 _ _ (s4 _ _ (s3 _ _ (s2 _ _ N))),s5 _ _ (s4 _ _ B),s5 _ _ dc,.nil,Z,by rw[LN];rfl,λk hk=>hk,JG _⟩,cj,dv,bl,bv⟩ (λi σ H' _ hz=>by let⟨_,_,_,_,_,_,_,_,_,_,_,_,_,_,e,_⟩:=hz;show aN.of e) ?_ ?_
 ·rintro i x σ H' hx ⟨lb,x6,x7,x8,x9,I,af,rep,bn,as,X,wh,rfl,J,ad,W,n1,n2⟩
  let⟨a,ha,rfl⟩:=b_ hx
  let⟨c',a3,bA⟩:=cn W ha
  rw[JV] at a3
  let⟨c,hc,rfl⟩:=Kc.mp a3
  let⟨p,o,w⟩:=c
  let a5:i<↑ss:=(JX.mp hc).1
  let ah:ss.drop i=(p,o,w)::ss.drop (i+1):=by
   rw[JU a5] at hc
   rw[MA a5,Option.some.inj hc]
  obtain⟨ho,hw⟩:o<n/\w<n:=b3 _ (JY hc)
  let lo:=J.lt o ho
  let lw:=J.lt w hw
  let al:=J.al
  show⟨a,_,Z,a_.of bA,Z,_,_,Z,_,_,Z,_,_,Z,Z,?_⟩
  let ac:∀{σ:St} {H':Hp} {k v:Nat},σ[2]?>some (.ref lb)->σ[k]?>some (.int (v:Int))->v<n->H' lb>.lst (Bh n rep)->Ev (e9 (jF K) (bI 2) (bI k)) σ H' (.int (rep v:Nat)):=λe1 e2 h e3=>bN (ae e1) (ae e2) (aN.of e3) (ph h)
  show dI (ay (gz (ac (v:=o) Z Z ho J.lb) (ac (v:=w) Z Z hw J.lb))) (λe=>?_) (λe=>?_)
  ·let ne:rep o≠rep w:=λz=>by rw[z] at e;simp at e
   show cG λR0 d3=>?_
   show vy (vs:=[.int (rep o:Nat),.int (rep w:Nat)]) (ak (ac (v:=o) Z Z ho J.lb) (ak (ac (v:=w) Z Z hw J.lb) ax)) (by change 2<=N9;decide) λp2 dn=>⟨p2,Z,⟨_,aN.of ag⟩,?_⟩
   let s6:aw H' (Ob H' p2 (.lst [.int (rep o:Nat),.int (rep w:Nat)])):=(aw.refl H').upd dn
   let an:Ob H' p2 (.lst [.int (rep o:Nat),.int (rep w:Nat)]) p2>.lst [.int (rep o:Nat),.int (rep w:Nat)]:=ag
   let bm:p2≠hi:=JH (ai J.hl dn)
   revert s6 an
   generalize Ob H' p2 (.lst [.int (rep o:Nat),.int (rep w:Nat)])=H6
   intro s6 an
   let bf:ll≠hi:=λz=>by
    rw[z,s5 _ _ dc] at cj
    have:=Option.some.inj cj
    injection this with this
    let b1:bs=[]:=by cases bs with|nil=>rfl|cons _ _=>cases this
    rw[b1] at ha;cases ha
   show aK (K:=K) (xs:=[.int (rep o:Nat),.int (rep w:Nat)]) (λj σ H'=>∃(x9 I:Option V) (as:-N8),σ=[some (.ref l),some (.ref F),some (.ref lb),some (.ref bo),some (.int wh),some (.ref hi),some (.int p),some (.int (o:Int)),some (.int (w:Int)),x9,I,af]/\aw H H'/\H' lb>.lst (Bh n rep)/\H' bo>.lst (mX n bn)/\H' hi>.lst (as.map V.ref)/\Nb (gN R C M fs H') as ((X++wB rep bn (p,o,w) j).map (wR n))/\↑as<=2*i+j/\H' p2>.lst [.int (rep o:Nat),.int (rep w:Nat)]/\H' ll>.lst (bs.map V.ref)/\bH H' bs (ss.map tr))
    ⟨_,_,as,Z,J.s.trans s6,s6 _ _ J.lb,s6 _ _ J.bo,s6 _ _ J.hl,by change Nb _ _ ((X++[]).map _);rw[J6];show b9 J.hs (λb ys e=>s6 _ _ e) (λb ys e=>s6 _ _ e),(),an,s6 _ _ ad,aC W λb xs e=>s6 _ _ e⟩ (λi σ H' _ hz=>by let⟨_,_,_,_,_,_,_,_,_,_,e,_⟩:=hz;show aN.of e) ?_ ?_
   ·rintro j u σ H7 hu ⟨x9,I,as,rfl,s7,g,aa,Y,a0,b6,a2,ab,Z0⟩
    obtain⟨v,rfl,hv,hj⟩:∃v:Nat,u=.int (v:Nat)/\v<n/\wB rep bn (p,o,w) (j+1)=wB rep bn (p,o,w) j++xS rep bn p v:=by
     rcases mE hu with ⟨rfl,z⟩|⟨rfl,z⟩
     ·show⟨rep o,z,lo,Z⟩
     ·show⟨rep w,z,lw,Z⟩
    let cc:j<2:=(JX.mp hu).1
    show gn ?_
    show kZ (j:=(n:Nat)) (ak (cI (v:=.int (n:Nat)) (ak ∅ ax) λQ' q'=>be s7 q') ax) () () λD nD=>?_
    rw[Kv]
    show cO (λm τ H'=>∃x0:Option V,τ=[x0,some (.int (v:Nat)),some (.ref lb)]/\aw H7 H'/\H' D>.lst (nV ((List.range m).filter λk=>decide (rep k=v)))) ⟨none,Z,(aw.refl H7).upd nD,ag⟩ ?_ ?_
    ·rintro m τ H8 hm ⟨x0,rfl,s8,A⟩
     rw[LN]
     show gn ?_
     show ay (dR (bN ∅ ∅ (aN.of (s8 _ _ g)) (ph hm)) ∅) _ ?_
     rw[tQ (n:=n) hm]
     by_cases c:rep m=v
     ·rw[N3 (by rw[c]),N1 c]
      show gT ⟨_,Z,_,A,?_,_,Z,aP s8 nD,?_⟩
      ·rw[fI]
       have:=Lf (λk=>decide (rep k=v)) (List.range m)
       rw[Kz] at this
       lia
      ·rw[ag];unfold nV;rw[JM];rfl
     ·rw[N5 (),N0 c,J6]
      show fN ⟨_,Z,s8,A⟩
    rintro τ H8 ⟨x0,rfl,s8,A⟩
    try dsimp only[List.set]
    let ar:=s7.trans s8
    let y:=s8 _ _ aa
    let O:=s8 _ _ Y
    let bE:∀{σ:St} {H':Hp},σ[3]?>some (.ref bo)->σ[9]?>some (.int (v:Int))->H' bo>.lst (mX n bn)->Ev (e9 (jF K) (bI 3) (bI 9)) σ H' (.int (bn v)):=λe1 e2 e3=>bN (ae e1) (ae e2) (aN.of e3) (EC hv)
    let av:Nb (gN R C M fs H8) as ((X++wB rep bn (p,o,w) j).map (wR n)):=b9 a0 (λb ys e=>s8 _ _ e) (λb ys e=>s8 _ _ e)
    show dI (ay (aR (bE Z Z y) ∅)) (λe=>?_) (λe=>?_)
    ·let e:=N4 e
     let ba:∀k,k∈(List.range n).filter (λk=>decide (rep k=v))↔k<n/\rep k=v:=λk=>by simp[KZ]
     show⟨_,Z,.inl ⟨Z,_,aN.of O⟩,?_⟩
     show cw (ak ∅ (ak ∅ (ak (bE Z Z y) (ak ∅ ax)))) ⟨F,D,ds,ts,fs,_,bn v,p,L,R,C,M,Z,S,hM,hF.same ar,A,?_,λk hk=>by rw[a7,hn];show((ba k).mp hk).1,e,λH9 t s9 el=>?_⟩
     ·have:=Lf (λk=>decide (rep k=v)) (List.range n)
      rw[Kz] at this
      lia
     let U:=s9 _ _ O
     show⟨hi,_,_,Z,Z,U,by rw[JF];lia,?_⟩
     let kt:∀b ys,H8 b>.tup ys->Ob H9 hi (.lst (as.map V.ref++[.ref t])) b>.tup ys:=λb ys e=>aV U _ _ (s9 _ _ e)
     let⟨d,kv,f,e1,e2,e3,e4,e5⟩:=el
     let am:∀{b:N8} {o:HO},H8 b>o->b≠hi->Ob H9 hi (.lst (as.map V.ref++[.ref t])) b>o:=λe n=>by rw[aj n];show s9 _ _ e
     show⟨_,_,as++[t],Z,aP (ar.trans s9) bu,am (s8 _ _ g) n2,am y ap,by rw[ag,JM];rfl,?_,by rw[JQ];change ↑as+1<=_;lia,am (s8 _ _ a2) bm,am (s8 _ _ ab) bf,aC Z0 λb xs e=>kt _ _ (s8 _ _ e)⟩
     rw[hj,<-Kl,JM]
     show e_ (b9 av kt (λb ys e=>cD U _ _ (s9 _ _ e))) ?_
     unfold xS
     rw[N1 e]
     show .cons ⟨d,kv,f,aV U _ _ e1,cD U _ _ e2,e3,e4,e5.cong ba⟩ .nil
    ·let e:=N6 e
     show⟨_,_,as,Z,ar,s8 _ _ g,y,O,?_,(),s8 _ _ a2,s8 _ _ ab,aC Z0 λb xs e=>s8 _ _ e⟩
     rw[hj]
     unfold xS
     rw[N0 e,J6]
     show av
   rintro σ H7 ⟨x9,I,as,rfl,s7,g,aa,Y,a0,b6,a2,ab,Z0⟩
   show d3 _ _ ?_
   show cM (v:=.int (rep w:Nat)) (ac (v:=w) Z Z hw g) ?_
   show cG λR1 d6=>?_
   show⟨_,Z,lb,Z,⟨_,aN.of g⟩,λD nD=>?_⟩
   show aK (K:=K) (xs:=Bh n rep) (λm τ H'=>∃x0:Option V,τ=[x0,some (.int (rep w:Nat)),some (.ref lb),some (.int (o:Int))]/\aw H7 H'/\H' D>.lst ((Bh n (bO rep o w)).take m)) ⟨none,Z,(aw.refl H7).upd nD,ag⟩ (λm τ H' _ hz=>by let⟨_,_,s,_⟩:=hz;show aN.of (s _ _ g)) ?_ ?_
   ·rintro m x τ H8 hx ⟨x0,rfl,s8,A⟩
    let⟨v,hv,rfl⟩:=lh hx
    let hm:m<n:=by
     have:=(JX.mp hv).1
     rwa [JF,Kz] at this
    let b4:v=rep m:=by
     rw[JV,List.getElem?_range hm] at hv
     show(Option.some.inj hv).symm
    subst b4
    show gn (fK ?_)
    show(GW (c:=decide (rep m=rep w)) (v:=.int (bO rep o w m:Nat)) (c9 (ay (dR ∅ ∅)) (by rw[Ly];simp only[decide_eq_true_eq];lia)) (λe=>?_) (λe=>?_)) _ ⟨_,A,?_,_,Z,aP s8 nD,?_⟩
    ·let e:=N4 e
     unfold bO
     rw[N1 e]
     show bN ∅ ∅ (aN.of (s8 _ _ g)) (ph ho)
    ·let e:=N6 e
     unfold bO
     rw[N0 e]
     show ae Z
    ·rw[KH,p7];lia
    ·rw[ag]
     congr 2
     show(BD hm).symm
   rintro τ H8 ⟨x0,rfl,s8,A⟩
   rw[p7,show(Bh n (bO rep o w)).take n=Bh n (bO rep o w) by rw[Mn];rw[p7];show JG n] at A
   show d6 _ _ ?_
   let y:=s8 _ _ aa
   let O:=s8 _ _ Y
   let jo:bO rep o w o=rep o:=by unfold bO;rw[N0 ne]
   let a6:D≠bo:=JH (ai aa nD)
   let bD:D≠hi:=JH (ai Y nD)
   show DB (v:=.int p) ∅ ?_
   show⟨_,Z,?_⟩
   show(bN (v:=.int (bO rep o w o:Nat)) ∅ ∅ (aN.of A) (ph ho)) _ ?_
   rw[jo]
   show⟨bo,_,_,rep o,Z,Z,y,CA<|fi lo,?_⟩
   rw[CZ]
   let bx:ll≠bo:=λz=>by
    rw[z,s5 _ _ (s4 _ _ B)] at cj
    have:=Option.some.inj cj
    injection this with this
    cases bs with
    |nil=>cases ha
    |cons b0 br=>
     cases n with
     |zero=>show absurd ho (KJ _)
     |succ n=>
      unfold mX at this
      rw[List.range_succ_eq_map] at this
      cases this
   let kl:∀{b:N8} {u:HO},H8 b>u->b≠bo->Ob H8 bo (.lst (mX n (yb bn (rep o) p))) b>u:=λe n=>by rw[aj n];show e
   let kt:∀b ys,H7 b>.tup ys->Ob H8 bo (.lst (mX n (yb bn (rep o) p))) b>.tup ys:=λb ys e=>aV y _ _ (s8 _ _ e)
   let kd:∀b ys,H7 b>.dT ys->Ob H8 bo (.lst (mX n (yb bn (rep o) p))) b>.dT ys:=λb ys e=>cD y _ _ (s8 _ _ e)
   show lB (v:=.int (wh+p)) (aR ∅ ∅) ?_
   show⟨D,_,_,_,_,_,_,bO rep o w,yb bn (rep o) p,as,X++wB rep bn (p,o,w) 2,wh+p,Z,⟨aP (s7.trans s8) bd,kl A a6,ag,kl O (JH ap),b9 a0 kt kd,?_,?_,λk hk=>?_,by first|omega⟩,kl (s8 _ _ ab) bx,aC Z0 kt,a6,bD⟩
   ·have:=J.ht
    rw[ah,xv (c:=(p,o,w)) ne] at this
    rw[Kl];show this
   ·have:=J.wh
    rw[ah,show kr rep ((p,o,w)::ss.drop (i+1))=(p,o,w)::kr (bO rep o w) (ss.drop (i+1)) from N0 ne,show eX ((p,o,w)::kr (bO rep o w) (ss.drop (i+1)))=p+eX (kr (bO rep o w) (ss.drop (i+1))) from KI] at this
    lia
   ·unfold bO
    split
    ·show lo
    ·show J.lt k hk
  ·let eq:rep o=rep w:=by
    have:=N4 (by simpa using e:decide ((rep o:Int)=(rep w:Int))=true)
    lia
   show⟨lb,_,_,_,_,_,_,rep,bn,as,X,wh,Z,⟨J.s,J.lb,J.bo,J.hl,J.hs,?_,?_,J.lt,()⟩,ad,W,n1,n2⟩
   ·have:=J.ht
    rw[ah,show kB rep bn ((p,o,w)::ss.drop (i+1))=kB rep bn (ss.drop (i+1)) from N1 eq] at this
    show this
   ·have:=J.wh
    rw[ah,show kr rep ((p,o,w)::ss.drop (i+1))=kr rep (ss.drop (i+1)) from N1 eq] at this
    show this
 ·rintro σ H' ⟨lb,x6,x7,x8,x9,I,af,rep,bn,as,X,wh,rfl,J,ad,W,n1,n2⟩
  rw[JF,bi] at J
  show st (gZ (kH [.int wh,.ref hi] (ak ∅ (ak ∅ ax)) (Ma Z) λt H9 s9 nt ht=>?_))
  let hw:=J.wh
  let hh:=J.ht
  rw[List.drop_length] at hw hh
  let hw:wh=eX (kr id ss):=by rw[<-hw];change wh=wh+0;lia
  let hh:X=kB id (λ_=>0) ss:=by rw[<-hh];change X=X++[];rw[J6]
  show q H9 t hi as ss (J.s.trans s9) (by rw[<-hw];show ht) (s9 _ _ J.hl) ?_ cF ee
  rw[<-hh,hn]
  show b9 J.hs (λb ys e=>s9 _ _ e) (λb ys e=>s9 _ _ e)
set_option maxHeartbeats 1000000 in
theorem F9 (ct:aU P w K mg O_ "hill_round" 1 ["far", "born", "died"] rL)(dp:aU P w K mg O_ "least_far" 1 ["fars"] Em):gE P w K mg O_ 2 "hills_round" GY ["fars", "links"] Er:=by
 show rd ["fars", "links", "hills", "parts", "price", "one", "other", "born", "places", "place"] λnd _ _ _ _ _ H vs Q E hr h=>?_
 let⟨F,l,ds,ts,fs,bm,ls,L,R,C,M,rfl,S,hM,hF,d6,hl,bf,bd,jk,cd,q⟩:=h
 show⟨_,(au (a9 2 nd (bL cW)) (au (rS 3 ["place"] [] [] nd (mS T.range_ (aI (bW bc T.len_ (aI (aq 0))))) (eM 0) dQ (bG (aF ao (bL (aI (aq 0)))))) (aS (dq (aY (aq 1)) (cq Z (az (bw 4 nd) (az (bw 5 nd) (az (bw 6 nd) bB)))) (au (dq (aY (bL (aF (aG aQ (aq 3) (aq 5)) (aG aQ (aq 3) (aq 6))))) (cq Z (az (bw 7 nd) (az (bw 8 nd) bB))) (aW (cK (cu eO (aq 7) (aq 4)) (bj (df Kw KN KP bZ (aq 2) (aI (bR ct hr (aO (bR dp hr (aI (jb ["place"] ["fars"] [0] (aY (aq 8)) (eM 0) dQ (aG (jv (K:=K) Z) (aq 1) (aq 0))))) (aF (aq 7) (aq 4)))))))))) (aS (a9 8 nd (aA Fu (aG aD (aG aQ (aq 3) (aq 5)) ao) (aG aD (aG aQ (aq 3) (aq 6)) ao))) (dq (aY (aq 8)) (bw 9 nd) (aW (eK (bG (aF (aq 4) (aq 8))) (g0 (aq 3) (aq 9) eW))))))) (aL (aq 2))))),?_⟩
 let cj:N9=2^24:=rfl
 let ar:↑bm=↑ls:=by rw[Nb.length bf,JF]
 obtain⟨n,hn⟩:∃n,↑ds=n:=⟨_,Z⟩
 rw[hn] at bd d6
 show bF (eC [] ax (J4 _) λG H1 s1 nG c1=>?_)
 show kZ (j:=(n:Nat)) (ak (cI (v:=.int (n:Nat)) (ak ∅ ax) λQ' q'=>⟨_,n,Z,.inl ⟨_,aN.of (s1 _ _ hF.fs.hl),by rw[JF,hn]⟩,q'⟩) ax) () () λD nD=>?_
 rw[Kv]
 let bi:G≠D:=ai c1 nD
 show cO (λi τ H'=>∃(x0:Option V) (as:-N8),τ=[x0]/\aw H1 H'/\H' D>.lst (as.map V.ref)/\↑as=i/\FB G D H' as λi=>(0,[i])) ⟨none,[],Z,(aw.refl H1).upd nD,ag,Z,λi hi=>absurd hi (KJ i)⟩ ?_ ?_
 ·rintro i τ H2 hi ⟨x0,as,rfl,s2,hD,I,af⟩
  rw[LN]
  show gn (fK ?_)
  show⟨_,Z,by change 1<=N9;decide,λu nu=>⟨by change 2<=N9;decide,λt nt=>?_⟩⟩
  let s3:aw H2 (Ob (Ob H2 u (.lst [.int (i:Int)])) t (.tup [.int 0,.ref u])):=((aw.refl H2).upd nu).upd nt
  let ht:Ob (Ob H2 u (.lst [.int (i:Int)])) t (.tup [.int 0,.ref u]) t>.tup [.int 0,.ref u]:=ag
  let hu:Ob (Ob H2 u (.lst [.int (i:Int)])) t (.tup [.int 0,.ref u]) u>.lst (nV [i]):=aj (ai ag nt)<|ag
  let bv:u≠D:=JH (ai hD nu)
  let ca:u≠G:=JH (ai (s2 _ _ c1) nu)
  revert s3 ht hu
  generalize Ob (Ob H2 u (.lst [.int (i:Int)])) t (.tup [.int 0,.ref u])=H3
  intro s3 ht hu
  let a6:=s3 _ _ hD
  show⟨_,a6,by rw[JF];lia,_,as++[t],Z,aP (s2.trans s3) nD,by rw[ag,JM];rfl,by rw[JQ,I];rfl,λk hk=>?_⟩
  rw[JQ] at hk
  by_cases c:k<↑as
  ·let⟨u',n1,n2,e1,e2⟩:=af k c
   show⟨u',n1,n2,?_,aj n2<|s3 _ _ e2⟩
   rw[JS,K3 c,<-JS]
   show aV a6 _ _ (s3 _ _ e1)
  ·let b5:k=↑as:=by have:k<↑as+1:=hk;lia
   subst b5
   show⟨u,ca,bv,?_,aj bv<|I<|hu⟩
   rw[JS,Ll (JG _),Nat.sub_self]
   show aV a6 _ _ ht
 rintro τ H2 ⟨x0,as,rfl,s2,hD,I,af⟩
 try dsimp only[List.set]
 let a0:=s1.trans s2
 let b6:H D=none:=dD s1 nD
 show⟨_,Z,l,Z,⟨_,aN.of (a0 _ _ hl)⟩,?_⟩
 show aK (K:=K) (xs:=bm.map V.ref) (λi σ H'=>∃(x4 x5 x6 x7 x8 x9:Option V) (rep:Nat->Nat) (bn:Nat->Int) (P:qc) (as bs:-N8) (X:-(-Nat×Int×Int)),σ=[some (.ref F),some (.ref l),some (.ref G),some (.ref D),x4,x5,x6,x7,x8,x9]/\HJ R C M n fs ls H H' G D i rep bn P as bs X)
  ⟨none,none,none,none,none,none,id,λ_=>0,λi=>(0,[i]),as,[],[],Z,⟨a0,hD,I,af,s2 _ _ c1,.nil,Z,mH.start n,λi _=>by simp,jk,JG _⟩⟩ (λi σ H' _ hz=>by let⟨_,_,_,_,_,_,_,_,_,_,_,_,_,J⟩:=hz;show aN.of (J.s _ _ hl)) ?_ ?_
 ·clear hD I af s2 a0
  rintro i x σ H' hx ⟨x4,x5,x6,x7,x8,x9,rep,bn,P,as,bs,X,rfl,J⟩
  let⟨a,ha,rfl⟩:=b_ hx
  let⟨c',bb,b0⟩:=cn bf ha
  rw[JV] at bb
  let⟨c,hc,rfl⟩:=Kc.mp bb
  let⟨p,o,w⟩:=c
  let bo:i<↑ls:=(JX.mp hc).1
  let be:ls.drop i=(p,o,w)::ls.drop (i+1):=by
   rw[JU bo] at hc
   rw[MA bo,Option.some.inj hc]
  obtain⟨ho,hw⟩:o<n/\w<n:=bd _ (JY hc)
  let jk:=J.jk
  rw[be] at jk
  obtain⟨ne,jk⟩:rep o≠rep w/\Gu (bO rep o w) (ls.drop (i+1)):=jk
  let bl:=J.bl
  let I:=J.al
  show⟨a,_,Z,a_.of (J.s _ _ b0),Z,_,_,Z,_,_,Z,_,_,Z,Z,?_⟩
  let an:∀{σ:St} {H':Hp} {as:-N8} {k v:Nat},σ[3]?>some (.ref D)->σ[k]?>some (.int (v:Int))->v<↑as->H' D>.lst (as.map V.ref)->Ev (e9 (jF K) (bI 3) (bI k)) σ H' (.ref (as.getD v 0)):=λe1 e2 h e3=>bN (ae e1) (ae e2) (aN.of e3) (eE (ke h))
  show cG λR0 ea=>?_
  show vy (vs:=[.ref (as.getD o 0),.ref (as.getD w 0)]) (ak (an (v:=o) Z Z () J.d) (ak (an (v:=w) Z Z () J.d) ax)) (by change 2<=N9;decide) λp2 dr=>⟨p2,Z,⟨_,aN.of ag⟩,?_⟩
  let s6:aw H' (Ob H' p2 (.lst [.ref (as.getD o 0),.ref (as.getD w 0)])):=(aw.refl H').upd dr
  let ap:Ob H' p2 (.lst [.ref (as.getD o 0),.ref (as.getD w 0)]) p2>.lst [.ref (as.getD o 0),.ref (as.getD w 0)]:=ag
  let bE:p2≠G:=JH (ai J.g dr)
  revert s6 ap
  generalize Ob H' p2 (.lst [.ref (as.getD o 0),.ref (as.getD w 0)])=H6
  intro s6 ap
  show aK (K:=K) (xs:=[.ref (as.getD o 0),.ref (as.getD w 0)]) (λj σ H'=>∃(x7 x8:Option V) (bs:-N8),σ=[some (.ref F),some (.ref l),some (.ref G),some (.ref D),some (.int p),some (.int (o:Int)),some (.int (w:Int)),x7,x8,x9]/\aw H H'/\H' D>.lst (as.map V.ref)/\FB G D H' as P/\H' G>.lst (bs.map V.ref)/\Nb (gN R C M fs H') bs ((X++G5 P p o w j).map f6)/\↑bs<=2*i+j/\H' p2>.lst [.ref (as.getD o 0),.ref (as.getD w 0)])
   ⟨_,_,bs,Z,J.s.trans s6,s6 _ _ J.d,J.pt.keep (λb ys e=>s6 _ _ e) (λb ys _ _ e=>s6 _ _ e),s6 _ _ J.g,by change Nb _ _ ((X++[]).map _);rw[J6];show b9 J.hs (λb ys e=>s6 _ _ e) (λb ys e=>s6 _ _ e),(),ap⟩ (λj σ H' _ hz=>by let⟨_,_,_,_,_,_,_,_,_,_,e⟩:=hz;show aN.of e) ?_ ?_
  ·rintro j y σ H7 hy ⟨x7,x8,bs,rfl,s7,B,g,N,Y,bD,ba⟩
   obtain⟨v,rfl,hv,hj⟩:∃v:Nat,y=.ref (as.getD v 0)/\v<n/\G5 P p o w (j+1)=G5 P p o w j++qb P p v:=by
    rcases mE hy with ⟨rfl,z⟩|⟨rfl,z⟩
    ·show⟨o,z,ho,Z⟩
    ·show⟨w,z,hw,Z⟩
   let ce:j<2:=(JX.mp hy).1
   let⟨u,n1,n2,e1,e2⟩:=g v ()
   show⟨_,_,Z,a_.of e1,Z,_,_,Z,_,_,Z,Z,?_⟩
   let ah:∀k∈(P v).2,k<↑ds:=λk hk=>by rw[hn];show((J.ok.ps v hv k).mp hk).1
   let ch:(P v).2.length<=6:=by
    have:=dB (ys:=List.range n) (J.nd v hv) λk hk=>Kk.mpr ((J.ok.ps v hv k).mp hk).1
    rw[Kz] at this
    lia
   show dI (ay (aR ∅ ∅)) (λe=>?_) (λe=>?_)
   ·let e:=N4 e
    show⟨_,Z,.inl ⟨Z,_,aN.of N⟩,?_⟩
    show⟨_,Z,u,Z,⟨_,aN.of e2⟩,λE nE=>?_⟩
    show aK (K:=K) (xs:=nV (P v).2) (λm τ H'=>∃x0:Option V,τ=[x0,some (.ref F)]/\aw H7 H'/\H' E>.lst (((P v).2.take m).map λk=>V.ref (ds.getD k 0))) ⟨none,Z,(aw.refl H7).upd nE,ag⟩ (λm τ H' _ hz=>by let⟨_,_,s,_⟩:=hz;show aN.of (s _ _ e2)) ?_ ?_
    ·rintro m x τ H8 hx ⟨x0,rfl,s8,am⟩
     let⟨k,hk,rfl⟩:=lh hx
     let b8:=ah k (JY hk)
     show gn (fK ((bN (v:=.ref (ds.getD k 0)) ∅ ∅ (aN.of (s8 _ _ (s7 _ _ hF.fs.hl))) (eE (ke b8))) _ ⟨_,am,?_,_,Z,aP s8 nE,?_⟩))
     ·rw[JF,KH];lia
     ·rw[ag,bp hk,JM];rfl
    ·rintro τ H8 ⟨x0,rfl,s8,am⟩
     rw[fI,Kb] at am
     let ci:=s7.trans s8
     show⟨E,_,_,M,L,R,C,Z,S,hM,(hF.fs.same s7).pick s8 am (J.nd v hv) ah,λf hf=>?_,λH9 Lm kv s9 nL hL co=>?_⟩
     ·let⟨k,hk,rfl⟩:=JL.mp hf
      let⟨t1,t2⟩:=hF.ok k (ah k hk)
      show⟨t1,t2.intV t1.nd⟩
     show⟨_,Z,_,Z,Lm,kv,(P v).1,p,M,L,R,C,Z,S,hL,co.pl,hM,co.it,λc2 t hh d nh ht ef=>?_⟩
     let r:=(s8.trans s9).trans d
     let A:=r _ _ N
     show⟨G,_,_,Z,Z,A,by rw[JF];lia,?_⟩
     let⟨r1,r2⟩:=yL (b:=(P v).1) (e:=p) (λk hk=>hF.ok k (ah k hk)) co
     let kt:∀b ys,H7 b>.tup ys->Ob c2 G (.lst (bs.map V.ref++[.ref t])) b>.tup ys:=λb ys e=>aV A _ _ (r _ _ e)
     show⟨_,_,bs++[t],Z,aP (s7.trans r) nG,aj (JH bi)<|r _ _ B,g.keep kt (λb ys n1 _ e=>by rw[aj n1];show r _ _ e),by rw[ag,JM];rfl,?_,by rw[JQ];change ↑bs+1<=_;lia,aj bE<|r _ _ ba⟩
     rw[hj,<-Kl,JM]
     show e_ (b9 Y kt (λb ys e=>cD A _ _ (r _ _ e))) ?_
     unfold qb
     rw[N1 e]
     show .cons ⟨hh,_,_,aV A _ _ ht,cD A _ _ ef,zr co.pl,r1,r2⟩ .nil
   ·let e:=N6 e
    show⟨_,_,bs,Z,s7,B,g,N,?_,(),ba⟩
    rw[hj]
    unfold qb
    rw[N0 e,J6]
    show Y
  rintro σ H7 ⟨x7,x8,bs,rfl,s7,B,g,N,Y,bD,ba⟩
  show ea _ _ ?_
  let⟨u1,a1,a2,a3,a4⟩:=g o ()
  let⟨u2,b1,b2,b3,b4⟩:=g w ()
  let a7:∀v,v<n->(P v).2.length<=6:=λv hv=>by
   have:=dB (ys:=List.range n) (J.nd v hv) λk hk=>Kk.mpr ((J.ok.ps v hv k).mp hk).1
   rw[Kz] at this
   lia
  let l1:=a7 o ho
  let l2:=a7 w hw
  show bF (gH ((aJ (v:=.ref u1) (an (v:=o) Z Z () B) aB (a_.of a3) Z) _ ((aJ (v:=.ref u2) (an (v:=w) Z Z () B) aB (a_.of b3) Z) _ ⟨u1,u2,_,_,Z,Z,a4,b4,by rw[fI,fI];lia,λpl c5=>?_⟩)))
  let cc:nV (P o).2++nV (P w).2=nV (jn P (p,o,w)):=by unfold nV jn;rw[JM]
  rw[cc]
  let jl:↑(jn P (p,o,w))<=12:=by unfold jn;rw[JQ];change(P o).2.length+(P w).2.length<=12;lia
  let bx:=GQ (c:=(p,o,w)) J.ok J.nd ho hw ne
  let br:∀k∈jn P (p,o,w),k<n:=λk hk=>by
   rcases J3.mp hk with h|h
   ·show((J.ok.ps o ho k).mp h).1
   ·show((J.ok.ps w hw k).mp h).1
  let bu:=J.ok.step (c:=(p,o,w)) ho hw ne
  generalize en:jn P (p,o,w)=js at jl bx br bu
  let s8:aw H7 (Ob H7 pl (.lst (nV js))):=(aw.refl H7).upd c5
  let W:Ob H7 pl (.lst (nV js)) pl>.lst (nV js):=ag
  let bA:pl≠G:=JH (ai N c5)
  let ad:pl≠D:=JH (ai B c5)
  revert s8 W
  generalize Ob H7 pl (.lst (nV js))=H8
  intro s8 W
  show⟨_,Z,pl,Z,⟨_,aN.of W⟩,?_⟩
  show aK (K:=K) (xs:=nV js) (λj σ H'=>∃(x9:Option V) (as:-N8),σ=[some (.ref F),some (.ref l),some (.ref G),some (.ref D),some (.int p),some (.int (o:Int)),some (.int (w:Int)),x7,some (.ref pl),x9]/\aw H H'/\H' D>.lst (as.map V.ref)/\↑as=n/\FB G D H' as (DP P p js j)/\H' G>.lst (bs.map V.ref)/\Nb (gN R C M fs H') bs ((X++G5 P p o w 2).map f6)/\H' pl>.lst (nV js))
   ⟨_,as,Z,s7.trans s8,s8 _ _ B,I,g.keep (λb ys e=>s8 _ _ e) (λb ys _ _ e=>s8 _ _ e),s8 _ _ N,b9 Y (λb ys e=>s8 _ _ e) (λb ys e=>s8 _ _ e),W⟩ (λj σ H' _ hz=>by let⟨_,_,_,_,_,_,_,_,_,e⟩:=hz;show aN.of e) ?_ ?_
  ·rintro j x σ H9 hx ⟨x9,as,rfl,s9,a5,Z0,U,av,ac,aa⟩
   let⟨k,hk,rfl⟩:=lh hx
   let b7:=br k (JY hk)
   show gn ?_
   show⟨_,Z,_,Z,by change 2<=N9;decide,λt nt=>?_⟩
   let d:aw H9 (Ob H9 t (.tup [.int p,.ref pl])):=(aw.refl H9).upd nt
   let ab:Ob H9 t (.tup [.int p,.ref pl]) t>.tup [.int p,.ref pl]:=ag
   revert d ab
   generalize Ob H9 t (.tup [.int p,.ref pl])=c2
   intro d ab
   let O:=d _ _ a5
   show⟨_,Z,_,Z,D,_,_,k,Z,Z,O,JF<|Z0<|fi b7,?_⟩
   let kt:∀b ys,H9 b>.tup ys->Ob c2 D (.lst ((as.map V.ref).set k (.ref t))) b>.tup ys:=λb ys e=>aV O _ _ (d _ _ e)
   show⟨_,as.set k t,Z,aP (s9.trans d) b6,by rw[ag,List.map_set],KU<|Z0,λm hm=>?_,aj bi<|d _ _ av,b9 ac kt (λb ys e=>cD O _ _ (d _ _ e)),aj ad<|d _ _ aa⟩
   rw[KU] at hm
   by_cases c:k=m
   ·subst c
    show⟨pl,bA,ad,?_,?_⟩
    ·rw[JS,Lx hm]
     unfold DP
     rw[bp hk,N1 (KF _ (JJ.mpr Z))]
     show aV O _ _ ab
    ·rw[aj ad]
     unfold DP
     rw[bp hk,N1 (KF _ (JJ.mpr Z))]
     show d _ _ aa
   ·let⟨u',n1,n2,e1,e2⟩:=U m hm
    let eJ:DP P p js (j+1) m=DP P p js j m:=by
     unfold DP
     rw[bp hk]
     by_cases z:m∈js.take j
     ·rw[N1 z,N1 (LP _ z)]
     ·rw[N0 z,N0 (λh=>(J3.mp h).elim z λh=>c (JJ.mp h).symm)]
    show⟨u',n1,n2,?_,?_⟩
    ·rw[eJ,JS,LQ c,<-JS]
     show kt _ _ e1
    ·rw[eJ,aj n2];show d _ _ e2
  ·rintro σ H9 ⟨x9,as,rfl,s9,a5,Z0,U,av,ac,aa⟩
   let eU:DP P p js ↑(nV js)=yg P p js:=by
    funext m
    unfold DP yg
    rw[fI,Kb]
   rw[eU] at U
   show⟨_,_,_,_,_,_,bO rep o w,yb bn (rep o) p,yg P p js,as,bs,X++G5 P p o w 2,Z,⟨s9,a5,Z0,U,av,ac,?_,bu,λm hm=>?_,jk,by first|omega⟩⟩
   ·have:=J.ht
    rw[be,show gh P ((p,o,w)::ls.drop (i+1))=qb P p o++(qb P p w++gh (yg P p (jn P (p,o,w))) (ls.drop (i+1))) from Z] at this
    rw[<-this,Kl]
    change X++((qb P p o++qb P p w)++_)=X++(qb P p o++(qb P p w++_))
    rw[Kl,<-en]
   ·unfold yg
    split
    ·show bx
    ·show J.nd m hm
 ·rintro σ H' ⟨x4,x5,x6,x7,x8,x9,rep,bn,P,as,bs,X,rfl,J⟩
  let hh:=J.ht
  let hb:=J.bl
  rw[JF,ar] at hb
  rw[JF,ar,List.drop_length] at hh
  let hh:X=gh (λi=>(0,[i])) ls:=by rw[<-hh];change X=X++[];rw[J6]
  show st (cx ∅ (q H' G bs J.s J.g (by rw[<-hh];show J.hs) ()))
set_option maxHeartbeats 2000000 in
theorem By (ec:bQ P w K mg O_ Oc "wiring_price" 5 ["self", "wiring"] (AC Oc))(dC:aU P w K mg O_ "taken" 4 ["links", "many"] (vn K))(c4:aU P w K mg O_ "spread" 3 ["arcs", "starts"] (qA mg))(eA:aU P w K mg O_ "way_back" 1 ["back", "mark"] Ec)(dc:aU P w K mg O_ "arcs_in" 6 ["floor", "free"] (mD K mg Oc))(d6:aU P w K mg O_ "pruned" 5 ["steps", "pins"] (yX K))(c5:fv P w K mg O_ Od "TreePaper" 1 ["self", "wires", "price", "hills"] (rE Od))(ei:aU P w K mg O_ "hills_round" 2 ["fars", "links"] Er)(d9:aU P w K mg O_ "links_between" 1 ["pins", "fars"] A7):gE P w K mg O_ 7 "joined" Ee ["floor", "free", "net"] (yk K Oc Og Od):=by
 show rd ["floor", "free", "net", "arcs", "spreads", "fars", "links", "steps", "price", "one", "other", "way", "wires"] λnd _ _ _ _ _ H vs Q E hr h=>?_
 let⟨p,pr,vi,rd,td,e,nt,t,dx,nf,g,F',ns,fs,ok,rfl,I,hm,he,hT,n1,n2,bu,cm,ar,⟨ac,ht,br⟩,l2,l6,a4,b0,a0,q⟩:=h
 show⟨_,(au (a9 3 nd (bR dc hr (aF (aq 0) (aq 1)))) (au (rS 4 ["pin"] ["arcs"] [3] nd (Eu (bq (aq 2) Z)) (eM 0) dQ (bR (by show c4) (by show hr) (aF (aq 1) (bL (aI (bG (aF (aq 0) ao))))))) (au (rS 5 ["far", "back"] [] [] nd (aY (aq 4)) (ie (K:=K) (n:=2) Z Z (az (eM 0) (az (eM 1) bB)) Z Z) dQ (aq 0)) (au (a9 6 nd (bR dC hr (aF (bR d9 hr (aF (bq (aq 2) Z) (aq 5))) (bW bc T.len_ (aI (bq (aq 2) Z)))))) (au (cK (cu eO (bW bc T.len_ (aI (aq 6))) (aA cL (bW bc T.len_ (aI (bq (aq 2) Z))) ao)) cX) (au (a9 7 nd (bL cW)) (au (dq (aY (aq 6)) (cq Z (az (bw 8 nd) (az (bw 9 nd) (az (bw 10 nd) bB)))) (aS (a9 11 nd (bR eA hr (aF (aG aD (aG aQ (aq 4) (aq 9)) ao) (aG aD (bq (aq 2) Z) (aq 10))))) (bj (df Kw PySem.F.slot_list_extend PySem.F.type_list_extend xl (aq 7) (aI (tT Z (by rfl) T.list_ (by rfl) T.zip_ (aF (aq 11) (qS vh (aq 11) (oP ao) BB)))))))) (aS (a9 12 nd (bR d6 hr (aF (aq 7) (bq (aq 2) Z)))) (aL (uI c5 (hr.mono (by decide)) (by rfl) (aO (aq 12) (aF (de (aq 0) T.cl_Floor ec (hr.mono (by decide)) (aI (aq 12))) (bR ei hr (aF (aq 5) (aq 6))))))))))))))),?_⟩
 let cN:N9=2^24:=rfl
 let S:=ok.S
 let hM:=ok.M
 let L:↑ac=ns.length:=by rw[Nb.length br,JF]
 show cH λRh c0=>(cw (ak ∅ (ak ∅ ax)) ⟨p,pr,vi,rd,td,e,g,F',Z,I,ok,he,hT,n1,n2,bu,λH1 f sm hf=>?_⟩)
 show c0 _ _ ?_
 let keep:∀{b:N8} {x:HO},H b>x->(∀ps,x≠.tbl ps)->H1 b>x:=fun{b x} eb nx=>sm b x (λz=>by rw[z,show H (fG K "arcs_in").2>(.tbl #[]) from bu] at eb;cases eb;show nx _ Z) eb
 let r:=keep ht (λ_ z=>by cases z)
 let M:=keep cm (λ_ z=>by cases z)
 let O:=aC br λb xs z=>keep z (λ_ y=>by cases y)
 let b1:FA Oc H1 p pr vi rd td g:=by
  let⟨be,zF,h1,h2⟩:=I.ex
  let⟨ca,r1,r2⟩:=I.pr
  show⟨⟨be,zF,keep h1 (λ_ z=>by cases z),keep h2 (λ_ z=>by cases z)⟩,⟨ca,keep r1 (λ_ z=>by cases z),aC r2 λb xs z=>keep z (λ_ y=>by cases y)⟩,keep I.vi (λ_ z=>by cases z),keep I.rd (λ_ z=>by cases z),keep I.td (λ_ z=>by cases z)⟩
 show cG λR0 d8=>?_
 show⟨_,Z,nt,Og,dx,nf,_,Z,M,T.cl_Net,T.na_Net_pins,ar,t,Z,⟨_,a_.of r⟩,λD nD=>?_⟩
 show DC (K:=K) (xs:=ac.map V.ref) (λi τ H'=>∃(x0:Option V) (us ds:-N8) (ts:-(-(Nat×V))),τ=[x0,some (.ref f)]/\aw H1 H'/\H' D>.lst (us.map V.ref)/\SJ g F' ok ns fs H' i us ds ts)
  ⟨none,[],[],[],Z,(aw.refl H1).upd nD,ag,⟨Z,Z,Z,LC,λj hj=>absurd hj (KJ j)⟩⟩ (λi τ H' _ hz=>by let⟨_,_,_,_,_,s,_⟩:=hz;show a_.of (s _ _ r)) ?_ ?_
 ·rintro i x τ H2 hx hI
  show lZ λRg d7=>?_
  let⟨x0,us,ds,ts,rfl,s2,X,J⟩:=hI
  let⟨a,ha,rfl⟩:=b_ hx
  let hi:i<ns.length:=by rw[<-L];show(JX.mp ha).1
  let⟨c,hc,ah⟩:=cn O ha
  rw[rh hi hc] at ah
  let ce:=a4 (ns.getD i 0) (JS<|JU hi<|LK hi)
  let ul:=J.ul
  show gn ?_
  show d7 _ _ ?_
  show fK ?_
  show⟨_,Z,_,Z,by change 2<=N9;decide,λpp hs=>⟨by change 1<=N9;decide,λst dr=>?_⟩⟩
  let s3:aw H2 (Ob (Ob H2 pp (.tup [.ref a,.int 0])) st (.lst [.ref pp])):=((aw.refl H2).upd hs).upd dr
  let Y:Ob (Ob H2 pp (.tup [.ref a,.int 0])) st (.lst [.ref pp]) st>.lst ([pp].map V.ref):=ag
  let bf:Ob (Ob H2 pp (.tup [.ref a,.int 0])) st (.lst [.ref pp]) pp>.tup [.ref a,.int 0]:=aj (ai ag dr)<|ag
  revert s3 Y bf
  generalize Ob (Ob H2 pp (.tup [.ref a,.int 0])) st (.lst [.ref pp])=H3
  intro s3 Y bf
  let l:=s2.trans s3
  show⟨f,st,e,g,F',[ns.getD i 0],ok,Z,hf.same l,⟨[pp],Y,.cons ⟨a,bf,l _ _ ah⟩ .nil⟩,by simp,(λn hn=>by rw[JJ.mp hn];show ce.1),λH4 t3 fa ba Fr B far N s4 g5 eg j4 g4 fu tF tB rF rB told=>?_⟩
  let ef:far=fs i:=told.fix.same (b0 i hi)
  subst ef
  let aa:=l.trans s4
  let C:=s4 _ _ (s3 _ _ X)
  let kt:TK H2 (Ob H4 D (.lst (us.map V.ref++[.ref t3]))):=λb xs e=>aV C _ _ (s4 _ _ (s3 _ _ e))
  let kd:∀b ys,H2 b>.dT ys->Ob H4 D (.lst (us.map V.ref++[.ref t3])) b>.dT ys:=λb ys e=>cD C _ _ (s4 _ _ (s3 _ _ e))
  show⟨_,C,by rw[JF];lia,_,us++[t3],ds++[fa],ts++[Fr],Z,aP aa nD,by rw[ag,JM];rfl,?_⟩
  show(J.keep kt kd).snoc (λaf=>?_) ⟨ba,B,N,aV C _ _ g5,cD C _ _ g4,cD C _ _ fu,tF,rF,rB.kept λb xs e=>aV C _ _ e,told⟩
  let⟨j,hj,ej⟩:=List.getElem_of_mem af
  let⟨_,_,_,_,e2,_⟩:=(J.sp j (by rw[<-J.dl];show hj)).ex
  rw[JS,JU hj] at e2
  let e2:H2 ds[j]=_:=e2
  rw[ej] at e2
  rw[s3 _ _ e2] at eg;cases eg
 rintro τ H2 ⟨x0,us,ds,ts,rfl,s2,X,J⟩
 rw[JF,L] at J
 let ul:=J.ul
 let dl:=J.dl
 show d8 _ _ ?_
 show cG λR0 d8=>?_
 show⟨_,Z,D,Z,⟨_,aN.of X⟩,λD2 ee=>?_⟩
 show aK (K:=K) (xs:=us.map V.ref) (λi τ H'=>∃x0 x1:Option V,τ=[x0,x1]/\aw H2 H'/\H' D2>.lst ((ds.take i).map V.ref))
  ⟨none,none,Z,(aw.refl H2).upd ee,ag⟩ (λi τ H' _ hz=>by let⟨_,_,_,s,_⟩:=hz;show aN.of (s _ _ X)) ?_ ?_
 ·rintro i x τ H3 hx ⟨x0,x1,rfl,s3,an⟩
  let⟨u,hu,rfl⟩:=b_ hx
  let hi:i<↑us:=(JX.mp hu).1
  let⟨ba,B,N,e1,_⟩:=(J.sp i ()).ex
  let eu:us.getD i 0=u:=by rw[JS,hu];rfl
  rw[eu] at e1
  show⟨u,_,Z,a_.of (s3 _ _ e1),Z,_,_,Z,_,_,Z,Z,?_⟩
  show fK ?_
  show⟨_,Z,_,an,by rw[JF,KH];lia,_,_,Z,aP s3 ee,?_⟩
  rw[ag,bp (ke (as:=ds) (i:=i) ()),JM];rfl
 rintro τ H3 ⟨x0,x1,rfl,s3,an⟩
 rw[JF,ul,<-dl,Kb] at an
 show d8 _ _ ?_
 replace J:=J.keep (iW s3) (λb ys e=>s3 _ _ e)
 let l:=s2.trans s3
 let bo:Aq g.R g.C g.M H3 D2 ds ts fs:=by
  show⟨⟨an,by rw[dl,J.tl],J.nd,λi hi=>?_⟩,λi hi=>?_⟩
  ·let⟨_,_,_,_,e2,_⟩:=(J.sp i ()).ex
   show e2
  ·let⟨_,_,_,_,_,_,e4,e5,_⟩:=(J.sp i ()).ex
   show⟨e4,e5⟩
 let b5:=s3 _ _ X
 let U:∀{σ:St} {H':Hp},aw H1 H'->σ[2]?>some (.ref nt)->Ev (rP K (bI 2) "pins") σ H' (.ref t):=λs e Q q=>⟨_,e,nt,Og,dx,nf,_,Z,s _ _ M,T.cl_Net,T.na_Net_pins,ar,q⟩
 show cH λRh c0=>?_
 show⟨_,Z,nt,Og,dx,nf,_,Z,l _ _ M,T.cl_Net,T.na_Net_pins,ar,_,Z,t,D2,ns,ds,ts,fs,g.L,g.R,g.C,g.M,Z,S,⟨ac,l _ _ r,aC O λb xs e=>l _ _ e⟩,l6,bo,dl,λH4 l1 ew s4 hh d3=>?_⟩
 let aa:=l.trans s4
 let cd:↑ew<64:=by
  let h1:=Nb.length d3
  let h2:=fE ns fs ns.length
  let h4:ns.length*ns.length<=6*6:=Mb l6 l6
  rw[JF] at h1
  lia
 show⟨_,Z,nt,Og,dx,nf,_,Z,aa _ _ M,T.cl_Net,T.na_Net_pins,ar,_,ns.length,Z,.inr ⟨_,a_.of (aa _ _ r),by rw[JF,L]⟩,l1,ns.length,ew,gK ns fs ns.length,Z,(),aN.of hh,d3,cd,λc hc=>⟨(ig hc).1,(ig hc).2.1⟩,λlk c3 ss H5 s5 dv f2 dy c8=>?_⟩
 show c0 _ _ ?_
 let ap:=aa.trans s5
 let bm:Bj ns.length ss:=λc hc=>by
  have:=ig (dv.mem_iff.mp hc)
  show⟨this.1,this.2.1⟩
 let co:ns.length - 1<=↑(kr id ss):=E6 λj j0 hj=>by
  let⟨pj,ch⟩:=LU.mp (a0 j hj)
  show⟨pj,dv.mem_iff.mpr (wM j0 hj ch)⟩
 let ck:↑c3=↑(kr id ss):=by rw[Nb.length c8,JF]
 let cT:↑(kr id ss)<ns.length:=by
  have:=sj ss id (List.range ns.length) (λz=>by have:=congrArg List.length z;rw[Kz,Ln] at this;lia) (λx hx=>Kk.mpr hx) bm
  rwa [Kz] at this
 show gx (b:=false) (c9 (ay (aR (cI (v:=.int (↑c3:Nat)) (ak ∅ ax) λQ' q'=>⟨_,↑c3,Z,.inl ⟨_,aN.of dy,by rw[JF]⟩,q'⟩) (aR (cI (v:=.int (ns.length:Nat)) (ak (U ap Z) ax) λQ' q'=>⟨_,ns.length,Z,.inr ⟨_,a_.of (ap _ _ r),by rw[JF,L]⟩,q'⟩) aB))) (N5 ())) Z ?_
 show cH λRh c0=>(eC [] ax (J4 _) λst H6 s6 dr Y=>?_)
 show c0 _ _ ?_
 let J5:=J.keep (iW (s4.trans s5)) (λb ys e=>s5 _ _ (s4 _ _ e))
 let b8:=s5 _ _ (s4 _ _ b5)
 let ct:=hT
 show cG λR1 g7=>?_
 show⟨_,Z,lk,Z,⟨_,aN.of (s6 _ _ dy)⟩,?_⟩
 show aK (K:=K) (xs:=c3.map V.ref) (λi σ H'=>∃(x8 x9 a5 av:Option V) (qs:-N8) (ls:-E2),σ=[some (.ref p),some (.ref e),some (.ref nt),some (.ref f),some (.ref D),some (.ref D2),some (.ref lk),some (.ref st),x8,x9,a5,av,none]/\aw H5 H'/\H' st>.lst (qs.map V.ref)/\eB H' qs ls/\(∀d∈ls,l_ g d/\0<=EX g d)/\↑ls<=32*i/\(ls.map (EX g)).sum=eX ((kr id ss).take i))
  ⟨none,none,none,none,[],[],Z,s6,Y,.nil,(λ_ h=>by cases h),JG _,Z⟩ (λi σ H' _ hz=>by let⟨_,_,_,_,_,_,_,s,_⟩:=hz;show aN.of (s _ _ dy)) ?_ ?_
 ·rintro i x σ H7 hx hI
  show lZ λRg d7=>?_
  let⟨x8,x9,a5,av,qs,ls,rfl,s7,ad,ab,F,bn,A⟩:=hI
  let⟨a,ha,rfl⟩:=b_ hx
  let⟨c',bl,ah⟩:=cn c8 ha
  rw[JV] at bl
  let⟨⟨pc,o,w⟩,hc,rfl⟩:=Kc.mp bl
  let af:=(kU ss id).subset (JY hc)
  let⟨ho,hw,R⟩:=ig (dv.mem_iff.mp af)
  let ho:o<ns.length:=ho
  let hw:w<ns.length:=hw
  let R:fs o (ns.getD w 0)>pc:=R
  let hi:i<↑c3:=(JX.mp ha).1
  show⟨a,_,Z,a_.of (s7 _ _ ah),Z,_,_,Z,_,_,Z,_,_,Z,Z,?_⟩
  show d7 _ _ ?_
  let⟨ba,B,N,e1,e2,e3,e4,e5,e6,e7⟩:=((J5.keep (iW s7) (λb ys e=>s7 _ _ e)).sp o ho).ex
  let bi:=Ih.of ok e7 λn hn=>by
   rw[JJ.mp hn]
   show a4 _ (JS<|JU ho<|LK ho)
  let⟨W,hW⟩:=bi.wb _ _ R
  let cr:=hW.len λn p h=>(bi.fr n p h).1
  let⟨h1,h2⟩:=hW.hops ok hT
  let h2:=h2 pc R
  let k:=ap.trans s7
  obtain⟨b,hb⟩:∃b,ac[w]?>b:=⟨_,JU ()⟩
  let⟨c2,b6,bD⟩:=cn O hb
  rw[rh hw b6] at bD
  show cH λRh c0=>(cw (ak (aJ (v:=.ref ba) (bN (v:=.ref (us.getD o 0)) ∅ ∅ (aN.of (s7 _ _ b8)) (eE (ke ()))) aB (a_.of e1) Z) (ak (aJ (v:=.ref b) (U k Z) ∅ (a_.of (k _ _ r)) (eE hb)) ax)) ⟨ba,b,g,F',B,[ns.getD o 0],fs o,N,ns.getD w 0,W,Z,S,e3,e6,k _ _ bD,hW,(),λH8 wl s8 gk=>?_⟩)
  show c0 _ _ ?_
  let⟨Z0,bE,bv⟩:=gk
  let a7:=s8 _ _ ad
  let b4:↑Z0=↑W:=by rw[Nb.length bv,JF,List.length_reverse]
  let ql:↑qs=↑ls:=↑ab
  show⟨_,Z,.inl ⟨Z,_,aN.of a7⟩,_,Z,_,Z,1,Z,wl,_,Z,aN.of bE,λsl ga=>?_⟩
  let s9:aw H8 (Ob H8 sl (.lst (mn (Z0.map V.ref) (some 1) none))):=(aw.refl H8).upd ga
  let a3:Ob H8 sl (.lst (mn (Z0.map V.ref) (some 1) none)) sl>.lst ((Z0.map V.ref).drop 1):=by rw[ag,HI]
  revert s9 a3
  generalize Ob H8 sl (.lst (mn (Z0.map V.ref) (some 1) none))=H9
  intro s9 a3
  show⟨wl,sl,_,_,Z,aN.of (s9 _ _ bE),aN.of a3,λzl zs H10 nz dd hz d1 fC=>?_⟩
  let am:=dd _ _ (s9 _ _ a7)
  let cF:↑zs<=↑W:=d1<|JF<|b4<|Nat.min_le_left _ _
  let a1:=(s8.trans s9).trans dd
  show⟨st,zl,_,_,Z,Z,am,hz,by rw[JF,JF];lia,?_⟩
  let kt:∀b xs,H10 b>.tup xs->Ob H10 st (.lst (qs.map V.ref++zs.map V.ref)) b>.tup xs:=aV am
  let b7:eB H10 zs (hops (W.reverse.map (sN g.R g.C))):=zA bv (s9.trans dd) d1 λj a hj=>by
   let⟨_,x,y,g1,g2,g3⟩:=fC j a hj
   show⟨x,y,g1,g2,g3⟩
  show⟨_,_,_,_,qs++zs,ls++hops (W.reverse.map (sN g.R g.C)),Z,aP (s7.trans a1) dr,by rw[ag,JM],e_ ((ab.same a1).tups kt) (b7.tups kt),λd hd=>?_,?_,?_⟩
  ·rcases J3.mp hd with z|z
   ·show F d z
   ·show h1 d z
  ·have:=zd (W.reverse.map (sN g.R g.C))
   rw[JF,List.length_reverse] at this
   rw[JQ]
   lia
  ·rw[JM,List.sum_append,A,h2,sT hc]
 rintro σ H7 ⟨x8,x9,a5,av,qs,ls,rfl,s7,ad,ab,F,bn,A⟩
 rw[JF,ck] at bn A
 rw[Kb] at A
 show g7 _ _ ?_
 let k:=ap.trans s7
 let ql:↑qs=↑ls:=↑ab
 let k3:L3 ls:=λd hd=>by
  let⟨n,m,_,_,rfl,_⟩:=(F d hd).1.ex
  show⟨Z,Z⟩
 let kf:↑(jh (id:T3->T3) ls)<64:=by
  let M0:0<g.M:=by
   have:=a4 (ns.getD 0 0) (JS<|JU ()<|LK _)
   lia
  have:=qa (S:=λx=>x∈Co g.R g.C g.M) ls id (Co g.R g.C g.M) (λz=>by have:=congrArg List.length z;rw[vk,Ln] at this;lia) (λx hx=>hx) (λd hd=>by
   let⟨n,m,hn,cj,rfl,_⟩:=(F d hd).1.ex
   show⟨JL.mpr ⟨n,Kk.mpr hn,Z⟩,JL.mpr ⟨m,Kk.mpr cj,Z⟩⟩)
  rw[vk] at this
  lia
 show cH λRh c0=>(cw (ak ∅ (ak (U k Z) ax)) ⟨st,t,qs,ac,ls,ns.map (sN g.R g.C),Z,aN.of ad,ab,a_.of (k _ _ r),aC O λb xs e=>k _ _ e,(),kf,k3,λwi cs Rr dw H8 s8 c6 da io et eH=>?_⟩)
 show c0 _ _ ?_
 let bx:=k.trans s8
 let bb:=iU ls (id:T3->T3)
 let cv:↑dw<64:=by
  let h1:=da.length_eq
  let h2:=c6.1.length_le
  rw[JF] at h2
  lia
 let b3:∀d∈dw,l_ g d:=λd hd=>by
  let⟨d',cc,rfl⟩:=JL.mp (c6.1.subset (da.mem_iff.mp hd))
  show(F d' (bb.subset cc)).1.nm
 let a6:=b1.same bx
 let⟨be,zF,ci,_⟩:=a6.ex
 let cl:↑cs=↑dw:=↑eH
 show gZ ⟨_,Z,_,Z,p,be,_,Z,ci,by kernel_rfl,_,Z,p,pr,vi,rd,td,wi,g,cs,dw,Z,a6,ok,et,eH,(),b3,λH9 s9=>?_⟩
 let bd:=(s7.trans s8).trans s9
 show⟨_,Z,_,Z,D2,lk,ds,ts,fs,c3,kr id ss,g.L,g.R,g.C,g.M,Z,S,(),bo.same ((s4.trans s5).trans bd),(),bd _ _ dy,aC c8 λb xs e=>bd _ _ e,dl<|GC bm,um ss id,(),λH10 hB en dd es ey iv=>?_⟩
 intro x dV nx hg lc
 let a2:=s9.trans dd
 let up:∀{b:N8} {u:HO},H10 b>u->Ob (Ob H10 dV (.own x)) x (.ins Od dV []) b>u:=λe=>by rw[aj (ai e nx),aj (ai e hg)];show e
 show⟨x,dV,wi,hB,_,_,en,_,fs,g.L,g.R,g.C,g.M,Z,ag,up (a2 _ _ et),by rw[JF];lia,S,hM,up es,b9 ey (λb ys e=>up e) (λb ys e=>up e),(),λH11 h' f4 gs f3 eJ fy gg hq d5=>⟨Z,?_⟩⟩
 show q H11 x dV h' gs _ f4 ss (λb u nb eb=>?_) eJ fy gg hq d5 dv f2 ?_
 ·let bA:=a2 _ _ (bx _ _ (sm b u nb eb))
  show f3 b u (ai bA nx) (up bA)
 ·rw[<-A]
  show zX (pr:=EX g) (nm:=nm) (ks:=jh (id:T3->T3) ls) (λd hd=>(F d hd).2) (λd _=>yU g d) bb c6.1 da
set_option maxHeartbeats 4000000 in
theorem FF (c5:fv P w K mg O_ Oc "Floor" 3 ["self", "sizes", "prices", "vias", "rocks", "tolls"] (pQ Oc))(c0:lX P w K mg O_ Og "Net" 3 ["self", "name", "pins", "half", "room"] (oN Og) 2)(dC:aU P w K mg O_ "joined" 7 ["floor", "free", "net"] (yk K Oc Og Od))(cF:aU P w K mg O_ "_law_ground" 3 ["script"] (qD K))(dc:aU P w K mg O_ "_law_free" 2 ["ground"] Ba)(d1:aU P w K mg O_ "_law_far" 1 ["arcs", "pin"] yo)(db:aU P w K mg O_ "_law_all_arcs" 4 ["ground"] yT)(et:aU P w K mg O_ "_law_due" 2 ["pins", "fars"] Eg):gE P w K mg O_ 8 "law" B7 ["script"] (vL K):=by
 show rd ["script", "ground", "pins", "arcs", "fars", "floor", "paper", "whole", "due", "left", "hill"] λnd _ _ _ _ _ H vs Q E hr h=>?_
 let⟨a,cs,rfl,ha,hn,b0,q⟩:=h
 show⟨_,(au (a9 1 nd (bR cF hr (aI (aq 0)))) (au (a9 2 nd (aG aD (aq 1) ao)) (au (a9 3 nd (bR db hr (aI (aq 1)))) (au (a9 4 nd (jb ["pin"] ["arcs"] [3] (aY (aq 2)) (eM 0) dQ (bR (by show d1) (by show hr) (aF (aq 1) (aq 0))))) (au (cK (cu eO (bW bc T.len_ (aI (jb ["pin"] ["fars"] [4] (aY (aq 2)) (eM 0) (iJ (fU (jD (by show(aT.one hr)) (aq 0) (aG (jv (K:=K) Z) (aq 1) ao)))) (aq 0)))) (bW bc T.len_ (aI (aq 2)))) (aL gJ)) (au (a9 5 nd (uI c5 (hr.mono (by decide)) (by rfl) (aO (aG aD (aq 1) ao) (aO (fO dh T.list_ (aI (aG aD (aq 1) ao))) (aO (fO dh T.list_ (aI (aG aD (aq 1) ao))) (aF (fO dh T.list_ (aI (aG aD (aq 1) ao))) (fO ip T.dict_ (aI (aG aD (aq 1) ao))))))))) (au (a9 6 nd (bR dC hr (aO (aq 5) (aF (bR dc hr (aI (aq 1))) (CW c0 (hr.mono (by decide)) (by rfl) (aF EG (fO dh T.list_ (aI (aq 2))))))))) (au (eK (bR et hr (aF (aq 2) (aq 4))) (cq Z (az (bw 7 nd) (az (bw 8 nd) bB)))) (au (cK (iz (cu uB (bq (aq 6) Z) (aq 7)) (gB (cu iw (bW bc T.len_ (aI (bq (aq 6) Z))) (bW bc T.len_ (aI (aq 8)))))).pt (aL gJ)) (au (rS 9 ["hill"] [] [] nd (aY (bq (aq 6) Z)) (eM 0) dQ (bG (aF (aG (kF (K:=K) Z) (aq 0) ao) (fO (lV (P:=P) (w:=w) Z Z) T.dict_ (aI (aG (kF (K:=K) Z) (aq 0) ao)))))) (aS (dq (aY (aq 8)) (bw 10 nd) (aS (cK (eT (xk hr) (aq 10) (aq 9) (by with_unfolding_all rfl)) (aL gJ)) (bj (df Kw PySem.F.slot_list_remove PySem.F.type_list_remove (tD hr) (aq 9) (aI (aq 10)))))) (aL gJ)))))))))))),?_⟩
 let ch:N9=2^24:=rfl
 show cH λRh ci=>(cw (ak ∅ ax) ⟨a,cs,Z,ha,hn,λH1 t g ss ns s1 hG h7=>?_⟩)
 show ci _ _ ?_
 let⟨z,pr,vi,ro,td,sh,pi,ht,hA,cd,b7⟩:=id hG.ex
 let⟨m,bD,ar⟩:=id b7
 let hg:=h7.ok
 let S:=hg.S
 let hM:=hg.M
 let hm:=h7.m
 let p2:=h7.p2
 let p6:=h7.p6
 let C:↑m=ns.length:=by rw[Nb.length ar,JF]
 show cM (v:=.ref pi) (aJ ∅ aB (a_.of ht) Z) ?_
 show cH λRh ci=>(cw (ak ∅ ax) ⟨t,g,ss,ns,Z,hG,h7,λH2 al as s2 gl f4 cN=>?_⟩)
 show ci _ _ ?_
 let Z0:=s2 _ _ bD
 show cH λRh ci=>⟨_,Z,pi,Z,⟨_,aN.of Z0⟩,λD nD=>?_⟩
 show aK (K:=K) (xs:=m.map V.ref) (λi τ H'=>∃(x0:Option V) (ds:-N8) (ts:-(-(Nat×V))) (fl:-Dj.Far),τ=[x0,some (.ref al)]/\aw H2 H'/\H' D>.lst (ds.map V.ref)/\LJ g (j9 g.M ss) hg ns H' i ds ts fl)
  ⟨none,[],[],[],Z,(aw.refl H2).upd nD,ag,⟨Z,Z,Z,LC,λj hj=>absurd hj (KJ j)⟩⟩ (λi τ H' _ hz=>by let⟨_,_,_,_,_,s,_⟩:=hz;show aN.of (s _ _ Z0)) ?_ ?_
 ·rintro i x τ H3 hx ⟨x0,ds,ts,fl,rfl,s3,a5,J⟩
  let⟨b,hb,rfl⟩:=b_ hx
  let hi:i<ns.length:=by rw[<-C];show(JX.mp hb).1
  let⟨c,hc,am⟩:=cn ar hb
  rw[rh hi hc] at am
  let b4:=h7.pr (ns.getD i 0) (JS<|JU hi<|LK hi)
  let b1:=s2.trans s3
  let dl:=J.dl
  show gn (fK (cw (ak ∅ (ak ∅ ax)) ⟨al,b,g,j9 g.M ss,as,ns.getD i 0,hg,Z,gl.same s3,f4,cN,b4.1,b1 _ _ am,λH4 d Fr f s4 nd hd tF rF fx=>?_⟩))
  let ba:=s4 _ _ a5
  show⟨_,ba,by rw[JF];lia,_,ds++[d],ts++[Fr],fl++[f],Z,aP (s3.trans s4) nD,by rw[ag,JM];rfl,J.snoc (λb ys e=>cD ba _ _ (s4 _ _ e)) (λcN=>?_) (cD ba _ _ hd) tF rF fx⟩
  let⟨j,hj,ej⟩:=List.getElem_of_mem cN
  let e2:=(J.sp j ()).1
  rw[JS,JU hj] at e2
  let e2:H3 ds[j]=_:=e2
  rw[ej,nd] at e2;cases e2
 rintro τ H3 ⟨x0,ds,ts,fl,rfl,s3,a5,J⟩
 rw[JF,C] at J
 show ci _ _ ?_
 obtain⟨fs,dw⟩:∃fs:eh,fs=λi=>fl.getD i λ_=>none:=⟨_,Z⟩
 let dl:=J.dl
 let B:Aq g.R g.C g.M H3 D ds ts fs:=by
  show⟨⟨a5,by rw[dl,J.tl],J.nd,λi hi=>(J.sp i ()).1⟩,λi hi=>?_⟩
  rw[dw]
  let⟨_,h2,h3,_⟩:=J.sp i ()
  show⟨h2,h3⟩
 let bn:∀i,i<ns.length->Dj.Fix (gG g (j9 g.M ss) [ns.getD i 0] hg) (fs i):=λi hi=>by rw[dw];show(J.sp i hi).2.2.2
 clear dw J
 let ab:=s2.trans s3
 let bA:=s1.trans ab
 let F:=s3 _ _ Z0
 let O:bH H3 m (ns.map (sN g.R g.C)):=aC ar λb xs e=>ab _ _ e
 show Fc (λσ H'=>σ=[some (.ref a),some (.ref t),some (.ref pi),some (.ref al),some (.ref D),none,none,none,none,none,none]/\aw H3 H'/\∀n∈ns,(fs 0 n).isSome=true) (λR0 gk=>?_) ?_
 ·show v_ ⟨_,Z,pi,Z,⟨_,aN.of F⟩,λE nE=>?_⟩
  show aK (K:=K) (xs:=m.map V.ref) (λi τ H'=>∃(x0:Option V) (vs:-V),τ=[x0,some (.ref D)]/\aw H3 H'/\H' E>.lst vs/\↑vs=↑((ns.take i).filter λn=>(fs 0 n).isSome))
   ⟨none,[],Z,(aw.refl H3).upd nE,ag,Z⟩ (λi τ H' _ hz=>by let⟨_,_,_,s,_⟩:=hz;show aN.of (s _ _ F)) ?_ ?_
  ·rintro i x τ H4 hx ⟨x0,vs,rfl,s4,ac,ad⟩
   let⟨b,hb,rfl⟩:=b_ hx
   let hi:i<ns.length:=by rw[<-C];show(JX.mp hb).1
   let⟨c,hc,am⟩:=cn O hb
   rw[JV] at hc
   let⟨n,b8,rfl⟩:=Kc.mp hc
   let gg:=dg (.inl (s4 _ _ (B.fs.ats 0 ()))) (s4 _ _ am)
   rw[bP S,(B.ok 0 ()).2 n] at gg
   let eo:((fs 0 n).map V.int).isSome=(fs 0 n).isSome:=by cases fs 0 n<;>rfl
   let vl:↑vs<=6:=by
    have:=Lf (λn=>(fs 0 n).isSome) (ns.take i)
    rw[KH] at this
    lia
   show gn ?_
   show ay (iL ∅ (bN (v:=.ref (ds.getD 0 0)) ∅ aB (aN.of (s4 _ _ B.fs.hl)) (eE (i:=0) (ke ()))) gg) _ ?_
   rw[eo,bp b8,Le]
   cases hf:(fs 0 n).isSome with
   |true=>
    show gT ⟨_,Z,vs,ac,(),_,_,Z,aP s4 nE,ag,?_⟩
    rw[JQ,JQ,ad,LG (by show hf)];rfl
   |false=>
    show fN ⟨_,vs,Z,s4,ac,?_⟩
    rw[JQ,ad,LH (hf<|JR)];rfl
  ·rintro τ H4 ⟨x0,vs,rfl,s4,ac,ad⟩
   rw[JF,C,Kb] at ad
   show⟨_,↑vs,Z,.inl ⟨_,aN.of ac,Z⟩,_,Z,_,ns.length,Z,.inl ⟨_,aN.of (s4 _ _ F),by rw[JF,C]⟩,_,_,Z,Z,_,Z,?_⟩
   show Gy (λ_=>q _) (λe=>gk _ _ ⟨Z,s4,?_⟩)
   let e:=N6 e
   show su (p:=λn=>(fs 0 n).isSome) ()
 rintro σ H4 ⟨rfl,s4,bv⟩
 let bi:=ab.trans s4
 let W:=bi _ _ ht
 let R:=hA.same bi
 let⟨Y,ca,b3⟩:=id R.pr
 let⟨U,cc,b6⟩:=id R.ro
 show cH λRh ci=>?_
 show⟨_,Z,t,_,0,_,Z,Z,a_.of W,Z,?_⟩
 show⟨_,Z,t,_,1,_,Z,Z,a_.of W,Z,pr,_,Z,.inl (aN.of ca),λl1 n1=>?_⟩
 let c1:aw H4 (Ob H4 l1 (.lst (Y.map V.ref))):=(aw.refl H4).upd n1
 let x1:Ob H4 l1 (.lst (Y.map V.ref)) l1>.lst (Y.map V.ref):=ag
 revert c1 x1
 generalize Ob H4 l1 (.lst (Y.map V.ref))=H5
 intro c1 x1
 show⟨_,Z,t,_,2,_,Z,Z,a_.of (c1 _ _ W),Z,vi,_,Z,.inl (aN.of (c1 _ _ R.vi)),λl2 n2=>?_⟩
 let c2:aw H5 (Ob H5 l2 (.lst (g.vs.map V.int))):=(aw.refl H5).upd n2
 let x2:Ob H5 l2 (.lst (g.vs.map V.int)) l2>.lst (g.vs.map V.int):=ag
 revert c2 x2
 generalize Ob H5 l2 (.lst (g.vs.map V.int))=H6
 intro c2 x2
 let an:=c1.trans c2
 show⟨_,Z,t,_,3,_,Z,Z,a_.of (an _ _ W),Z,ro,_,Z,.inl (aN.of (an _ _ cc)),λl3 n3=>?_⟩
 let c3:aw H6 (Ob H6 l3 (.lst (U.map V.ref))):=(aw.refl H6).upd n3
 let x3:Ob H6 l3 (.lst (U.map V.ref)) l3>.lst (U.map V.ref):=ag
 revert c3 x3
 generalize Ob H6 l3 (.lst (U.map V.ref))=H7
 intro c3 x3
 let af:=an.trans c3
 show⟨_,Z,t,_,4,_,Z,Z,a_.of (af _ _ W),Z,td,Z,.inr ⟨_,.inl (af _ _ R.td),iY S hg.M hg.tt,λl4 n4=>?_⟩⟩
 let c4:aw H7 (Ob H7 l4 (.dT (bg g.R g.C g.ts))):=(aw.refl H7).upd n4
 let x4:Ob H7 l4 (.dT (bg g.R g.C g.ts)) l4>.dT (bg g.R g.C g.ts):=ag
 revert c4 x4
 generalize Ob H7 l4 (.dT (bg g.R g.C g.ts))=H8
 intro c4 x4
 let a4:=af.trans c4
 intro fo dx nx nd ne
 let l:aw H8 (Ob (Ob H8 dx (.own fo)) fo (.ins Oc dx [])):=nN nx nd
 let c:=a4.trans l
 show⟨fo,dx,z,l1,l2,.ref l3,.ref l4,g,Z,ag,hg,c _ _ R.z,⟨Y,l _ _ (c4 _ _ (c3 _ _ (c2 _ _ x1))),aC b3 λb xs e=>c _ _ e⟩,l _ _ (c4 _ _ (c3 _ _ x2)),.inr ⟨l3,Z,U,l _ _ (c4 _ _ x3),aC b6 λb xs e=>c _ _ e⟩,.inr ⟨l4,Z,l _ _ x4⟩,λH9 f5 f0 g7 fC bt m1 m2 m3 m4 da=>⟨Z,?_⟩⟩
 show ci _ _ ?_
 let b5:=a4.trans (fM.same l nx bt)
 let bd:=s4.trans b5
 clear x1 x2 x3 x4 c1 c2 c3 c4 an af a4 l c bt
 show cH λRh ci=>?_
 show⟨_,Z,_,Z,t,g,ss,ns,Z,hG.same (ab.trans bd),h7,λH10 fr eu ep gd=>?_⟩
 let a0:=bd.trans eu
 show⟨_,Z,pi,_,Z,.inl (aN.of (a0 _ _ F)),λpl g5=>?_⟩
 let u1:aw H10 (Ob H10 pl (.lst (m.map V.ref))):=(aw.refl H10).upd g5
 let a6:Ob H10 pl (.lst (m.map V.ref)) pl>.lst (m.map V.ref):=ag
 revert u1 a6
 generalize Ob H10 pl (.lst (m.map V.ref))=ec
 intro u1 a6
 intro nt dn em g1 ih
 let a2:=a0.trans u1
 let l:aw ec (Ob (Ob ec dn (.own nt)) nt (.ins Og dn [])):=nN em g1
 let bE:=a2.trans l
 show⟨nt,dn,pl,m,ns.map (sN g.R g.C),_,0,0,Z,ag,l _ _ a6,aC O λb xs e=>bE _ _ e,Dw P w hg h7.nd λn hn=>(h7.pr n hn).1,(),(),HS,by decide,by decide,by decide,by decide,λH13 nf tt hk hv g4 ge=>⟨Z,?_⟩⟩
 let a7:=fM.same l em hk
 let A:=a2.trans a7
 let bo:=(eu.trans u1).trans a7
 let ah:Ia K H13:=A _ _ (bA _ _ b0)
 show⟨fo,f5,f0,g7,fC,fr,nt,tt,dn,nf,g,j9 g.M ss,ns,fs,hg,Z,da.same bo,hm,a7 _ _ (u1 _ _ gd),yY g.M ss,JH (ai da.rd ep),JH (ai da.td ep),ah,hv,g4,⟨m,ge,aC O λb xs e=>A _ _ e⟩,p2,p6,(λn hn=>⟨(h7.pr n hn).1,by rw[kL,N3 (h7.pr n hn).1,N5 (h7.pr n hn).2.2];rfl⟩),bn,(λj hj=>bv _ (JS<|JU hj<|LK hj)),λH14 pa dy hh gs xp ck s1s sm gc f3 ef g2 er dL f7 h9=>?_⟩
 show ci _ _ ?_
 let keep:∀{b:N8} {x:HO},H13 b>x->(∀ps,x≠.tbl ps)->H14 b>x:=fun{b x} eb nx=>sm b x (λz=>by rw[z,show H13 (fG K "arcs_in").2>(.tbl #[]) from ah] at eb;cases eb;show nx _ Z) eb
 let br:jg H14 pi (ns.map (sN g.R g.C)):=⟨m,keep (A _ _ F) (λ_ z=>by cases z),aC O λb xs e=>keep (A _ _ e) (λ_ z=>by cases z)⟩
 let bb:Aq g.R g.C g.M H14 D ds ts fs:=⟨⟨keep (A _ _ B.fs.hl) (λ_ z=>by cases z),B.fs.len,B.fs.nd,λi hi=>keep (A _ _ (B.fs.ats i hi)) (λ_ z=>by cases z)⟩,B.ok⟩
 show cG λR1 g3=>?_
 show B2 (cw (ak ∅ (ak ∅ ax)) ⟨pi,D,ns,ds,ts,fs,g.L,g.R,g.C,g.M,Z,S,hg.m,br,p6,bb,dl,λH15 tu dk bs s2s c7 hB cv d9 ea ei=>?_⟩)
 show⟨tu,_,Z,a_.of hB,Z,_,_,Z,_,_,Z,Z,?_⟩
 show g3 _ _ ?_
 let es:s1s=s2s:=F4 (ni ((dL.trans ea.symm).map tr) f7 ei)
 subst es
 let bx:Bj ns.length s1s:=λc hc=>by
  have:=ig (dL.mem_iff.mp hc)
  show⟨this.1,this.2.1⟩
 let N:=c7 _ _ gc
 let L:=c7 _ _ g2
 let u:Nb (gN g.R g.C g.M fs H15) ck ((gh (λi=>(0,[i])) (kr id s1s)).map f6):=b9 er (λb ys e=>c7 _ _ e) (λb ys e=>c7 _ _ e)
 let ap:=oM s1s (mH.start ns.length) bx
 let bu:↑ck=↑bs:=by
  let h1:=Nb.length u
  let h2:=Nb.length d9
  let h3:=Nb.length ap
  rw[JF] at h1 h2
  lia
 let be:∀{σ:St} {H':Hp} {f:Nh} {v:V},σ[6]?>some (.ref pa)->H' pa>.ins Od dy gs->cB K Od f->gs.lookup f>v->Ev (rP K (bI 6) f) σ H' v:=λe1 e2 e3 e4 Q q=>⟨_,e1,pa,Od,dy,gs,_,Z,e2,T.cl_TreePaper,e3,e4,q⟩
 show gx (b:=false) (oV (c9 (ay (aR (be Z N T.na_TreePaper_price f3) ∅)) (N5 ())) (c9 (ay (gz (cI (v:=.int (↑ck:Nat)) (ak (be Z N T.na_TreePaper_hills ef) ax) λQ' q'=>⟨_,↑ck,Z,.inl ⟨_,aN.of L,by rw[JF]⟩,q'⟩) (cI (v:=.int (↑bs:Nat)) (ak ∅ ax) λQ' q'=>⟨_,↑bs,Z,.inl ⟨_,aN.of cv,by rw[JF]⟩,q'⟩))) (by rw[bu,N3 Z];rfl))) Z ?_
 generalize hX:(gh (λi=>(0,[i])) (kr id s1s))=X at u ap
 let Xl:↑ck=↑X:=by rw[Nb.length u,JF]
 let bl:↑bs<=200:=by
  let h2:=Nb.length ap
  let h3:↑X<=2*↑(kr id s1s):=by rw[<-hX];show m7 _ _
  let h4:=(kU s1s id).length_le
  let h5:=fE ns fs ns.length
  let h6:ns.length*ns.length<=6*6:=Mb p6 p6
  rw[dL.length_eq] at h4
  lia
 show cG λR2 hw=>?_
 show⟨_,Z,pa,Od,dy,gs,_,Z,N,T.cl_TreePaper,T.na_TreePaper_hills,ef,hh,Z,⟨_,aN.of L⟩,λE nE=>?_⟩
 show aK (K:=K) (xs:=ck.map V.ref) (λi τ H'=>∃(x0:Option V) (es:-N8),τ=[x0]/\aw H15 H'/\H' E>.lst (es.map V.ref)/\Nb (Aa g.R g.C g.M fs H15 H') es ((X.take i).map f6))
  ⟨none,[],Z,(aw.refl H15).upd nE,ag,.nil⟩ (λi τ H' _ hz=>by let⟨_,_,_,s,_⟩:=hz;show aN.of (s _ _ L)) ?_ ?_
 ·rintro i x τ H16 hx ⟨x0,es,rfl,r,aa,I⟩
  let⟨c,hc,rfl⟩:=b_ hx
  let⟨yy,bf,d,kv,f,e1,e2,e3,e4,e5⟩:=fk u hc
  rw[JV] at bf
  let⟨y,hy,rfl⟩:=Kc.mp bf
  let el:↑es<=i:=by rw[Nb.length I,JF,KH];lia
  let hi:i<↑ck:=(JX.mp hc).1
  show gn (fK ?_)
  show⟨_,Z,c,_,0,_,Z,Z,a_.of (r _ _ e1),Z,_,Z,c,_,1,_,Z,Z,a_.of (r _ _ e1),Z,d,Z,.inr ⟨_,.inl (r _ _ e2),iY S hM e3,λd' dK=>⟨by change 2<=N9;decide,λt' dV=>?_⟩⟩⟩
  let o:aw H16 (Ob (Ob H16 d' (.dT (bg g.R g.C kv))) t' (.tup [.int ((f6 y).2.2 - (f6 y).2.1),.ref d'])):=((aw.refl H16).upd dK).upd dV
  let av:Ob (Ob H16 d' (.dT (bg g.R g.C kv))) t' (.tup [.int ((f6 y).2.2 - (f6 y).2.1),.ref d']) t'>.tup [.int ((f6 y).2.2 - (f6 y).2.1),.ref d']:=ag
  let a3:Ob (Ob H16 d' (.dT (bg g.R g.C kv))) t' (.tup [.int ((f6 y).2.2 - (f6 y).2.1),.ref d']) d'>.dT (bg g.R g.C kv):=aj (ai ag dV)<|ag
  let ft:H15 t'=none:=dD (r.trans ((aw.refl H16).upd dK)) dV
  let fd:H15 d'=none:=dD r dK
  revert o av a3
  generalize Ob (Ob H16 d' (.dT (bg g.R g.C kv))) t' (.tup [.int ((f6 y).2.2 - (f6 y).2.1),.ref d'])=di
  intro o av a3
  let k:=o _ _ aa
  show⟨_,k,by rw[JF];lia,_,es++[t'],Z,aP (r.trans o) nE,by rw[ag,JM];rfl,?_⟩
  rw[bp hy,JM]
  show e_ (nO I (λb ys e=>aV k _ _ (o _ _ e)) (λb ys e=>cD k _ _ (o _ _ e))) (.cons ⟨d',kv,f,ft,fd,aV k _ _ av,cD k _ _ a3,e3,e4,e5⟩ .nil)
 rintro τ H16 ⟨x0,es,rfl,r,aa,I⟩
 rw[JF,Xl,Kb] at I
 show hw _ _ ?_
 let el:↑es=↑bs:=by
  have:=Nb.length I
  rw[JF] at this
  lia
 let ce:dk≠E:=λz=>by rw[z,nE] at cv;cases cv
 show⟨_,Z,dk,Z,⟨_,aN.of (r _ _ cv)⟩,?_⟩
 show aK (K:=K) (xs:=bs.map V.ref) (λi σ H'=>∃a1:Option V,σ=[some (.ref a),some (.ref t),some (.ref pi),some (.ref al),some (.ref D),some (.ref fo),some (.ref pa),some (.int (eX (kr id s1s))),some (.ref dk),some (.ref E),a1]/\aw H15 H'/\H' E>.lst ((es.drop i).map V.ref)/\Nb (Aa g.R g.C g.M fs H15 H') es (X.map f6))
  ⟨_,Z,r,aa,I⟩ (λi σ H' _ hz=>by let⟨_,_,s,_⟩:=hz;show aN.of (s _ _ cv)) ?_ ?_
 ·rintro i x σ di hx ⟨a1,rfl,o,k,M⟩
  let⟨b,hb,rfl⟩:=b_ hx
  let hi:i<↑es:=el<|(JX.mp hb).1
  let he:es[i]?=some es[i]:=JU hi
  let⟨b',bm,xx,yy,r1,r2,r3⟩:=fk (tM (mw M) ap (mw d9)) he
  rw[hb] at bm
  cases bm
  let xS:G4 K di es[i] b:=yF S o r1 r3 r2
  rw[MA hi,JW] at k
  show gn ?_
  show kM ⟨_,Z,_,Z,es[i],b,E,_,Z,Z,k,xS,_,Z,fN ?_⟩
  show⟨_,Z,.inl ⟨Z,_,aN.of k⟩,_,Z,es[i],b,E,_,Z,Z,k,xS,?_⟩
  show⟨_,Z,aP o nE,ag,nO M (λb ys e=>aV k _ _ e) (λb ys e=>cD k _ _ e)⟩
 ·rintro σ di ⟨a1,rfl,o,k,M⟩
  show st (cx aB (q _))
end
set_option maxHeartbeats 2000000 in
theorem all_mk {l:PySem.W.OpenLaw}(X:K.In h)(G:h.Ns Nj mg)(e6:mg "law" >.ref fa)
  {bE b0 bx bA bD bv gc:N8} (T:Txt K mg bE b0 bx bA bD bv gc)
  {f7:N8} {eg d8:Option N8} {gt:Array (Option N7)} {eJ ds dl dc cT dr:N7}
  {T7:N8} {g4:Option N8} {f4:Array (Option N7)} {es c2 c0:N7} {ei:Nat}
  {ct:N8} {dK db:Option N8} {dp:Array (Option N7)} {di ea dv c8 cN d6:N7}
  {cr:N8} {d2 ci:Option N8} {dw:Array (Option N7)} {c4 ch cc ce b4 cd:N7}
  {cj:N8} {d3:Option N8} {dT:Array (Option N7)} {dx:N7} {eb:Nat} {b6:Tok} {b3:Tok}
  {cv:N8} {c5 dV:Option N8} {d4:Array (Option N7)} {dk d9 c6 d1 b8 dd:N7}
  {dC dP:N8}
  (ck:ClG K b0 "Net")
  (b5:ClG K bx "TreePaper")
  (cs:ClG K bA "Parts")
  (c3:ClG K bD "Heap")
  (b1:ClG K bv "Floor")
  (l0:fL K "inside" u0)
  (l1:fL K "check_sizes" vj)
  (l2:fL K "check_price" vW)
  (l3:fL K "check_prices" rf)
  (l4:fL K "check_inside" qu)
  (l5:fL K "neighbours" A6)
  (l6:fL K "spots_round" vx)
  (a7:KG K (.ref bv) "__init__" >some (.ref f7))
  (i7:LS K (.ref f7)=true)
  (l7:K.lookup f7>⟨eJ,eg,.func (Kf "__init__" "Floor.__init__" (bX gq) (bK gq) (aM gq) (.ref T7) ds dl dc d8 cT dr),gt⟩)
  (d7:K.lookup T7>⟨es,g4,.seq #[c2,c0] ei,f4⟩)
  (c7:KR K cT "Floor.__init__" =true)
  (k7:Ky K (.ref f7)=true)
  (l8:jN K bv "is_rock" "Floor.is_rock" vg)
  (l9:jN K bv "is_open" "Floor.is_open" uz)
  (f0:jN K bv "is_step" "Floor.is_step" vq)
  (f8:jN K bv "priced" "Floor.priced" uw)
  (er:jN K bv "steps" "Floor.steps" yE)
  (fr:jN K bv "step_price" "Floor.step_price" yB)
  (ff:jN K bv "wiring_price" "Floor.wiring_price" DF)
  (gg:fL K "hill_round" zT)
  (fq:fL K "least_far" Gp)
  (gs:fL K "is_name" DU)
  (e5:fL K "check_unlike" v9)
  (gl:PySem.W.readsIn K bE (.type "type")=true)
  (g2:PySem.W.findCls K (.ref bE) (.type "type") "__init__" >.val (.ref ct))
  (ft:PySem.W.specialIn K (.ref bE) "__getattribute__" >some (.builtin "type.__getattribute__"))
  (eN:K.lookup ct>⟨di,dK,.func (Kf "__init__" "Thing.__init__" (bX jz) (bK jz) (aM jz) .none ea dv c8 db cN d6),dp⟩)
  (gk:KR K cN "Thing.__init__" =true)
  (dm:Ky K (.ref ct)=true)
  (ga:KG K (.ref b0) "__init__" >some (.ref cr))
  (g3:LS K (.ref cr)=true)
  (ex:K.lookup cr>⟨c4,d2,.func (Kf "__init__" "Net.__init__" (bX dS) (bK dS) (aM dS) (.ref cj) ch cc ce ci b4 cd),dw⟩)
  (c1:K.lookup cj>⟨dx,d3,.seq #[.int 0 b6,.int 0 b3] eb,dT⟩)
  (ew:KR K b4 "Net.__init__" =true)
  (hI:Ky K (.ref cr)=true)
  (g5:jN K bA "__init__" "Parts.__init__" A1)
  (e7:jN K bA "stands_for" "Parts.stands_for" u6)
  (fu:jN K bA "together" "Parts.together" GG)
  (f1:jN K bA "merge" "Parts.merge" Hd)
  (g1:fL K "taken" zU)
  (ed:jN K bD "__init__" "Heap.__init__" DM)
  (gd:jN K bD "many" "Heap.many" Eh)
  (em:jN K bD "add" "Heap.add" Gq)
  (eU:jN K bD "sink" "Heap.sink" DV)
  (ez:jN K bD "take" "Heap.take" D4)
  (en:fL K "spread" we)
  (gD:fL K "way_back" GK)
  (f2:fL K "leads_in" q9)
  (fm:PySem.W.nsIn K Nj "arcs_in" >some (.ref cv))
  (fx:K.lookup cv>⟨dk,c5,.func (Kf "arcs_in" "arcs_in" (bX gr) (bK gr) (aM gr) .none d9 c6 d1 dV b8 dd),d4⟩)
  (ef:KR K b8 "arcs_in" =true)
  (d5:Ky K (.ref cv)=true)
  (eo:fL K "without_rings" zu)
  (fl:fL K "without_loose_ends" zi)
  (eq:fL K "pruned" Ek)
  (fC:jN K bx "__init__" "TreePaper.__init__" vc)
  (ge:fL K "hills_round" GY)
  (fy:fL K "links_between" D9)
  (e3:fL K "joined" Ee)
  (et:fL K "_law_cell_at" DL)
  (ee:fL K "_law_mix" Gz)
  (ej:fL K "_law_price" yJ)
  (f3:fL K "_law_sizes" Af)
  (f5:fL K "_law_spot" DR)
  (eP:fL K "_law_pins" DO)
  (e0:fL K "_law_ground" u7)
  (e4:fL K "_law_free" D7)
  (ek:fL K "_law_inside" D_)
  (ep:fL K "_law_step" AS)
  (ey:fL K "_law_arcs" DW)
  (eu:fL K "_law_far" Ed)
  (ev:fL K "_law_all_arcs" DI)
  (e2:fL K "_law_links" AB)
  (el:fL K "_law_round" vR)
  (eH:fL K "_law_due" Hg)
  (eA:fL K "law" B7)
  (ub:Ml K "arcs_in" >(dC,dP))
  (uc:b8=.ref dC)
  (uh:Mm K dC dP=true)
  :∃fd:NM,(∀(s:N_) (v:N7),BindsTo s fd ⟨[v],[]⟩ [("script",v)])/\∀O_:Ng,K.In O_->O_.Ns Nj mg->O_.BuiltinsAt mg (fG K "arcs_in").2->Nj≠(fG K "arcs_in").2->eL l.prog w K mg O_ jH 8 fa fd ["script"] (vL K):=by
 let F7:=vF (st:=gq) l7 c7
 let b7:cA K (Kf "__init__" "Floor.__init__" (bX gq) (bK gq) (aM gq) (.ref T7) ds dl dc d8 cT dr) ["self", "sizes", "prices", "vias", "rocks", "tolls"] []:=E5 Z d7 λus hl=>by let⟨_,_,_,_,_,_,rfl⟩:=Jc hl;show⟨_,Z,Z⟩
 let da:=pF (st:=jz) eN gk dm
 let bu:cA K _ ["self", "name", "half", "room"] []:=da.binds λ_ _ _ _ _ _ us hl=>by let⟨_,_,_,_,rfl⟩:=HK hl;rfl
 let fn:=vF (st:=dS) ex ew
 let am:cA K (Kf "__init__" "Net.__init__" (bX dS) (bK dS) (aM dS) (.ref cj) ch cc ce ci b4 cd) ["self", "name", "pins", "half", "room"] ([]:-N7):=sJ Z c1 5 Z λus hl=>(by let⟨_,_,_,_,_,rfl⟩:=Jl (us:=us) hl;show⟨_,Z,Z⟩)
 let a3:cA K (Kf "__init__" "Net.__init__" (bX dS) (bK dS) (aM dS) (.ref cj) ch cc ce ci b4 cd) ["self", "name", "pins", "half", "room"] ([.int 0 b3]:-N7):=sJ Z c1 4 Z λus hl=>(by let⟨_,_,_,_,rfl⟩:=HK (us:=us) hl;show⟨_,Z,Z⟩)
 let ad:cA K (Kf "__init__" "Net.__init__" (bX dS) (bK dS) (aM dS) (.ref cj) ch cc ce ci b4 cd) ["self", "name", "pins", "half", "room"] ([.int 0 b6,.int 0 b3]:-N7):=sJ Z c1 3 Z λus hl=>(by let⟨_,_,_,rfl⟩:=Jd (us:=us) hl;show⟨_,Z,Z⟩)
 let dL:=pF (st:=gr) fx ef d5
 let br:cA K _ ["floor", "free"] []:=dL.binds λ_ _ _ _ _ _ us hl=>by let⟨_,_,rfl⟩:=Jg hl;rfl
 let⟨fd,F,_,_,_,_,_,_,e⟩:=fL.law X G eA e6
 show⟨fd,λs v=>by subst e;show .of_eq Z,λO_ hB _ dn dy=>?_⟩
 let e1:fG K "arcs_in" =(dC,dP):=by unfold fG;rw[ub];rfl
 let bo:b8=.ref (fG K "arcs_in").1:=e1<|uc
 let be:Mm K (fG K "arcs_in").1 (fG K "arcs_in").2=true:=e1<|uh
 let go:∀{x st k ps sp},fL K x st->ku l.prog w K mg O_ k x x st ps sp->aU l.prog w K mg O_ x k ps sp:=fL.go X G
 let me:∀{C x q st k ps sp},jN K C x q st->ku l.prog w K mg O_ k x q st ps sp->bQ l.prog w K mg O_ C x k ps sp:=jN.go
 let g:=go l0 (xr T)
 let A:=go l1 (xR T hB)
 let o:=go l2 (xm T hB)
 let j:=go l3 (ui T o)
 let a:=go l4 (tN T hB g)
 let O:=go l5 (yz T)
 let H:=go l6 (xU T)
 let J:fv l.prog w K mg O_ bv "Floor" 3 ["self", "sizes", "prices", "vias", "rocks", "tolls"] (pQ bv):=⟨f7,_,yj T F7 A j a,⟨b1.mi,a7,i7,b1.kc⟩,L9 X G b1.n,b7⟩
 let E:=me l8 (xA T a)
 let c:=me l9 (wD T g)
 let p:=me f0 (wW T O c)
 let d:=me f8 (xN T)
 let aa:=me er (zw T H E c d)
 let W:=me fr (AE T hB a p d)
 let av:=me ff (B5 T W)
 let Y:=go gg (AK T)
 let bb:=go fq (FR T)
 let dH:=go gs (Cz T)
 let B:=go e5 (wz T hB)
 let Z0:jG l.prog w K mg O_ bE "__init__" 2 ["self", "name", "half", "room"] (oY b0):=⟨ct,_,yn T da hB dH,⟨⟨_,gl,g2⟩,Z,ft,dm⟩,bu⟩
 let ab:lX l.prog w K mg O_ b0 "Net" 3 ["self", "name", "pins", "half", "room"] (oN b0) 2:=⟨cr,_,Ae T fn hB B Z0,⟨ck.mi,ga,g3,ck.kc⟩,L9 X G ck.n,Cg am a3 ad⟩
 let i:=jN.init (P:=l.prog) (w:=w) (O_:=O_) X G cs g5 (AJ T)
 let f:=me e7 (wq T)
 let bl:=me fu (ED T f)
 let I:=me f1 (Fy T f bl)
 let M:=go g1 (zZ T i I)
 let ah:=jN.init (P:=l.prog) (w:=w) (O_:=O_) X G c3 ed (CT T)
 let a5:=me gd (CM T)
 let bm:=me em (E3 T)
 let a0:=me eU (CV T)
 let an:=me ez (Dk T hB a0)
 let r:=go en (wg T ah a5 bm an)
 let bd:=go gD (EZ T)
 let m:=go f2 (tR T aa)
 let u:aU l.prog w K mg O_ "arcs_in" 6 ["floor", "free"] (mD K mg bv):=⟨cv,_,wA T dL bo be dn dy m,L9 X G fm,d5,br⟩
 let S:=go eo (zW T i I)
 let L:=go fl (AD T)
 let a4:=go eq (Bz T S L)
 let y:=jN.init (P:=l.prog) (w:=w) (O_:=O_) X G b5 fC (w5 T)
 let bf:=go ge (F9 T Y bb)
 let af:=go fy (Cf T)
 let ap:=go e3 (By T av M r bd u a4 y bf af)
 let n:=go et (Bs T)
 let bn:=go ee (ES T)
 let Q:=go ej (zO T bn)
 let U:=go f3 (yt T)
 let b:=go f5 (CL T)
 let ac:=go eP (BJ T n b)
 let D:=go e0 (xK T n Q U b ac)
 let a1:=go e4 (Ci T b)
 let a2:=go ek (Ce T)
 let R:=go ep (yA T a2)
 let ba:=go ey (Cw T R)
 let a6:=go eu (Dc T)
 let ar:=go ev (CK T b ba)
 let N:=go e2 (yN T)
 let z:=go el (w9 T)
 let bi:=go eH (Fz T N z)
 show(FF T J ab ap D a1 a6 ar bi).2 F
theorem walk {l:PySem.W.OpenLaw}{E:(Nh->Option N7)->Ng->Prop}{p:Nr->Ng->Prop}{d:DefRec}{K:Params->JI}(I:l.most>63)(j:d.params.defaults=[])
  (C:∀(w:Nr) (h:Ng),p w h->(K w.params).In h) (b:∃e,(PyProof.Rows.recsOf q).find? (λe=>e.name==("arcs_in" :Nh))>e) (i:∀w:Nr,∃c P,Ml (K w.params) "arcs_in" >(c,P)/\(K w.params).lookup P=none)
  (F:∀(w:Nr) (mg:Nh->Option N7) (fa:N8) (h:Ng),(K w.params).In h->h.Ns Nj mg->mg d.name>.ref fa->
   ∃fd:NM,(∀(s:N_) (u:N7),BindsTo s fd ⟨[u],[]⟩ [("script",u)])/\∀O_:Ng,(K w.params).In O_->O_.Ns Nj mg->O_.BuiltinsAt mg (fG (K w.params) "arcs_in").2->Nj≠(fG (K w.params) "arcs_in").2->eL l.prog w (K w.params) mg O_ jH 8 fa fd ["script"] (vL (K w.params))):
  PySem.W.WalkO q loose E p l.row.toRowW d [] (λf vs=>PySem.call f vs):=by
 let o:∀w:Nr,Ml (K w.params) "arcs_in" >fG (K w.params) "arcs_in"/\(K w.params).lookup (fG (K w.params) "arcs_in").2=none:=λw=>by
  let⟨c,P,h1,h2⟩:=i w
  unfold fG
  rw[h1]
  show⟨Z,h2⟩
 show L2.walk_ofT (n:=63) (k:=8) (x:= "script") (xs:=["arcs_in"]) (CX:=λ_=>jH) (sp:=λw=>vL (K w.params)) I (by decide) j ⟨Z,by decide,by decide,Z⟩ C (λw=>[fG (K w.params) "arcs_in"]) (λy r=>?_) (λw t ht=>?_) (λw mg fa h KX G m=>?_) (λw H a ns v _ i D=>⟨a,ns,Z,D,v,i _ (JJ.mpr Z),λ_=>rfl⟩) λ_ _ _ _ _ z=>z
 ·rw[JJ.mp r];show b
 ·rw[JJ.mp ht];show⟨⟨_,JJ.mpr Z,(o w).1⟩,(o w).2⟩
 ·let⟨fd,h1,h2⟩:=F w mg fa h KX G m
  show⟨fd,h1,λO_ A B g=>h2 O_ A B (g _ (JJ.mpr Z)).1 (g _ (JJ.mpr Z)).2⟩
end K57

end
end
/-! these names are taken, so that the head lays no second forms of the greatest of its objects -/
structure PySem.W.Fast:Prop where
 (tw12669494189705507938 tw14166023727222297392 tw17523792735927641866 tw9236272693717782278 tw14636549940956186181 tw7910767345008626034 tw12657553052850382431 tw2142643337506238705 tw8777663717146576879 tw17707316740672294043 tw3690791453359383029 tw3020463336984054419 tw283310502373268454 tw13463598302997089401 tw3947480510640623392 tw18086921730638554689 tw280796748401180812 tw9457912970422521404 tw307524893833891887 tw6497827929174795167 tw5851733459257021328 tw11960992049032765277 tw6152336025229231789 tw16932930156625689997 tw896937598693702609 tw5814741567657272222 tw16545504430227647022 tw13339118862522018475 tw6013861682023413801 tw11122093349149552311 tw1875121885874716983 tw9475016833003661939 tw15579369549433563328 tw16817953611233966752 tw9952025256392706399 tw13977596099857037849 tw3043415622508417817 tw5406348845363453784 tw17585045656076955993 tw10041703652764222045 tw6147002719270450401 tw185126276647973321 tw12366919668962496206 tw6530487721354878388 tw7480770304319582144 tw17476312923875205309 tw17584157821872359520 tw16343583708381252428 tw17594806436263701934 tw13001480011134578663 tw15449190075669851881 tw10441878113897963067 tw10060664604635663938 tw11318565313167319267 tw2169373768669385652 tw7150111694682590366 tw7812362566136558640 tw12316440296975418271 tw17148633731301294142 tw12929992026037497176 tw2202920557557306771 tw1139152466933376886 tw1444609545192841538 tw4386032227160698272 tw13631195993867667987 tw9135568135791857355 tw13272539386795470205 tw2468661808020209113 tw11552134653724645157 tw270113591694787271 tw8087736380543649007 tw15675422653035332871 tw2126105955826104665 tw419486952618551496 tw16658325590913571409 tw15005974536332089007 tw6990109163667240754 tw5034893712117609570 tw8128353538723376718 tw17831170067410656386 tw16993496494562795847 tw9350271047089197762 tw2209380314242695381 tw5102592601731172890 tw8701758564171397167 tw3937957008833378552 tw2658466727079946920 tw10212204021587448008 tw8436734395657075331 tw6717943611946940915 tw17789896217657472326 tw14881885916325674297 tw10693784058120113156 tw8397667670667761231 tw5110407749583516766 tw2803384353624804027 tw3849362779768515935 tw12295273979359320820 tw14784543204124407569 tw15746678001132471553 tw1241820626439362954 tw7611467069538738978 tw7779033931333546175 tw3189982457357312171 tw7863513387015102727 tw5277388897450803033 tw9721725759190289280 tw8874048320740824725 tw13671393279474700650 tw9593424163572150115 tw14800366635958657539 tw8497659314630816670 tw7120305390271697078 tw9529899015709084429 tw14019107615353773976 tw1959597720222467587 tw13725922362166956426 tw884698118881079542 tw17107209054408410838 tw14660728441097246456 tw16444015336445107372 tw2117734024070386759 tw11401207388316233135 tw6841493713064641808 tw11801119529222902497 tw10608765633155430654 tw18386149595652460024 tw15885035412325041641 tw17232763178300888199 tw1986210920144522020 tw2981740124950758061 tw13267426777705769201 tw16073578413258294149 tw399938636061828967 tw11915794583020221907 tw5475097493956553222 tw13003040634457166738 tw16415530631637748457 tw563683767269831263 tw5842258884851117235 tw9617684515377133190 tw4536366744387496788 tw3212838539578063482 tw2473688817132557139 tw8776970508120420696 tw8539093466837903755 tw16625537968480273344 tw5136790776356315286 tw3697174464744745826 tw8059109550426764112 tw9260307638380440850 tw4631651492709409739 tw17293362010099860325 tw9393663060904363279 tw1490682679225556576 tw3533931778546042700 tw12679106589243697354 tw7957238896968079989 tw3557192890295890207 tw10364842440182006334 tw7350653756484306196 tw7403548524866834977 tw3771949660437194277 tw367040343092564275 tw2870568466679653386 tw3805845298287727587 tw226046475827108902 tw212926538096194968 tw10211295904340056548 tw411118748471644405 tw2812759022780583101 tw3801473902457420442 tw7644857869763436728 tw12799936834423629395 tw247819949840536714 tw6989441938594419290 tw9773962832171425509 tw4729636560739208707 tw128866615445819501 tw11996807406776863743 tw12589293342632199717 tw5899533405207268833 tw12543452553982133503 tw15296543275770310413 tw1659309852683276262 tw5079697019572045424 tw3306106512343834972 tw8215335925731832235 tw10088837077519973531 tw12646044042799103087 tw6951198794659368691 tw2724524792355770578 tw16807698131114196889 tw3292844331808440448 tw2074358079539730780 tw12148147171735079867 tw7269199064833407672 tw10477124092313577154 tw1668788908125862243 tw701526058954968669 tw5469716860270120472 tw13223810423667584866 tw3495888714601658111 tw7251888271787107127 tw986928806280628535 tw15984791289790009142 tw2165283663623234705 tw14030035095619251571 tw13935889930885532182 tw10376810945058282602 tw11939260590614857392 tw10672395715736489194 tw15479570357567522919 tw2930192950627722407 tw9570333436654559134 tw18327943352724788384 tw7095505774190686853 tw738343788473228534 tw7705900696214025458 tw5190171888958736951 tw11605022599951383635 tw10976699170162996230 tw410501711139626207 tw13245792083744015093 tw16922170619962108724 tw12288579256940072459 tw17696277467957208401 tw3131279736592044715 tw2386878464171144664 tw591589559846496409 tw13628237289435965699 tw5052483581144683413 tw14245586164461198360 tw13083928136254746289 tw8509065605062425676 tw1052717015434725991 tw8952153395608034629 tw10335940447129038730 tw4400371276772571582 tw3995209618210780074 tw8226108710523598765 tw369756912346057390 tw2616782528990882818 tw12538762174539143304 tw16867795442023208353 tw13449195029726424770 tw8804068586504532416 tw5101534537560575155 tw2136832478421700942 tw18022875296020138924 tw9575371946355569481 tw4717030802495739406 tw9148038400357304375 tw9506286819311156331 tw726290838268812402 tw15701537138854118717 tw14757486617702565354 tw12913319509824576266 tw8166941575860067856 tw16930478375880633946 tw13548250251251308563 tw10329794819140728416 tw2597042879661286892 tw2817145870988736591 tw15565127168519685760 tw3023186380014495931 tw4088892392650544313 tw13969667329706647383 tw5542977680357446004 tw17456134986168713342 tw15724499192676378050 tw960946964045431358 tw3275733916516622317 tw4440158168468054007 tw16437069944905777392 tw5218396263791676709 tw16773961191958797902 tw16133413113590538250 tw15328953977508332571 tw16758427672185343560 tw7442358995225936722 tw15063431622186760289 tw16145387172481746840 tw12568275062075229109 tw3033618001962710314 tw6625023002289708426 tw17936176224448051818 tw17482200374504135892 tw13826660009322836456 tw17888613241383383564 tw943829652058049308 tw17862348816482255107 tw16661405386598648653 tw5723307595537854925 tw1408647006680471776 tw13843017910364881993 tw6238724575445219878 tw2589429670483310878 tw15436941330751116533 tw5903425519953050623 tw13094291665686521512 tw9924026226869494613 tw15172801639848164985 tw10749357894147270206 tw8368903975351124223 tw2766448593107515593 tw14501875646691906690 tw12603310586378783577 tw9424113267088330116 tw12533507472809070348 tw4566269091926983949 tw3073979227019470396 tw224453057076205393 tw5531141599672259825 tw18144548329954433922 tw9074922043424809525 tw11839085162548223635 tw5118773912146691007 tw6161674669778604878 tw11580468771355861911 tw10541786257261633331 tw9860924573798821502 tw14673152628414929752 tw9150246941950656315 tw15371836748996980519 tw4362990244962391211 tw14225077512276782980 tw9800645467079255722 tw15875735623388345502 tw13394058677952788829 tw17728829852010962861 tw13123850225300570497 tw5199266226846688903 tw12973130598667163251 tw8127462200019966499 tw2738420244420301843 tw3983583630194927510 tw12781312406581739412 tw9373340147009059776 tw11339939289956706687 tw4723777452244183683 tw7047392965194161312 tw2430696699899191765 tw6151674599585483415 tw17594226325595532704 tw4330528709660013995 tw13433015133364289895 tw837647154964289520 tw15110379805763548964 tw17060453130988664394 tw5559779410099185051 tw2527449844329147990 tw9342177433354530162 tw13001761548976699654 tw9120567379020691552 tw12201056207524790582 tw4778501661485612094 tw16713117318505818578 tw13998927970973464389 tw1072709044859277441 tw11454363103963001305 tw5158704717667532530 tw12152586242818410994 tw9388259081228803958 tw17817728290691408513 tw11327832105729784382 tw16596040113758752948 tw1137167664607574453 tw1701330901539607617 tw6662325566517472482 tw16024472113263741414 tw10112995398597159782 tw14356884262966441636 tw10093933172634755713 tw10908484253606154724 tw11537133556089119166 tw470058206710035454 tw5402411344558226094 tw13737041058392019365 tw8317923593306853553 tw12705247741747538484 tw3285431866560835801 tw13752926027943718107 tw6367475778435134850 tw17911444110982931375 tw5074946104614425601 tw10325056866776974650 tw910565218171887812 tw14108344102819199400 tw3252761068452764744 tw17856968351925114861 tw423395314306675075 tw10316162438816154052 tw3117184716786902942 tw679955044584601479 tw8487334889634119070 tw14312661291273699171 tw14443403819754245795 tw3997597461659155886 tw11909561125864766186 tw15327655807238646622 tw2374331918673325192 tw11257179721912730398 tw6522400560341202914 tw17928062743993454825 tw8265131170922283501 tw1466231577178517388 tw5532616689896052269 tw342920767730346322 tw8403259195611870748 tw16134502557756601323 tw14174296907093829983 tw11505451428639120699 tw4421396530587620042 tw2635027701122334998 tw12243257776258419537 tw7356026423826656676 tw397492151054308505 tw1263604964138237574 tw15782009033781440255 tw11577901694112625646 tw12842753859148862241 tw15561935815376672187 tw1718297162052568499 tw14297138823208137752 tw14268932447640894142 tw13482894740019666445 tw10579320147643849784 tw4991710732793890498 tw10820916213189205331 tw5897186505670966125 tw12769988941057792303 tw5230423270490922725 tw3259400578624004315 tw15146180521100457033:True)
open PySem PySem.W PyProof.Rows
set_option maxRecDepth 100000 in
set_option tactic.hygienic true in
set_option maxHeartbeats 0 in
theorem PySem.Challenge.cw_wirefloor_k57_hills_of_all_parts_holds : PySem.Challenge.rw_wirefloor_k57_hills_of_all_parts.Holds := by
  w_on; o_law; k_head; (case hw => w_witness2)
  k_fill
  refine K57.walk (l := PySem.Challenge.rw_wirefloor_k57_hills_of_all_parts) rfl rfl (fun w h Y => PySem.W.km_in_of Y) ⟨_, by first | rfl | decide +kernel⟩ ?T ?F
  case T =>
    intro w
    refine' ⟨392, 388, ?tbx, ?tnx⟩
    (case tbx => kernel_rfl)
    (case tnx => kernel_rfl)
  case F =>
    intro w mg fa h KX G hmg
    have N := fun {n} e => @PySem.W.mg_none_of _ _ _ n KX G e
    have M := fun {n v} e => @PySem.W.mg_of _ _ _ n v KX G e
    refine' K57.all_mk KX G hmg ⟨N ?u0, N ?u1, N ?u2, N ?u3, N ?u4, N ?u5, N ?u6, N ?u7, N ?u8, N ?u9, N ?u10, N ?u11, N ?u12, N ?u13, N ?u14, N ?u15, N ?u16, N ?u17, N ?u18, N ?u19, ⟨?u21, ?u22, ?u23, ?u24⟩, M ?u20, L2.ClG.cl ?h0, M (L2.ClG.n ?h0), ?u25, ?u26, ?u27, ?u28, L2.ClG.cl ?h1, M (L2.ClG.n ?h1), ?u29, ?u30, ?u31, L2.ClG.cl ?h2, M (L2.ClG.n ?h2), ?u32, ?u33, L2.ClG.cl ?h3, M (L2.ClG.n ?h3), ?u34, L2.ClG.cl ?h4, M (L2.ClG.n ?h4), ?u35, ?u36, ?u37, ?u38, ?u39, ⟨_, M (by k_is), ⟨_, rfl⟩⟩, ⟨_, M (by k_is), ⟨_, rfl⟩⟩, ⟨_, M (by k_is), ⟨_, rfl⟩⟩, ⟨_, M (by k_is), ⟨_, rfl⟩⟩, ⟨_, M (by k_is), ⟨_, rfl⟩⟩, ⟨_, M (by k_is), ⟨_, rfl⟩⟩, ⟨_, M (by k_is), ⟨_, rfl⟩⟩, ⟨_, M (by k_is), rfl⟩, fun _ => .inr ⟨⟨.type "tuple", _, .seq #[.int 4 _, .int 16 _, .int 16 _] _, _⟩, _, _, (by k_is), rfl, rfl, (by show 3 <= sizeLine; decide), (.cons ⟨_, rfl⟩ (.cons ⟨_, rfl⟩ (.cons ⟨_, rfl⟩ .nil)))⟩⟩ ?h0 ?h1 ?h2 ?h3 ?h4 ?h5 ?h6 ?h7 ?h8 ?h9 ?h10 ?h11 ?h12 ?h13 ?h14 ?h15 ?h16 ?h17 ?h18 ?h19 ?h20 ?h21 ?h22 ?h23 ?h24 ?h25 ?h26 ?h27 ?h28 ?h29 ?h30 ?h31 ?h32 ?h33 ?h34 ?h35 ?h36 ?h37 ?h38 ?h39 ?h40 ?h41 ?h42 ?h43 ?h44 ?h45 ?h46 ?h47 ?h48 ?h49 ?h50 ?h51 ?h52 ?h53 ?h54 ?h55 ?h56 ?h57 ?h58 ?h59 ?h60 ?h61 ?h62 ?h63 ?h64 ?h65 ?h66 ?h67 ?h68 ?h69 ?h70 ?h71 ?h72 ?h73 ?h74 ?h75 ?h76 ?h77 ?h78 ?h79 ?h80 ?h81 ?h82 ?h83 ?h84
    (case h0|h1|h2|h3|h4 => (refine' ⟨?a, ?b, ?c, ?d, ?e, ?f, ?g⟩; (case a => k_is); (case b => k_is); (case c => k_is); (case d => k_is); (case e => k_is); (case f => k_is); (case g => k_is)))
    (case u0|u1|u2|u3|u4|u5|u6|u7|u8|u9|u10|u11|u12|u13|u14|u15|u16|u17|u18|u19|u20|u21|u22|u23|u24|h12|h13|h14|h15|h16|h17|h29|h30|h31|h32|h33|h34|h35|h36|h37|h38|h39|h40|h54|h55|h56|h57 => k_is)
    (case h5|h6|h7|h8|h9|h10|h11|h25|h26|h27|h28|h45|h51|h52|h53|h58|h59|h60|h62|h63|h64|h65|h66|h67|h68|h69|h70|h71|h72|h73|h74|h75|h76|h77|h78|h79|h80|h81 => (refine' L2.fng ?a (L2.fnat ?b ?c ?d); (case a => k_is); (case b => k_is); (case c => k_is); (case d => k_is)))
    (case h18|h19|h20|h21|h22|h23|h24|h41|h42|h43|h44|h46|h47|h48|h49|h50|h61 => (refine' L2.meg ?a ?i (L2.fnat ?b ?c ?d); (case a => k_is); (case i => k_is); (case b => k_is); (case c => k_is); (case d => k_is)))
    (case h82 => (show PySem.W.tabIn _ _ = some (392, 388); kernel_rfl))
    (case h84 => kernel_rfl)
    (case h83 => rfl)
    (case u25|u26|u27|u28|u29|u30|u31|u32|u33|u34|u35|u36|u37|u38|u39 => show _ = _; k_is)
