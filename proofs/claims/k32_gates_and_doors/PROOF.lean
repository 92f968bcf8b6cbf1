import PyProof.Rows.All
import Wide.All
import OpenK.AllK
import Wide.FinOn
import Lean
import PyProof.EqAt
import PyProof.EqKinds
import PyProof.TupleCall
import OpenK.KRaise
import OpenK.KOwn
import KE.KTryMore
import KE.RegKTryMore
import PyProof.ExcArgsOwn
import KE.KIntText
import KE.KSortTup
import KE.KDictOf
import KE.KRevIter
import KE.KEqDict
import PyProof.Rows.SetFrom
import PyProof.TupleKey
import PyProof.Rows.SetObj
import PyProof.SetRoads
import PyProof.IsiH_list
import PyProof.ZipIter
import PyProof.Rows.TupIter
import PyProof.DictValues
import PyProof.DictWalks
import KE.KDictSum
import KE.KNest
import KE.KLam
import KE.KNestM
import KE.KDictList
import KE.KDictLaws
import PySem.Challenge.RW_wirefloor_k32_gates_and_doors
set_option Elab.async false
set_option linter.all false
set_option maxRecDepth 100000
namespace L2
open PySem PySem.Spec PyProof.Rows
abbrev Key := Sum Int Str
def keyIs : Key → Value → Bool
  | .inl k, v => Value.isInt k v
  | .inr x, v => Value.isStrOf x v
def keyH (w : World) : Key → Int
  | .inl k => hashInt k
  | .inr x => hashStr w x
theorem keyIs_shape : ∀ {k : Key} {v : Value}, keyIs k v = true → (∃ i t, k = Sum.inl i ∧ v = Value.int i t) ∨ (∃ x t, k = Sum.inr x ∧ v = Value.str x t)
  | .inl i, v, h => by
    obtain ⟨t, e⟩ := Value.isInt_shape (k := i) (v := v) h
    exact .inl ⟨i, t, rfl, e⟩
  | .inr x, v, h => by
    obtain ⟨t, e⟩ := Value.isStrOf_shape (x := x) (v := v) h
    exact .inr ⟨x, t, rfl, e⟩
theorem keyIs_int (i : Int) (t : Tok) : keyIs (.inl i) (.int i t) = true := by simp [keyIs, Value.isInt]
theorem keyIs_str (x : Str) (t : Tok) : keyIs (.inr x) (.str x t) = true := by simp [keyIs, Value.isStrOf]
theorem key_ll (a b : Int) : decide ((Sum.inl a : Key) = Sum.inl b) = (a == b) := by
  by_cases e : a = b
  · subst e; simp
  · have h : ¬ (Sum.inl a : Key) = Sum.inl b := fun q => e (Sum.inl.inj q)
    rw [decide_eq_false h]
    exact (beq_eq_false_iff_ne.mpr e).symm
theorem key_rr (a b : Str) : decide ((Sum.inr a : Key) = Sum.inr b) = decide (a = b) := by
  by_cases e : a = b
  · subst e; simp
  · have h : ¬ (Sum.inr a : Key) = Sum.inr b := fun q => e (Sum.inr.inj q)
    rw [decide_eq_false h, decide_eq_false e]
theorem key_lr (a : Int) (b : Str) : decide ((Sum.inl a : Key) = Sum.inr b) = false := decide_eq_false (fun q => nomatch q)
theorem key_rl (a : Str) (b : Int) : decide ((Sum.inr a : Key) = Sum.inl b) = false := decide_eq_false (fun q => nomatch q)
def mixKind (prog : Program) (w : World) : PySem.KeyKind prog w Key where
  is := keyIs
  hash := keyH w
  inj := fun v a b ha hb => by
    rcases keyIs_shape ha with ⟨i, t, rfl, rfl⟩ | ⟨x, t, rfl, rfl⟩
    · rcases keyIs_shape hb with ⟨j, u, rfl, e⟩ | ⟨y, u, rfl, e⟩
      · injection e with e1 _; rw [e1]
      · exact nomatch e
    · rcases keyIs_shape hb with ⟨j, u, rfl, e⟩ | ⟨y, u, rfl, e⟩
      · exact nomatch e
      · injection e with e1 _; rw [e1]
  byValue := fun k v h => by
    rcases keyIs_shape h with ⟨i, t, rfl, rfl⟩ | ⟨x, t, rfl, rfl⟩ <;> rfl
  pyHash := fun hv h => by
    rcases keyIs_shape hv with ⟨i, t, rfl, rfl⟩ | ⟨x, t, rfl, rfl⟩
    · exact wpAny_pyHash_int h
    · exact wpAny_pyHash_str h
  eqBool := fun hu hv h => by
    rcases keyIs_shape hu with ⟨i, t, rfl, rfl⟩ | ⟨x, t, rfl, rfl⟩
    · rcases keyIs_shape hv with ⟨j, u, rfl, rfl⟩ | ⟨y, u, rfl, rfl⟩
      · rw [key_ll] at h; exact wpAny_eqBool_int h
      · rw [key_lr] at h; exact SeqAt.EqAt.int_str i t y u _ _ _ _ h
    · rcases keyIs_shape hv with ⟨j, u, rfl, rfl⟩ | ⟨y, u, rfl, rfl⟩
      · rw [key_rl] at h; exact SeqAt.EqAt.str_int x t j u _ _ _ _ h
      · rw [key_rr] at h; exact wpAny_eqBool_str h
  «strs» := fun k x t v h => by
    rcases keyIs_shape h with ⟨i, u, rfl, e⟩ | ⟨y, u, rfl, e⟩
    · exact nomatch e
    · injection e with e1 _
      subst e1
      cases v <;> rfl
theorem mixKind_int (prog : Program) (w : World) (i : Int) (t : Tok) : (mixKind prog w).is (.inl i) (.int i t) = true := keyIs_int i t
theorem mixKind_str (prog : Program) (w : World) (x : Str) (t : Tok) : (mixKind prog w).is (.inr x) (.str x t) = true := keyIs_str x t
end L2
namespace L2
open PySem PySem.Spec PyProof.Rows
inductive V where
  | non | bl (b : Bool) | int (i : Int) | str (x : Str) | byt (b : Array UInt8) | flt (b : UInt64) | ref (a : Addr) | ty (n : String)
  deriving DecidableEq
def RelV : V → Value → Prop
  | .non, u => u = Value.none
  | .bl b, u => u = Value.bool b
  | .int i, u => ∃ t, u = Value.int i t
  | .str x, u => ∃ t, u = Value.str x t
  | .byt b, u => ∃ t, u = Value.bytes b t
  | .flt b, u => ∃ t, u = Value.float b t
  | .ref a, u => u = Value.ref a
  | .ty n, u => u = Value.type n
abbrev Vals : List V → List Value → Prop := Paired RelV
theorem Vals.length {xs : List V} {us : List Value} (r : Vals xs us) : xs.length = us.length := Paired.length r
theorem Vals.get : ∀ {xs : List V} {us : List Value} {i : Nat} {x : V}, Vals xs us → xs[i]? = some x → ∃ u, us[i]? = some u ∧ RelV x u
  | _, _, _, _, .nil, e => by simp at e
  | _, _, 0, _, .cons r _, e => by simp at e; subst e; exact ⟨_, rfl, r⟩
  | _, _, i + 1, x, .cons _ t, e => by
    obtain ⟨u, h1, h2⟩ := Vals.get (i := i) (x := x) t (by simpa using e)
    exact ⟨u, by simpa using h1, h2⟩
theorem Vals.set {x : V} {u : Value} (r : RelV x u) : ∀ {xs : List V} {us : List Value} (i : Nat), Vals xs us → Vals (xs.set i x) (us.set i u)
  | _, _, _, .nil => .nil
  | _, _, 0, .cons _ t => .cons r t
  | _, _, i + 1, .cons q t => .cons q (Vals.set r i t)
theorem Vals.append : ∀ {xs ys : List V} {us ws : List Value}, Vals xs us → Vals ys ws → Vals (xs ++ ys) (us ++ ws)
  | _, _, _, _, .nil, s => s
  | _, _, _, _, .cons r t, s => .cons r (Vals.append t s)
theorem Vals.take : ∀ {xs : List V} {us : List Value} (n : Nat), Vals xs us → Vals (xs.take n) (us.take n)
  | _, _, 0, _ => .nil
  | _, _, _ + 1, .nil => .nil
  | _, _, n + 1, .cons r t => .cons r (Vals.take n t)
theorem Vals.drop : ∀ {xs : List V} {us : List Value} (n : Nat), Vals xs us → Vals (xs.drop n) (us.drop n)
  | _, _, 0, r => r
  | _, _, _ + 1, .nil => .nil
  | _, _, n + 1, .cons _ t => Vals.drop n t
theorem Vals.none_of : ∀ {xs : List V} {us : List Value} {i : Nat}, Vals xs us → xs[i]? = none → us[i]? = none := fun {xs us i} r e => by
  have h1 := r.length
  have h2 : xs.length ≤ i := List.getElem?_eq_none_iff.mp e
  exact List.getElem?_eq_none_iff.mpr (by omega)
def RelO : Option V → Option Value → Prop
  | some v, some u => RelV v u
  | none, none => True
  | _, _ => False
def KV {κ : Type} : List (κ × V) → List (κ × Value) → Prop := Paired fun (p : κ × V) (q : κ × Value) => p.1 = q.1 ∧ RelV p.2 q.2
def kV : Key → V
  | .inl i => .int i
  | .inr x => .str x
inductive HO where
  | lst (xs : List V)
  | tup (xs : List V)
  | dK (kvs : List (Key × V)) | dT (kvs : List (List Key × V))
  | set (S : Int → Bool) (n : Nat)
  | ins (C dx : Addr) (fs : List (Str × V))
  | own (x : Addr)
  | xd (fs : List (Str × V))
  | met (f x : Addr)
  | rng (lo hi : Int)
  | frz (o : Obj) (u : HO)
  | tbl (ps : Array Value)
  | ext (φ : Heap → Prop)
abbrev Hp := Addr → Option HO
def upd (H : Hp) (a : Addr) (o : HO) : Hp := fun b => if b = a then some o else H b
theorem upd_same {H : Hp} {a : Addr} {o : HO} : upd H a o a = some o := by unfold upd; rw [if_pos rfl]
theorem upd_ne {H : Hp} {a b : Addr} {o : HO} (h : b ≠ a) : upd H a o b = H b := by unfold upd; rw [if_neg h]
theorem ne_of {H : Hp} {a b : Addr} {o u : HO} (h : H a = some o) (h' : H b = some u) (d : o ≠ u) : a ≠ b := by
  intro e; subst e; rw [h] at h'; exact d (Option.some.inj h')
theorem ne_of_none {H : Hp} {a b : Addr} {o : HO} (h : H a = some o) (h' : H b = none) : a ≠ b := by
  intro e; subst e; rw [h] at h'; cases h'
section
variable (P : Program) (w : World)
def ObjOk (H : Hp) (h : Heap) (a : Addr) : HO → Prop
  | .lst xs => xs.length ≤ sizeLine ∧ ∃ (its : List Value) (n : Nat), Vals xs its ∧ h.get? a = some { cls := .type "list", data := .seq its.toArray n }
  | .tup xs => xs.length ≤ sizeLine ∧ ∃ its : List Value, Vals xs its ∧ IsTup h a its.toArray
  | .dK kvs => kvs.length ≤ sizeLine ∧ (a == sysModules) = false ∧ ∃ vs, KV kvs vs ∧ h.DictOf (mixKind P w) a vs
  | .dT kvs => kvs.length ≤ sizeLine ∧ (a == sysModules) = false ∧ ∃ xs : List (List Key × Addr × Value),
      Paired (fun (p : List Key × V) (q : List Key × Addr × Value) => p.1 = q.1 ∧ H q.2.1 = some (.tup (p.1.map kV)) ∧ RelV p.2 q.2.2) kvs xs ∧
      ∃ o es ep, h.get? a = some o ∧ o.ExactDict ∧ o.data = .dict es ep ∧ es.toList = xs.map (entryOfKey (tupleKind (mixKind P w))) ∧ (xs.map (·.1)).Nodup
  | .set S n => h.SetOf (intKind P w) a S n
  | .ins C dx fs => H dx = some (.own a) ∧ fs.length ≤ 1000 ∧ dx ≠ a ∧ h.get? a = some (PySem.W.instObj C dx) ∧
      ∃ mA, h.Ns1 dx mA ∧ (∀ f, RelO (fs.lookup f) (mA f)) ∧ PySem.Within mA (fs.map (·.1))
  | .own _ => ∃ o, h.get? a = some o
  | .xd fs => ∃ mA, h.Ns1 a mA ∧ ∀ f, RelO (fs.lookup f) (mA f)
  | .rng lo hi => ∃ t u v, h.get? a = some { cls := .type "range", data := .fields #[.int lo t, .int hi u, .int 1 v] }
  | .frz o u => h.get? a = some o ∧ ObjOk H h a u
  | .tbl ps => h.get? a = some { cls := .none, data := .fields ps }
  | .met f x => h.get? a = some (PySem.W.methodObj (.ref f) (.ref x))
  | .ext φ => φ h ∧ (∃ o, h.get? a = some o) ∧ ∀ h1 h2 : Heap, φ h1 → (∀ o, h1.get? a = some o → h2.get? a = some o) → φ h2
def HOk (H : Hp) (h : Heap) : Prop := ∀ a o, H a = some o → ObjOk P w H h a o
end
section
variable {P : Program} {w : World} {H H' : Hp} {h h' : Heap} {a : Addr} {o : HO}
theorem ObjOk.lt (x : ObjOk P w H h a o) : a < h.objs.size := by
  cases o with
  | lst xs => obtain ⟨_, _, _, _, e⟩ := x; exact Heap.lt_size e
  | tup xs => obtain ⟨_, _, _, p⟩ := x; exact p.lt
  | dK kvs => obtain ⟨_, _, _, _, o, _, _, e, _⟩ := x; exact Heap.lt_size e
  | dT kvs => obtain ⟨_, _, _, _, o, _, _, e, _⟩ := x; exact Heap.lt_size e
  | set S n => obtain ⟨o, _, _, _, e, _⟩ := x; exact Heap.lt_size e
  | ins C dx fs => obtain ⟨_, _, _, e, _⟩ := x; exact Heap.lt_size e
  | own y => obtain ⟨_, e⟩ := x; exact Heap.lt_size e
  | xd fs => obtain ⟨_, ⟨_, _, _, e, _⟩, _⟩ := x; exact Heap.lt_size e
  | rng lo hi => obtain ⟨_, _, _, e⟩ := x; exact Heap.lt_size e
  | frz ob u => obtain ⟨e, _⟩ := x; exact Heap.lt_size e
  | tbl ps => exact Heap.lt_size (show h.get? a = some _ from x)
  | met f y => exact Heap.lt_size (show h.get? a = some _ from x)
  | ext φ => obtain ⟨_, ⟨_, e⟩, _⟩ := x; exact Heap.lt_size e
theorem Paired.mapP {α β : Type} {F G : α → β → Prop} : ∀ {l₁ : List α} {l₂ : List β}, Paired F l₁ l₂ → (∀ a b, F a b → G a b) → Paired G l₁ l₂
  | _, _, .nil, _ => .nil
  | _, _, .cons r t, f => .cons (f _ _ r) (Paired.mapP t f)
theorem ObjOk.stay (x : ObjOk P w H h a o) (k : ∀ b u, (b = a ∨ H b = some (.own a)) → h.get? b = some u → h'.get? b = some u)
    (ho : ∀ b, H b = some (.own a) → H' b = some (.own a)) (ht : ∀ b xs, H b = some (.tup xs) → H' b = some (.tup xs)) : ObjOk P w H' h' a o := by
  induction o with
  | lst xs => obtain ⟨z, its, n, r, e⟩ := x; exact ⟨z, its, n, r, k _ _ (.inl rfl) e⟩
  | tup xs => obtain ⟨z, its, r, ob, e, c⟩ := x; exact ⟨z, its, r, ob, k _ _ (.inl rfl) e, c⟩
  | dK kvs => obtain ⟨z, y, vs, r, ob, es, ep, e, c⟩ := x; exact ⟨z, y, vs, r, ob, es, ep, k _ _ (.inl rfl) e, c⟩
  | dT kvs =>
    obtain ⟨z, y, xs, r, ob, es, ep, e, c⟩ := x
    exact ⟨z, y, xs, Paired.mapP r fun p q z => ⟨z.1, ht _ _ z.2.1, z.2.2⟩, ob, es, ep, k _ _ (.inl rfl) e, c⟩
  | set S n => obtain ⟨ob, es, ep, t, e, c⟩ := x; exact ⟨ob, es, ep, t, k _ _ (.inl rfl) e, c⟩
  | ins C dx fs =>
    obtain ⟨d, z, ne, e, mA, ⟨od, es, ep, e2, c⟩, r⟩ := x
    exact ⟨ho _ d, z, ne, k _ _ (.inl rfl) e, mA, ⟨od, es, ep, k _ _ (.inr d) e2, c⟩, r⟩
  | own y => obtain ⟨ob, e⟩ := x; exact ⟨ob, k _ _ (.inl rfl) e⟩
  | xd fs => obtain ⟨mA, ⟨od, es, ep, e, c⟩, r⟩ := x; exact ⟨mA, ⟨od, es, ep, k _ _ (.inl rfl) e, c⟩, r⟩
  | rng lo hi => obtain ⟨t, u, v, e⟩ := x; exact ⟨t, u, v, k _ _ (.inl rfl) e⟩
  | frz ob u ih => obtain ⟨e, q⟩ := x; exact ⟨k _ _ (.inl rfl) e, ih q⟩
  | tbl ps =>
    have e : h.get? a = some { cls := .none, data := .fields ps } := x
    show h'.get? a = some { cls := .none, data := .fields ps }
    exact k a _ (.inl rfl) e
  | met f y =>
    have e : h.get? a = some (PySem.W.methodObj (.ref f) (.ref y)) := x
    show h'.get? a = some (PySem.W.methodObj (.ref f) (.ref y))
    exact k a _ (.inl rfl) e
  | ext φ => obtain ⟨p, ⟨o, e⟩, st⟩ := x; exact ⟨st _ _ p fun o q => k _ _ (.inl rfl) q, ⟨o, k _ _ (.inl rfl) e⟩, st⟩
theorem HOk.lt (x : HOk P w H h) (e : H a = some o) : a < h.objs.size := (x a o e).lt
theorem HOk.fresh (x : HOk P w H h) (e : h.objs.size ≤ a) : H a = none := by
  cases q : H a with
  | none => rfl
  | some u => exact absurd (Nat.lt_of_lt_of_le (x.lt q) e) (Nat.lt_irrefl _)
theorem HOk.kept (x : HOk P w H h) (k : ∀ b u, h.get? b = some u → h'.get? b = some u) : HOk P w H h' := fun a o e =>
  (x a o e).stay (fun b u _ q => k b u q) (fun _ q => q) fun _ _ q => q
theorem HOk.laid (x : HOk P w H h) (k : ∀ b u, h.get? b = some u → h'.get? b = some u) (hp : h.objs.size ≤ a) (new : ObjOk P w (upd H a o) h' a o) : HOk P w (upd H a o) h' := fun b u e => by
  have hn := x.fresh hp
  by_cases hb : b = a
  · subst hb; rw [upd_same] at e; cases e; exact new
  · rw [upd_ne hb] at e
    exact (x b u e).stay (fun c v _ q => k c v q) (fun c q => by rw [upd_ne (ne_of_none q hn)]; exact q) fun c xs q => by rw [upd_ne (ne_of_none q hn)]; exact q
end
def Rd (H : Hp) (a : Addr) (u : HO) : Prop := H a = some u ∨ ∃ o, H a = some (.frz o u)
theorem Rd.of {H : Hp} {a : Addr} {u : HO} (h : H a = some u) : Rd H a u := .inl h
theorem Rd.ok {P : Program} {w : World} {H : Hp} {h : Heap} {a : Addr} {u : HO} (r : Rd H a u) (x : HOk P w H h) : ObjOk P w H h a u := by
  rcases r with r | ⟨o, r⟩
  · exact x a u r
  · obtain ⟨_, q⟩ := x a _ r
    exact q
def Mut : Option HO → Prop
  | some (.lst _) => True
  | some (.dK _) => True
  | some (.dT _) => True
  | some (.set _ _) => True
  | some (.ins _ _ _) => True
  | some (.ext _) => True
  | _ => False
section
variable {P : Program} {w : World} {H : Hp} {h h' : Heap} {x e : Addr} {o' : HO}
theorem HOk.write (ok : HOk P w H h) (mu : Mut (H x)) (he : e = x ∨ H e = some (.own x)) (k : ∀ b u, b ≠ e → h.get? b = some u → h'.get? b = some u) (heo : ∃ u, h'.get? e = some u)
    (new : ObjOk P w (upd H x o') h' x o') : HOk P w (upd H x o') h' := fun b u q => by
  have nown : ∀ c y, H c = some (.own y) → c ≠ x := fun c y r z => by subst z; rw [r] at mu; exact mu
  have ntup : ∀ c xs, H c = some (.tup xs) → c ≠ x := fun c xs r z => by subst z; rw [r] at mu; exact mu
  by_cases hb : b = x
  · subst hb; rw [upd_same] at q; cases q; exact new
  · rw [upd_ne hb] at q
    by_cases hbe : b = e
    · have q' : H b = some (.own x) := by
        rcases he with z | z
        · exact absurd (hbe.trans z) hb
        · rw [hbe]; exact z
      rw [q] at q'; cases q'
      obtain ⟨v, hv⟩ := heo
      exact ⟨v, by rw [hbe]; exact hv⟩
    · refine (ok b u q).stay (fun c v hc r => k c v ?_ r) (fun c r => by rw [upd_ne (nown c b r)]; exact r) fun c xs r => by rw [upd_ne (ntup c xs r)]; exact r
      rcases hc with rfl | hc
      · exact hbe
      · rintro rfl
        rcases he with z | z
        · exact nown c b hc z
        · rw [hc] at z; cases z; exact hb rfl
end
structure Un (fs ex : List Addr) (H H' : Hp) (h h' : Heap) : Prop where
  keep : ∀ b o, h.get? b = some o → H b = none → b ∉ fs → b ∉ ex → h'.get? b = some o
  slot : ∀ b o, h.get? b = some o → H b = none → b ∈ fs → b ∉ ex → ∃ sl, h'.get? b = some { o with slots := sl }
  free : ∀ b o, h.get? b = some o → H b = none → b ∉ ex → H' b = none
  there : ∀ b o, h.get? b = some o → b ∉ ex → ∃ o', h'.get? b = some o'
  tups : ∀ b xs, H b = some (.tup xs) → H' b = some (.tup xs)
  frzs : ∀ b o u, H b = some (.frz o u) → H' b = some (.frz o u)
  tbls : ∀ b ps, H b = some (.tbl ps) → ∃ more, H' b = some (.tbl (ps ++ more))
section
variable {fs fs' ex ex' : List Addr} {H H1 H2 : Hp} {h h1 h2 h' : Heap} {a x e : Addr} {o : HO}
theorem Un.any (u : Un fs ex H H1 h h1) {b : Addr} {ob : Obj} (q : h.get? b = some ob) (n : H b = none) (hx : b ∉ ex) : ∃ sl, h1.get? b = some { ob with slots := sl } := by
  by_cases hb : b ∈ fs
  · exact u.slot b ob q n hb hx
  · exact ⟨ob.slots, u.keep b ob q n hb hx⟩
theorem Un.trans (a : Un fs ex H H1 h h1) (b : Un fs ex H1 H2 h1 h2) : Un fs ex H H2 h h2 where
  keep := fun c ob q n hc hx => b.keep c ob (a.keep c ob q n hc hx) (a.free c ob q n hx) hc hx
  slot := fun c ob q n hc hx => by
    obtain ⟨sl, e1⟩ := a.slot c ob q n hc hx
    obtain ⟨sl', e2⟩ := b.slot c _ e1 (a.free c ob q n hx) hc hx
    exact ⟨sl', e2⟩
  free := fun c ob q n hx => by
    obtain ⟨o', e1⟩ := a.there c ob q hx
    exact b.free c o' e1 (a.free c ob q n hx) hx
  there := fun c ob q hx => by
    obtain ⟨o', e1⟩ := a.there c ob q hx
    exact b.there c o' e1 hx
  tups := fun c xs q => b.tups c xs (a.tups c xs q)
  frzs := fun c ob xs q => b.frzs c ob xs (a.frzs c ob xs q)
  tbls := fun c ps q => by
    obtain ⟨m1, e1⟩ := a.tbls c ps q
    obtain ⟨m2, e2⟩ := b.tbls c _ e1
    exact ⟨m1 ++ m2, by rw [e2, Array.append_assoc]⟩
theorem Un.kept (k : ∀ b u, h.get? b = some u → h'.get? b = some u) : Un fs ex H H h h' :=
  ⟨fun b ob q _ _ _ => k b ob q, fun b ob q _ _ _ => ⟨ob.slots, k b ob q⟩, fun _ _ _ n _ => n, fun b ob q _ => ⟨ob, k b ob q⟩, fun _ _ q => q, fun _ _ _ q => q, fun _ ps q => ⟨#[], by rw [q]; simp⟩⟩
theorem Un.refl : Un fs ex H H h h := Un.kept fun _ _ q => q
theorem Un.laid (k : ∀ b u, h.get? b = some u → h'.get? b = some u) (hp : h.objs.size ≤ a) (hn : H a = none) : Un fs ex H (upd H a o) h h' where
  keep := fun b u q _ _ _ => k b u q
  slot := fun b u q _ _ _ => ⟨u.slots, k b u q⟩
  free := fun b u q n _ => by rw [upd_ne (Nat.ne_of_lt (Nat.lt_of_lt_of_le (Heap.lt_size q) hp))]; exact n
  there := fun b u q _ => ⟨u, k b u q⟩
  tups := fun b xs q => by rw [upd_ne (ne_of_none q hn)]; exact q
  frzs := fun b u xs q => by rw [upd_ne (ne_of_none q hn)]; exact q
  tbls := fun b ps q => ⟨#[], by rw [upd_ne (ne_of_none q hn), q]; simp⟩
theorem Un.write (mu : Mut (H x)) (he : e = x ∨ H e = some (.own x)) (k : ∀ b u, b ≠ e → h.get? b = some u → h'.get? b = some u) (heo : ∃ u, h'.get? e = some u) : Un fs ex H (upd H x o) h h' := by
  have hx : ∀ b, H b = none → b ≠ x := fun b n z => by subst z; rw [n] at mu; exact mu
  have hb : ∀ b, H b = none → b ≠ e := fun b n z => by
    subst z
    rcases he with r | r
    · exact hx b n r
    · rw [n] at r; cases r
  have hm : ∀ b u, H b = some u → ¬ Mut (some u) → b ≠ x := fun b u q nm z => by subst z; rw [q] at mu; exact nm mu
  refine ⟨fun b u q n _ _ => k b u (hb b n) q, fun b u q n _ _ => ⟨u.slots, k b u (hb b n) q⟩, fun b u q n _ => by rw [upd_ne (hx b n)]; exact n, fun b u q _ => ?_,
    fun b xs q => by rw [upd_ne (hm b _ q fun z => z)]; exact q, fun b u xs q => by rw [upd_ne (hm b _ q fun z => z)]; exact q, fun b ps q => ⟨#[], by rw [upd_ne (hm b _ q fun z => z), q]; simp⟩⟩
  by_cases hbe : b = e
  · subst hbe; exact heo
  · exact ⟨u, k b u hbe q⟩
theorem Un.mono (u : Un fs ex H H1 h h1) (hs : ∀ b ∈ fs, b ∈ fs') (hx : ∀ b ∈ ex, b ∈ ex') : Un fs' ex' H H1 h h1 :=
  ⟨fun b ob q n hb he => u.keep b ob q n (fun z => hb (hs b z)) fun z => he (hx b z), fun _ _ q n _ he => u.any q n fun z => he (hx _ z), fun b ob q n he => u.free b ob q n fun z => he (hx b z), fun b ob q he => u.there b ob q fun z => he (hx b z), u.tups, u.frzs, u.tbls⟩
end
def trk (h : Heap) (H : Hp) : List Addr := (List.range h.objs.size).filter fun a => (H a).isSome
def hidT (h : Heap) (H : Hp) : Heap := PySem.W.hideAll h (trk h H)
theorem hidT_size (h : Heap) (H : Hp) : (hidT h H).objs.size = h.objs.size := PySem.W.hideAll_size _ _
theorem hidT_get {h : Heap} {H : Hp} {b : Addr} {o : Obj} (e : h.get? b = some o) (n : H b = none) : (hidT h H).get? b = some o :=
  PySem.W.hideAll_get _ e fun hm => by
    have q : (H b).isSome = true := (List.mem_filter.mp hm).2
    rw [n] at q; simp at q
theorem of_hidT {h : Heap} {H : Hp} {b : Addr} {o : Obj} (e : (hidT h H).get? b = some o) : h.get? b = some o ∧ H b = none := by
  have e' : h.get? b = some o := PySem.W.of_hideAll (trk h H) e
  refine ⟨e', ?_⟩
  cases q : H b with
  | none => rfl
  | some x =>
    have hm : b ∈ trk h H := List.mem_filter.mpr ⟨List.mem_range.mpr (Heap.lt_size e'), by simp [q]⟩
    have z : (hidT h H).get? b = none := PySem.W.hideAll_none (trk h H) hm
    rw [z] at e; cases e
def allNews (g h : Heap) (L : Addr) : List (Addr × Obj) := (List.range h.objs.size).filterMap fun a => if a = L ∨ (g.get? a).isSome = true then none else (h.get? a).map fun o => (a, o)
def rest (g h : Heap) (L d : Addr) : List (Addr × Obj) := (allNews g h L).filter fun p => decide (p.1 ≠ d)
end L2
namespace L2
open PySem PySem.Spec PyProof.Rows
structure Mod (K : PySem.W.Frag) (mg : Str → Option Value) (base : Heap) : Prop where
  kin : K.In base
  glob : base.Ns mainGlobals mg
  blt : ∃ mb, base.Ns builtinsNs mb ∧ ∀ x : Str, x ≠ "__name__" → mb x = bootBuiltins x
  nolimit : base.NoLimit
structure Cx where
  prog : Program
  w : World
  K : PySem.W.Frag
  mg : Str → Option Value
  base : Heap
  A : Around
  N : List Str
  s₀ : Shared
  H₀ : Hp
  env : Env
  outer : List Env
  stack : List Env
  ex : List Addr
  fn : Str → Bool
  calm : Bool
  pn : List (Addr × Obj)
  xe : Value → Shared → Prop
def frs (l : List Env) : List Addr := l.filterMap (·.frame)
abbrev Cx.fs (X : Cx) : List Addr := frs X.outer
def Vis (sc : Scope) (x : Str) : Prop := sc.names.lookup x = some .local ∨ sc.names.lookup x = some .cell ∨ sc.names.lookup x = some .free
def Loc (sc : Scope) (x : Str) : Prop := sc.names.lookup x = some .local ∨ sc.names.lookup x = some .cell
def Look (env : Env) (h : Heap) (m : Str → Option Value) (x : Str) (u : Value) : Prop :=
  (env.kindOf x = some .local ∧ m x = some u) ∨ ((env.kindOf x = some .cell ∨ env.kindOf x = some .free) ∧ ∃ c, env.cells.lookup x = some c ∧ h.IsCell c (some u))
structure Cx.Ok (X : Cx) : Prop where
  mod : Mod X.K X.mg X.base
  kind : X.env.scope.kind = .function
  glob : X.env.globals = mainGlobals
  blt : X.env.builtins = builtinsNs
  above : X.s₀.heap.objs.size ≤ X.env.locals
  inj : ∀ x y c, X.env.cells.lookup x = some c → X.env.cells.lookup y = some c → x = y
  has : ∀ x, (X.env.kindOf x = some .cell ∨ X.env.kindOf x = some .free) → ∃ c, X.env.cells.lookup x = some c
  cab : ∀ x c, X.fn x = true → X.env.cells.lookup x = some c → X.s₀.heap.objs.size ≤ c
  hd : X.calm = true → X.A.handled = none
  frames : X.A.frames = some X.stack
  stk : X.stack = X.outer ∨ (X.stack = X.env :: X.outer ∧ X.env.frame = some X.env.locals)
  exf : ∀ b ∈ X.ex, b ≠ X.env.locals ∧ ∀ x c, X.env.cells.lookup x = some c → c ≠ b
  bs : ∀ b o, X.base.get? b = some o → X.s₀.heap.get? b = some o ∧ X.H₀ b = none
  bsz : X.base.objs.size ≤ X.s₀.heap.objs.size
  noex : ∀ b o, X.base.get? b = some o → b ∉ X.ex
  exfs : ∀ b ∈ X.ex, b ∉ X.fs
  funs : X.s₀.heap.FunFrames X.base X.outer
  frf : ∀ b ∈ X.fs, X.H₀ b = none
structure Inv (X : Cx) (pins : List (Addr × Obj)) (σ : List (Option V)) (H : Hp) (s : Shared) : Prop where
  ok : X.Ok
  os : s.os = X.s₀.os
  bare : AllBare s.gens
  base : Un X.fs X.ex X.H₀ H X.s₀.heap s.heap
  loc : ∃ m, s.heap.Ns X.env.locals m ∧ ∀ (i : Nat) (x : Str) (v : V), X.N[i]? = some x → σ[i]? = some (some v) → Vis X.env.scope x → ∃ u, RelV v u ∧ Look X.env s.heap m x u
  cell : ∀ x c, X.env.cells.lookup x = some c → ∃ v, s.heap.IsCell c v
  free : H X.env.locals = none
  freeC : ∀ x c, X.env.cells.lookup x = some c → H c = none
  pin : ∀ p ∈ X.pn ++ pins, s.heap.get? p.1 = some p.2 ∧ H p.1 = none ∧ p.1 ≠ X.env.locals ∧ p.1 ∉ X.fs ∧ ∀ v, p.2.data ≠ .cell v
  hok : HOk X.prog X.w H s.heap
  len : σ.length = X.N.length
section
variable {X : Cx} {pins : List (Addr × Obj)} {σ : List (Option V)} {H H' : Hp} {s : Shared} {h' : Heap}
theorem Cx.Ok.nofr (ok : X.Ok) {b : Addr} {o : Obj} (e : X.base.get? b = some o) : b ∉ X.fs := fun hb => by
  have := (ok.funs.mem hb).1
  rw [e] at this; cases this
theorem Inv.bs (I : Inv X pins σ H s) : ∀ b o, X.base.get? b = some o → s.heap.get? b = some o ∧ H b = none := fun b o e =>
  ⟨I.base.keep b o (I.ok.bs b o e).1 (I.ok.bs b o e).2 (I.ok.nofr e) (I.ok.noex b o e), I.base.free b o (I.ok.bs b o e).1 (I.ok.bs b o e).2 (I.ok.noex b o e)⟩
theorem Inv.bk (I : Inv X pins σ H s) : ∀ b o, X.base.get? b = some o → s.heap.get? b = some o := fun b o e => (I.bs b o e).1
theorem Inv.mod (I : Inv X pins σ H s) : Mod X.K X.mg X.base := I.ok.mod
theorem Inv.kIn (I : Inv X pins σ H s) : X.K.In s.heap := I.ok.mod.kin.keeps I.bk
theorem Inv.nolimit (I : Inv X pins σ H s) : s.heap.NoLimit := I.ok.mod.nolimit.keeps I.bk
theorem Inv.fr (I : Inv X pins σ H s) : ∃ m, Fr X.base X.env.locals s.heap m :=
  let ⟨m, hn, _⟩ := I.loc
  ⟨m, hn, I.bk, Nat.le_trans I.ok.bsz I.ok.above⟩
theorem Inv.lt (I : Inv X pins σ H s) : X.env.locals < s.heap.objs.size := let ⟨_, hn, _⟩ := I.loc; hn.lt
theorem Inv.sz (I : Inv X pins σ H s) : X.s₀.heap.objs.size ≤ s.heap.objs.size := Nat.le_trans I.ok.above (Nat.le_of_lt I.lt)
theorem Inv.nofs (I : Inv X pins σ H s) {a : Addr} (h : s.heap.objs.size ≤ a) : a ∉ X.fs := fun hb => by
  obtain ⟨_, o, ho, _⟩ := I.ok.funs.mem hb
  exact absurd (Nat.lt_of_lt_of_le (Heap.lt_size ho) (Nat.le_trans I.sz h)) (Nat.lt_irrefl _)
theorem Inv.cne (I : Inv X pins σ H s) : ∀ x c, X.env.cells.lookup x = some c → c ≠ X.env.locals := fun x c e z => by
  obtain ⟨v, o, ho, hd⟩ := I.cell x c e
  obtain ⟨m, ⟨o', es, ep, ho', hd', _⟩, _⟩ := I.loc
  rw [z, ho'] at ho; cases ho; rw [hd'] at hd; cases hd
theorem Inv.funs (I : Inv X pins σ H s) : s.heap.FunFrames X.base X.outer := by
  have all : ∀ (l : List Env), (∀ b ∈ frs l, b ∈ X.fs) → X.s₀.heap.FunFrames X.base l → s.heap.FunFrames X.base l := by
    intro l
    induction l with
    | nil => intro _ _; trivial
    | cons env r ih =>
      intro hs hl
      obtain ⟨hk, ⟨L, o, hf, hn, ho, hd⟩, hr⟩ := hl
      have hL : L ∈ X.fs := hs L (by unfold frs; rw [List.filterMap_cons, hf]; exact List.mem_cons_self)
      obtain ⟨sl, e⟩ := I.base.slot L o ho (I.ok.frf L hL) hL fun z => I.ok.exfs L z hL
      exact ⟨hk, ⟨L, _, hf, hn, e, hd⟩, ih (fun b hb => hs b (by unfold frs; rw [List.filterMap_cons, hf]; exact List.mem_cons_of_mem _ hb)) hr⟩
  exact all X.outer (fun _ hb => hb) I.ok.funs
theorem Inv.stack (I : Inv X pins σ H s) : s.heap.FunFrames X.base X.stack := by
  rcases I.ok.stk with e | ⟨e, hf⟩
  · rw [e]; exact I.funs
  · rw [e]
    obtain ⟨m, hn, _⟩ := I.loc
    refine .cons (by rw [I.ok.kind]; decide) hf hn ?_ I.funs
    exact Heap.get?_none_of_le (Nat.le_trans I.ok.bsz I.ok.above)
theorem Inv.stkSub (I : Inv X pins σ H s) : ∀ b ∈ frs X.stack, b ∈ X.env.locals :: X.fs := fun b hb => by
  rcases I.ok.stk with e | ⟨e, hf⟩
  · rw [e] at hb; exact List.mem_cons_of_mem _ hb
  · rw [e] at hb
    unfold frs at hb
    rw [List.filterMap_cons, hf] at hb
    exact hb
theorem Inv.stkFree (I : Inv X pins σ H s) : ∀ b ∈ frs X.stack, H b = none := fun b hb => by
  rcases List.mem_cons.mp (I.stkSub b hb) with e | hb
  · rw [e]; exact I.free
  · obtain ⟨_, o, ho, _⟩ := I.ok.funs.mem hb
    exact I.base.free b o ho (I.ok.frf b hb) fun z => I.ok.exfs b z hb
theorem Inv.step {g' : Array GenState} {t' : Nat} {d' : Drawn} {ch : List Addr} (I : Inv X pins σ H s)
    (hch : ∀ b ∈ ch, (b ∈ X.ex ∨ X.s₀.heap.objs.size ≤ b) ∧ b ≠ X.env.locals ∧ (∀ x c, X.env.cells.lookup x = some c → c ≠ b) ∧ ∀ p ∈ X.pn ++ pins, p.1 ≠ b)
    (keep : ∀ b o, b ≠ X.env.locals → b ∉ X.fs → b ∉ ch → s.heap.get? b = some o → H b = none → h'.get? b = some o)
    (slot : ∀ b o, b ≠ X.env.locals → b ∈ X.fs → b ∉ ch → s.heap.get? b = some o → H b = none → ∃ sl, h'.get? b = some { o with slots := sl }) (free : ∀ b o, b ∉ ch → s.heap.get? b = some o → H b = none → H' b = none)
    (there : ∀ b o, b ∉ ch → s.heap.get? b = some o → ∃ o', h'.get? b = some o')
    (tups : ∀ b xs, H b = some (.tup xs) → H' b = some (.tup xs)) (frzs : ∀ b o u, H b = some (.frz o u) → H' b = some (.frz o u)) (tbls : ∀ b ps, H b = some (.tbl ps) → ∃ more, H' b = some (.tbl (ps ++ more)))
    (ns : ∀ m, s.heap.Ns X.env.locals m → h'.Ns X.env.locals m) (hok : HOk X.prog X.w H' h') (hg : AllBare g') :
    Inv X pins σ H' { s with heap := h', gens := g', drawn := d', toks := t' } := by
  have neL : ∀ b o, X.s₀.heap.get? b = some o → b ≠ X.env.locals := fun b o e => Nat.ne_of_lt (Nat.lt_of_lt_of_le (Heap.lt_size e) I.ok.above)
  have neC : ∀ b o, X.s₀.heap.get? b = some o → b ∉ X.ex → b ∉ ch := fun b o e hx hb => by
    rcases (hch b hb).1 with z | z
    · exact hx z
    · exact absurd (Nat.lt_of_lt_of_le (Heap.lt_size e) z) (Nat.lt_irrefl _)
  have cellK : ∀ x c, X.env.cells.lookup x = some c → ∀ v, s.heap.IsCell c v → h'.IsCell c v := fun x c e v ⟨o, ho, hd⟩ => by
    have nch : c ∉ ch := fun z => (hch c z).2.2.1 x c e rfl
    by_cases hc : c ∈ X.fs
    · obtain ⟨sl, q⟩ := slot c o (I.cne x c e) hc nch ho (I.freeC x c e)
      exact ⟨_, q, hd⟩
    · exact ⟨o, keep c o (I.cne x c e) hc nch ho (I.freeC x c e), hd⟩
  refine ⟨I.ok, I.os, hg, ⟨fun b o e n hb hx => ?_, fun b o e n hb hx => ?_, fun b o e n hx => ?_, fun b o e hx => ?_, fun b xs e => tups b xs (I.base.tups b xs e), fun b o xs e => frzs b o xs (I.base.frzs b o xs e), fun b ps e => ?_⟩, ?_, fun x c e => ?_, ?_, fun x c e => ?_, fun p hp => ?_, hok, I.len⟩
  · exact keep b o (neL b o e) hb (neC b o e hx) (I.base.keep b o e n hb hx) (I.base.free b o e n hx)
  · obtain ⟨sl, e1⟩ := I.base.slot b o e n hb hx
    obtain ⟨sl', e2⟩ := slot b _ (neL b o e) hb (neC b o e hx) e1 (I.base.free b o e n hx)
    exact ⟨sl', e2⟩
  · obtain ⟨o', e1⟩ := I.base.there b o e hx
    exact free b o' (neC b o e hx) e1 (I.base.free b o e n hx)
  · obtain ⟨o', e1⟩ := I.base.there b o e hx
    exact there b o' (neC b o e hx) e1
  · obtain ⟨m1, e1⟩ := I.base.tbls b ps e
    obtain ⟨m2, e2⟩ := tbls b _ e1
    exact ⟨m1 ++ m2, by rw [e2, Array.append_assoc]⟩
  · obtain ⟨m, hn, hl⟩ := I.loc
    refine ⟨m, ns m hn, fun i x v e1 e2 e3 => ?_⟩
    obtain ⟨u, r, l⟩ := hl i x v e1 e2 e3
    refine ⟨u, r, ?_⟩
    rcases l with l | ⟨k, c, e, z⟩
    · exact .inl l
    · exact .inr ⟨k, c, e, cellK x c e _ z⟩
  · obtain ⟨v, z⟩ := I.cell x c e
    exact ⟨v, cellK x c e v z⟩
  · obtain ⟨m, ⟨o, _, _, ho, _⟩, _⟩ := I.loc
    exact free _ o (fun z => (hch _ z).2.1 rfl) ho I.free
  · obtain ⟨v, o, ho, hd⟩ := I.cell x c e
    exact free c o (fun z => (hch c z).2.2.1 x c e rfl) ho (I.freeC x c e)
  · obtain ⟨e, n, ne, nf, d⟩ := I.pin p hp
    have nch : p.1 ∉ ch := fun z => (hch p.1 z).2.2.2 p hp rfl
    exact ⟨keep p.1 p.2 ne nf nch e n, free p.1 p.2 nch e n, ne, nf, d⟩
theorem Inv.un {t' : Nat} (I : Inv X pins σ H s) (u : Un X.fs [] H H' s.heap h') (hok : HOk X.prog X.w H' h') : Inv X pins σ H' { s with heap := h', toks := t' } := by
  obtain ⟨m, ⟨o, es, ep, ho, r⟩, _⟩ := id I.loc
  obtain ⟨sl, hL⟩ := u.any ho I.free (by simp)
  exact I.step (g' := s.gens) (d' := s.drawn) (ch := []) (fun _ z => nomatch z) (fun b o _ hb _ e n => u.keep b o e n hb (by simp)) (fun b o _ hb _ e n => u.slot b o e n hb (by simp)) (fun b o _ e n => u.free b o e n (by simp)) (fun b o _ e => u.there b o e (by simp)) u.tups u.frzs u.tbls (fun m' hm => by
    obtain ⟨o', es', ep', ho', r'⟩ := hm
    rw [ho] at ho'; cases ho'
    exact ⟨_, es', ep', hL, r'⟩) hok I.bare
theorem Inv.call {g' : Array GenState} {t' : Nat} {d' : Drawn} {ch : List Addr} (I : Inv X pins σ H s) (u : Un (frs X.stack) ch H H' s.heap h') (hok : HOk X.prog X.w H' h') (hg : AllBare g')
    (hch : ∀ b ∈ ch, (b ∈ X.ex ∨ X.s₀.heap.objs.size ≤ b) ∧ b ≠ X.env.locals ∧ (∀ x c, X.env.cells.lookup x = some c → c ≠ b) ∧ ∀ p ∈ X.pn ++ pins, p.1 ≠ b) :
    Inv X pins σ H' { s with heap := h', gens := g', drawn := d', toks := t' } := by
  obtain ⟨m, ⟨o, es, ep, ho, r⟩, _⟩ := id I.loc
  obtain ⟨sl, hL⟩ := u.any ho I.free fun z => (hch _ z).2.1 rfl
  exact I.step (ch := ch) hch (fun b o hL hb hc e n => u.keep b o e n (fun z => (List.mem_cons.mp (I.stkSub b z)).elim hL hb) hc) (fun b o _ _ hc e n => u.any e n hc) (fun b o hc e n => u.free b o e n hc) (fun b o hc e => u.there b o e hc) u.tups u.frzs u.tbls (fun m' hm => by
    obtain ⟨o', es', ep', ho', r'⟩ := hm
    rw [ho] at ho'; cases ho'
    exact ⟨_, es', ep', hL, r'⟩) hok hg
theorem Inv.turned {t' : Nat} {it : Addr} (I : Inv X pins σ H s) (k : ∀ b o, b ≠ it → s.heap.get? b = some o → h'.get? b = some o) (hn : H it = none) (hL : it ≠ X.env.locals)
    (h1 : it ∈ X.ex ∨ X.s₀.heap.objs.size ≤ it) (h2 : ∀ x c, X.env.cells.lookup x = some c → c ≠ it) (h3 : ∀ p ∈ X.pn ++ pins, p.1 ≠ it) : Inv X pins σ H { s with heap := h', toks := t' } := by
  have nit : ∀ b u, H b = some u → b ≠ it := fun b u e z => by rw [z, hn] at e; cases e
  refine I.step (g' := s.gens) (d' := s.drawn) (ch := [it]) (fun b hb => ?_) (fun b o _ _ hc e _ => k b o (fun z => hc (by simp [z])) e) (fun b o _ _ hc e _ => ⟨o.slots, k b o (fun z => hc (by simp [z])) e⟩) (fun _ _ _ _ n => n)
    (fun b o hc e => ⟨o, k b o (fun z => hc (by simp [z])) e⟩) (fun _ _ e => e) (fun _ _ _ e => e) (fun b ps e => ⟨#[], by rw [e]; simp⟩) (fun m hm => ?_) (fun b u e => ?_) I.bare
  · have e : b = it := by simpa using hb
    subst e
    exact ⟨h1, hL, h2, h3⟩
  · obtain ⟨o, es, ep, ho, r⟩ := hm
    exact ⟨o, es, ep, k _ o (Ne.symm hL) ho, r⟩
  · refine (I.hok b u e).stay (fun c v hc q => k c v ?_ q) (fun _ q => q) fun _ _ q => q
    rcases hc with z | z
    · rw [z]; exact nit b u e
    · exact nit c _ z
theorem Inv.tok (I : Inv X pins σ H s) (t : Nat) : Inv X pins σ H { s with toks := t } := I.un (h' := s.heap) (t' := t) Un.refl I.hok
theorem Inv.kept {t' : Nat} (I : Inv X pins σ H s) (k : ∀ b u, s.heap.get? b = some u → h'.get? b = some u) : Inv X pins σ H { s with heap := h', toks := t' } := I.un (Un.kept k) (I.hok.kept k)
theorem Inv.laid {a : Addr} {o : HO} {t' : Nat} (I : Inv X pins σ H s) (k : ∀ b u, s.heap.get? b = some u → h'.get? b = some u) (hp : s.heap.objs.size ≤ a) (new : ObjOk X.prog X.w (upd H a o) h' a o) :
    Inv X pins σ (upd H a o) { s with heap := h', toks := t' } := I.un (Un.laid k hp (I.hok.fresh hp)) (I.hok.laid k hp new)
theorem Inv.write {x e : Addr} {o : HO} {t' : Nat} (I : Inv X pins σ H s) (mu : Mut (H x)) (he : e = x ∨ H e = some (.own x)) (k : ∀ b u, b ≠ e → s.heap.get? b = some u → h'.get? b = some u) (heo : ∃ u, h'.get? e = some u)
    (new : ObjOk X.prog X.w (upd H x o) h' x o) : Inv X pins σ (upd H x o) { s with heap := h', toks := t' } := I.un (Un.write mu he k heo) (I.hok.write mu he k heo new)
theorem Inv.pins_of {pins' : List (Addr × Obj)} (I : Inv X pins σ H s) (h : ∀ p ∈ pins', s.heap.get? p.1 = some p.2 ∧ H p.1 = none ∧ p.1 ≠ X.env.locals ∧ p.1 ∉ X.fs ∧ ∀ v, p.2.data ≠ .cell v) : Inv X pins' σ H s :=
  ⟨I.ok, I.os, I.bare, I.base, I.loc, I.cell, I.free, I.freeC, fun p hp => (List.mem_append.mp hp).elim (fun z => I.pin p (List.mem_append_left _ z)) (h p), I.hok, I.len⟩
theorem nodup_ix {N : List Str} (hN : N.Nodup) {i j : Nat} {x : Str} (a : N[i]? = some x) (b : N[j]? = some x) : i = j := by
  obtain ⟨h1, e1⟩ := List.getElem?_eq_some_iff.mp a
  obtain ⟨h2, e2⟩ := List.getElem?_eq_some_iff.mp b
  exact (List.getElem_inj hN).mp (e1.trans e2.symm)
theorem store_ok2 {M : Model} {A : Around} {E : Value → Shared → Prop} {i : Nat} {x : Str} {v : V} {u : Value} {Q : Unit → Shared → Prop} (I : Inv X pins σ H s) (hN : X.N.Nodup) (hi : X.N[i]? = some x) (hx : Loc X.env.scope x) (r : RelV v u)
    (h : ∀ s', Inv X pins (σ.set i (some v)) H s' → (∃ a, Heap.SameBut a s.heap s'.heap ∧ (a = X.env.locals ∨ X.env.cells.lookup x = some a)) → Q () s') (hf : X.fn x = true ∨ X.env.scope.names.lookup x = some .local := by first | exact .inl rfl | exact .inr rfl | assumption) : wpAny M A (storeName X.env x u) Q E s := by
  obtain ⟨m, hn, hl⟩ := id I.loc
  have hcls : (X.env.scope.kind == .class || (X.env.scope.kind == .module && X.env.locals != X.env.globals)) = false := by rw [I.ok.kind]; rfl
  have hiσ : i < σ.length := by rw [I.len]; exact (List.getElem?_eq_some_iff.mp hi).1
  have cne := I.cne
  have tracked : ∀ {a : Addr} {h' : Heap}, (∃ o, s.heap.get? a = some o ∧ H a = none) → Heap.SameBut a s.heap h' → HOk X.prog X.w H h' := fun {a h'} ha hs b ob e => by
    obtain ⟨_, _, hfree⟩ := ha
    refine (I.hok b ob e).stay (fun c w' hc q => (hs.2 c ?_).trans q) (fun _ q => q) fun _ _ q => q
    rintro rfl
    rcases hc with rfl | hc
    · rw [hfree] at e; cases e
    · rw [hfree] at hc; cases hc
  rcases hx with hk | hk
  · refine wpAny_storeName_local hk hn (fun h' hn' hs => ?_) hcls
    obtain ⟨oL, _, _, hoL, _⟩ := id hn
    refine h _ ⟨I.ok, I.os, I.bare, ⟨fun b o e n hb hx => ?_, fun b o e n hb hx => ?_, I.base.free, fun b o e hx => ?_, I.base.tups, I.base.frzs, I.base.tbls⟩, ⟨_, hn', fun j y v' e1 e2 e3 => ?_⟩, fun y c e => ?_, I.free, I.freeC, fun p hp => ?_, tracked ⟨oL, hoL, I.free⟩ hs, by simpa using I.len⟩ ⟨_, hs, .inl rfl⟩
    · exact (hs.2 b (Nat.ne_of_lt (Nat.lt_of_lt_of_le (Heap.lt_size e) I.ok.above))).trans (I.base.keep b o e n hb hx)
    · obtain ⟨sl, e1⟩ := I.base.slot b o e n hb hx
      exact ⟨sl, (hs.2 b (Nat.ne_of_lt (Nat.lt_of_lt_of_le (Heap.lt_size e) I.ok.above))).trans e1⟩
    · obtain ⟨o', e1⟩ := I.base.there b o e hx
      exact ⟨o', (hs.2 b (Nat.ne_of_lt (Nat.lt_of_lt_of_le (Heap.lt_size e) I.ok.above))).trans e1⟩
    · by_cases hj : j = i
      · subst hj
        rw [hi] at e1; cases e1
        rw [List.getElem?_set_self hiσ] at e2
        cases e2
        exact ⟨u, r, .inl ⟨hk, by simp⟩⟩
      · rw [List.getElem?_set_ne (Ne.symm hj)] at e2
        obtain ⟨u', r', q⟩ := hl j y v' e1 e2 e3
        refine ⟨u', r', ?_⟩
        rcases q with ⟨k, e⟩ | ⟨k, c, e, z⟩
        · refine .inl ⟨k, ?_⟩
          have : y ≠ x := fun e => hj (nodup_ix hN e1 (e ▸ hi))
          simp [this, e]
        · exact .inr ⟨k, c, e, z.sameBut hs (cne y c e)⟩
    · obtain ⟨w', z⟩ := I.cell y c e
      exact ⟨w', z.sameBut hs (cne y c e)⟩
    · obtain ⟨e, n, ne, nf, d⟩ := I.pin p hp
      exact ⟨(hs.2 p.1 ne).trans e, n, ne, nf, d⟩
  · have hfn : X.fn x = true := by
      rcases hf with z | z
      · exact z
      · rw [z] at hk; cases hk
    obtain ⟨c, hc⟩ := I.ok.has x (.inl hk)
    obtain ⟨w', z⟩ := I.cell x c hc
    refine wpAny_storeName_cell I.ok.kind hk hc z (fun h' hc' hs => ?_)
    obtain ⟨oc, hoc, hocd⟩ := id z
    refine h { s with heap := h' } ⟨I.ok, I.os, I.bare, ⟨fun b o e n hb hx => ?_, fun b o e n hb hx => ?_, I.base.free, fun b o e hx => ?_, I.base.tups, I.base.frzs, I.base.tbls⟩, ⟨m, hn.sameBut hs (Ne.symm (cne x c hc)), fun j y v' e1 e2 e3 => ?_⟩, fun y c' e => ?_, I.free, I.freeC, fun p hp => ?_, tracked ⟨oc, hoc, I.freeC x c hc⟩ hs, by simpa using I.len⟩ ⟨c, hs, .inr hc⟩
    · exact (hs.2 b (Nat.ne_of_lt (Nat.lt_of_lt_of_le (Heap.lt_size e) (I.ok.cab x c hfn hc)))).trans (I.base.keep b o e n hb hx)
    · obtain ⟨sl, e1⟩ := I.base.slot b o e n hb hx
      exact ⟨sl, (hs.2 b (Nat.ne_of_lt (Nat.lt_of_lt_of_le (Heap.lt_size e) (I.ok.cab x c hfn hc)))).trans e1⟩
    · obtain ⟨o', e1⟩ := I.base.there b o e hx
      exact ⟨o', (hs.2 b (Nat.ne_of_lt (Nat.lt_of_lt_of_le (Heap.lt_size e) (I.ok.cab x c hfn hc)))).trans e1⟩
    · by_cases hj : j = i
      · subst hj
        rw [hi] at e1; cases e1
        rw [List.getElem?_set_self hiσ] at e2
        cases e2
        exact ⟨u, r, .inr ⟨.inl hk, c, hc, hc'⟩⟩
      · rw [List.getElem?_set_ne (Ne.symm hj)] at e2
        obtain ⟨u', r', q⟩ := hl j y v' e1 e2 e3
        refine ⟨u', r', ?_⟩
        rcases q with q | ⟨k, c', e, z'⟩
        · exact .inl q
        · refine .inr ⟨k, c', e, z'.sameBut hs ?_⟩
          rintro rfl
          exact hj (nodup_ix hN e1 (I.ok.inj _ _ _ e hc ▸ hi))
    · by_cases hcc : c' = c
      · subst hcc; exact ⟨_, hc'⟩
      · obtain ⟨w2, z2⟩ := I.cell y c' e
        exact ⟨w2, z2.sameBut hs hcc⟩
    · obtain ⟨e, n, ne, nf, d⟩ := I.pin p hp
      refine ⟨(hs.2 p.1 ?_).trans e, n, ne, nf, d⟩
      intro q
      rw [q, hoc] at e
      have q' : oc = p.2 := Option.some.inj e
      exact d w' (by rw [← q']; exact hocd)
theorem store_ok {M : Model} {A : Around} {E : Value → Shared → Prop} {i : Nat} {x : Str} {v : V} {u : Value} {Q : Unit → Shared → Prop} (I : Inv X pins σ H s) (hN : X.N.Nodup) (hi : X.N[i]? = some x) (hx : Loc X.env.scope x) (r : RelV v u)
    (h : ∀ s', Inv X pins (σ.set i (some v)) H s' → Q () s') (hf : X.fn x = true ∨ X.env.scope.names.lookup x = some .local := by first | exact .inl rfl | exact .inr rfl | assumption) : wpAny M A (storeName X.env x u) Q E s :=
  store_ok2 I hN hi hx r (fun s' I' _ => h s' I') hf
theorem Inv.call' {s' : Shared} {ch : List Addr} (I : Inv X pins σ H s) (ho : s'.os = s.os) (u : Un (frs X.stack) ch H H' s.heap s'.heap) (hok : HOk X.prog X.w H' s'.heap) (hg : AllBare s'.gens)
    (hch : ∀ b ∈ ch, (b ∈ X.ex ∨ X.s₀.heap.objs.size ≤ b) ∧ b ≠ X.env.locals ∧ (∀ x c, X.env.cells.lookup x = some c → c ≠ b) ∧ ∀ p ∈ X.pn ++ pins, p.1 ≠ b) : Inv X pins σ H' s' := by
  obtain ⟨h', g', d', t', o'⟩ := s'
  have e : o' = s.os := ho
  subst e
  exact I.call (g' := g') (t' := t') (d' := d') u hok hg hch
end
abbrev XK := Value → Option Addr → Hp → Prop
abbrev St := List (Option V)
abbrev VK := V → Hp → Prop
abbrev TE := St → Hp → VK → Prop
abbrev TT := St → Hp → (Bool → Hp → Prop) → Prop
abbrev TA := St → Hp → (List V → Hp → Prop) → Prop
structure Ends where
  nx : St → Hp → Prop
  rt : VK
  bk : St → Hp → Prop := fun _ _ => False
  ct : St → Hp → Prop := fun _ _ => False
abbrev TS := Ends → St → Hp → Prop
def EP (X : Cx) (pins : List (Addr × Obj)) (σ : St) (Q : VK) (u : Value) (s' : Shared) : Prop := ∃ v H', Inv X pins σ H' s' ∧ RelV v u ∧ Q v H'
def TP (X : Cx) (pins : List (Addr × Obj)) (σ : St) (Q : Bool → Hp → Prop) (b : Bool) (s' : Shared) : Prop := ∃ H', Inv X pins σ H' s' ∧ Q b H'
def AP (X : Cx) (pins : List (Addr × Obj)) (σ : St) (Q : List V → Hp → Prop) (us : List Value) (s' : Shared) : Prop := ∃ vs H', Inv X pins σ H' s' ∧ Vals vs us ∧ Q vs H'
def SP (X : Cx) (pins : List (Addr × Obj)) (D : Ends) (f : Flow) (s' : Shared) : Prop :=
  match f with
  | .next => ∃ σ' H', Inv X pins σ' H' s' ∧ D.nx σ' H'
  | .brk => ∃ σ' H', Inv X pins σ' H' s' ∧ D.bk σ' H'
  | .cont => ∃ σ' H', Inv X pins σ' H' s' ∧ D.ct σ' H'
  | .ret u => ∃ v σ' H', Inv X pins σ' H' s' ∧ RelV v u ∧ D.rt v H'
def PE (X : Cx) (e : Expr) (t : TE) : Prop :=
  ∀ (pins : List (Addr × Obj)) (s : Shared) (σ : St) (H : Hp) (Q : VK), Inv X pins σ H s → t σ H Q → wpAny (model X.prog X.w) X.A (eval e X.env) (EP X pins σ Q) X.xe s
def PT (X : Cx) (e : Expr) (t : TT) : Prop :=
  ∀ (pins : List (Addr × Obj)) (s : Shared) (σ : St) (H : Hp) (Q : Bool → Hp → Prop), Inv X pins σ H s → t σ H Q → wpAny (model X.prog X.w) X.A (isTrue e X.env (eval e X.env)) (TP X pins σ Q) X.xe s
def PW (X : Cx) (e : Expr) (t : TT) : Prop :=
  ∀ (whole : Sem Value) (pins : List (Addr × Obj)) (s : Shared) (σ : St) (H : Hp) (Q : Bool → Hp → Prop), Inv X pins σ H s → t σ H Q → wpAny (model X.prog X.w) X.A (isTrue e X.env whole) (TP X pins σ Q) X.xe s
theorem PW.pt {X : Cx} {e : Expr} {t : TT} (h : PW X e t) : PT X e t := h _
def PA (X : Cx) (es : List Expr) (t : TA) : Prop :=
  ∀ (pos : Pos) (pins : List (Addr × Obj)) (s : Shared) (σ : St) (H : Hp) (Q : List V → Hp → Prop), Inv X pins σ H s → t σ H Q → wpAny (model X.prog X.w) X.A (spliced (backTo pos (starEach es X.env))) (AP X pins σ Q) X.xe s
def PS (X : Cx) (st : Stmt) (t : TS) : Prop :=
  ∀ (pins : List (Addr × Obj)) (s : Shared) (σ : St) (H : Hp) (D : Ends), Inv X pins σ H s → t D σ H → wpAny (model X.prog X.w) X.A (exec st X.env) (SP X pins D) X.xe s
def PSs (X : Cx) (st : List Stmt) (t : TS) : Prop :=
  ∀ (pins : List (Addr × Obj)) (s : Shared) (σ : St) (H : Hp) (D : Ends), Inv X pins σ H s → t D σ H → wpAny (model X.prog X.w) X.A (execs st X.env) (SP X pins D) X.xe s
theorem thn {α : Type} {t : Sem α} {Q Q' : α → Shared → Prop} {M : Model} {A : Around} {E : Value → Shared → Prop} {s : Shared} (h : wpAny M A t Q E s) (hQ : ∀ a s, Q a s → Q' a s) : wpAny M A t Q' E s := wpAny_mono h hQ fun _ _ x => x
end L2
namespace L2
open PySem PySem.Spec PyProof.Rows
section
variable {X : Cx}
def tVar (i : Nat) : TE := fun σ H Q => ∃ v, σ[i]? = some (some v) ∧ Q v H
def tC (v : V) : TE := fun _ H Q => Q v H
theorem pe_var {i : Nat} {x : Str} {pos : Pos} (hN : X.N[i]? = some x) (hv : Vis X.env.scope x) (hd : (x == ("__debug__" : Str)) = false := by decide) (hcd : (x == ("__classdict__" : Str)) = false := by decide) : PE X (.Name x pos) (tVar i) := by
  intro pins s σ H Q I h
  obtain ⟨v, e, h⟩ := h
  obtain ⟨m, hn, hl⟩ := I.loc
  obtain ⟨u, r, l⟩ := hl i x v hN e hv
  have fin : EP X pins σ Q u s := ⟨v, H, I, r, h⟩
  rcases l with ⟨hk, hm⟩ | ⟨hk, c, hc, hcell⟩
  · exact wpAny_Name (wpAny_loadName_local I.ok.kind hk hn hm fin) hd
  · rcases hk with hk | hk
    · exact wpAny_Name (wpAny_loadName_cell I.ok.kind hk hc hcell fin) hd
    · exact wpAny_Name (wpAny_loadName_free I.ok.kind hk hc hcell fin hcd) hd
theorem pe_int {i j pos} : PE X (.Constant (.int i) j pos) (tC (.int i)) := fun _ _ _ H _ I h => wpAny_Constant_int ⟨.int i, H, I.tok _, ⟨_, rfl⟩, h⟩
theorem pe_bl {b j pos} : PE X (.Constant (.bool b) j pos) (tC (.bl b)) := fun _ _ _ H _ I h => Constant_bool ⟨.bl b, H, I, rfl, h⟩
theorem pe_non {j pos} : PE X (.Constant .none j pos) (tC .non) := fun _ _ _ H _ I h => Constant_none ⟨.non, H, I, rfl, h⟩
def Gl (X : Cx) (x : Str) : Prop := X.env.kindOf x = some .globalImplicit
theorem ld_glob {E : Value → Shared → Prop} {pins : List (Addr × Obj)} {s : Shared} {σ : St} {H : Hp} {x : Str} {u : Value} {pos : Pos} {Q : Value → Shared → Prop} (I : Inv X pins σ H s) (hg : Gl X x) (hm : X.mg x = some u) (h : Q u s)
    (hd : (x == ("__debug__" : Str)) = false := by decide) : wpAny (model X.prog X.w) X.A (eval (.Name x pos) X.env) Q E s :=
  Calls.Name_function_global I.ok.kind hg (Calls.loadGlobal_global (by rw [I.ok.glob]; exact I.mod.glob.keeps I.bk) hm h) hd
theorem ld_blt {E : Value → Shared → Prop} {pins : List (Addr × Obj)} {s : Shared} {σ : St} {H : Hp} {x : Str} {u : Value} {pos : Pos} {Q : Value → Shared → Prop} (I : Inv X pins σ H s) (hg : Gl X x) (hm : X.mg x = none) (hv : bootBuiltins x = some u) (h : Q u s)
    (hn : x ≠ "__name__" := by decide) (hd : (x == ("__debug__" : Str)) = false := by decide) : wpAny (model X.prog X.w) X.A (eval (.Name x pos) X.env) Q E s := by
  obtain ⟨mb, h1, h2⟩ := I.mod.blt
  exact Calls.Name_function_global I.ok.kind hg (Calls.loadGlobal_builtin (by rw [I.ok.glob]; exact I.mod.glob.keeps I.bk) hm (by rw [I.ok.blt]; exact h1.keeps I.bk) ((h2 x hn).trans hv) h) hd
theorem pe_bltn {x : Str} {v : V} {u : Value} {pos : Pos} (hg : Gl X x) (hm : X.mg x = none) (hv : bootBuiltins x = some u) (r : RelV v u) (hn : x ≠ "__name__" := by decide) (hd : (x == ("__debug__" : Str)) = false := by decide) : PE X (.Name x pos) (tC v) :=
  fun _ _ _ H _ I h => ld_blt I hg hm hv ⟨v, H, I, r, h⟩ hn hd
variable {a b : Expr} {ta tb : TE} {pos : Pos}
def PC (X : Cx) (op : CmpOp) (a b : Expr) (t : TE) : Prop :=
  ∀ (pins : List (Addr × Obj)) (s : Shared) (σ : St) (H : Hp) (Q : VK), Inv X pins σ H s → t σ H Q →
    wpAny (model X.prog X.w) X.A (eval a X.env) (fun v s₁ => wpAny (model X.prog X.w) X.A (eval b X.env) (fun u s₂ => wpAny (model X.prog X.w) X.A (compareOp op v u) (EP X pins σ Q) X.xe s₂) X.xe s₁) X.xe s
theorem nobehind (b : Expr) {op : CmpOp} (h : op ≠ .In) (h2 : op ≠ .NotIn) : behindInMarks op b = false := by
  have e1 : (op == CmpOp.In) = false := by cases op <;> first | rfl | exact absurd rfl h
  have e2 : (op == CmpOp.NotIn) = false := by cases op <;> first | rfl | exact absurd rfl h2
  cases b <;> simp [behindInMarks, e1, e2]
def tB (t : TE) : TT := fun σ H Q => t σ H fun x H1 => ∃ c, x = .bl c ∧ Q c H1
theorem pt_cmp {op : CmpOp} {t : TE} (h : PC X op a b t) (h1 : behindInMarks op b = false := by first | exact nobehind _ (by decide) (by decide) | rfl) : PT X (.Compare a [op] [b] pos) (tB t) := by
  intro pins s σ H Q I hw
  refine wpAny_isTrue_Compare1 (thn (h pins s σ H _ I hw) fun v s1 h1 => thn h1 fun u s2 h2 => thn h2 fun c s3 ⟨x, H1, I1, r1, q1⟩ => ?_) h1
  obtain ⟨d, rfl, q⟩ := q1
  cases r1
  exact wpAny_truthy_bool ⟨H1, I1, q⟩
theorem pt_val {e : Expr} {t : TE} (h : PE X e t) (he : ∀ whole, isTrue e X.env whole = (do let v ← whole; standAt e.pos; holding [v] (truthy v)) := by intro _; rfl) : PT X e (tB t) := by
  intro pins s σ H Q I hw
  refine isTrue_plain (thn (h pins s σ H _ I hw) fun v s1 ⟨x, H1, I1, r1, q1⟩ => ?_) (he _)
  obtain ⟨d, rfl, q⟩ := q1
  cases r1
  exact wpAny_truthy_bool ⟨H1, I1, q⟩
variable {tA tB' : TT} {rest : List Expr}
def tAnd (t u : TT) : TT := fun σ H Q => t σ H fun c H1 => if c = true then u σ H1 Q else Q false H1
def tOr (t u : TT) : TT := fun σ H Q => t σ H fun c H1 => if c = true then Q true H1 else u σ H1 Q
def tNot (t : TT) : TT := fun σ H Q => t σ H fun c H1 => Q (!c) H1
theorem pw_and1 (ha : PT X a tA) : PW X (.BoolOp .And [a] pos) tA := by
  intro wh pins s σ H Q I h
  refine isTrue_and (thn (ha pins s σ H Q I h) fun c s1 e => ?_)
  cases c with
  | true => exact isTrue_and_nil e
  | false => exact e
theorem pw_or1 (ha : PT X a tA) : PW X (.BoolOp .Or [a] pos) tA := by
  intro wh pins s σ H Q I h
  refine isTrue_or (thn (ha pins s σ H Q I h) fun c s1 e => ?_)
  cases c with
  | false => exact isTrue_or_nil e
  | true => exact e
theorem pw_and (ha : PT X a tA) (hb : PW X (.BoolOp .And (b :: rest) pos) tB') : PW X (.BoolOp .And (a :: b :: rest) pos) (tAnd tA tB') := by
  intro wh pins s σ H Q I h
  refine isTrue_and (thn (ha pins s σ H _ I h) fun c s1 ⟨H1, I1, q1⟩ => ?_)
  cases c with
  | true => exact hb wh pins s1 σ H1 Q I1 q1
  | false => exact ⟨H1, I1, q1⟩
theorem pw_or (ha : PT X a tA) (hb : PW X (.BoolOp .Or (b :: rest) pos) tB') : PW X (.BoolOp .Or (a :: b :: rest) pos) (tOr tA tB') := by
  intro wh pins s σ H Q I h
  refine isTrue_or (thn (ha pins s σ H _ I h) fun c s1 ⟨H1, I1, q1⟩ => ?_)
  cases c with
  | true => exact ⟨H1, I1, q1⟩
  | false => exact hb wh pins s1 σ H1 Q I1 q1
theorem pt_not (ha : PT X a tA) : PT X (.UnaryOp .Not a pos) (tNot tA) := by
  intro pins s σ H Q I h
  exact isTrue_not (ha pins s σ H (fun c H1 => Q (!c) H1) I h)
def tAndV (ta tb : TE) : TE := fun σ H Q => ta σ H fun x H1 => ∃ c, x = .bl c ∧ if c = true then tb σ H1 Q else Q (.bl false) H1
def tNotV (ta : TE) : TE := fun σ H Q => ta σ H fun x H1 => ∃ c, x = .bl c ∧ Q (.bl (!c)) H1
theorem pe_one {op} {t : TE} (h : PE X a t) : PE X (.BoolOp op [a] pos) t := fun pins s σ H Q I hw => BoolOp_one (h pins s σ H Q I hw)
theorem pe_and (ha : PE X a ta) (hb : PE X (.BoolOp .And (b :: rest) pos) tb) : PE X (.BoolOp .And (a :: b :: rest) pos) (tAndV ta tb) := by
  intro pins s σ H Q I h
  refine BoolOp_and (thn (ha pins s σ H _ I h) fun v s1 ⟨x, H1, I1, r1, q1⟩ => ?_)
  obtain ⟨c, rfl, q1⟩ := q1
  cases r1
  refine wpAny_truthy_bool ?_
  cases c with
  | true => exact hb pins s1 σ H1 Q I1 q1
  | false => exact ⟨.bl false, H1, I1, rfl, q1⟩
theorem pe_not (ha : PE X a ta) : PE X (.UnaryOp .Not a pos) (tNotV ta) := by
  intro pins s σ H Q I h
  refine UnaryOp_ (thn (ha pins s σ H _ I h) fun v s1 ⟨x, H1, I1, r1, q1⟩ => ?_)
  obtain ⟨c, rfl, q1⟩ := q1
  cases r1
  exact not_of (wpAny_truthy_bool ⟨.bl (!c), H1, I1, rfl, q1⟩)
def tIf (t : TT) (ta tb : TE) : TE := fun σ H Q => t σ H fun c H1 => if c = true then ta σ H1 Q else tb σ H1 Q
theorem pe_ifExp {c : Expr} (hc : PT X c tA) (ha : PE X a ta) (hb : PE X b tb) : PE X (.IfExp c a b pos) (tIf tA ta tb) := by
  intro pins s σ H Q I h
  refine wpAny_IfExp (thn (hc pins s σ H _ I h) fun d s1 ⟨H1, I1, q1⟩ => ?_)
  cases d with
  | true => exact ha pins s1 σ H1 Q I1 q1
  | false => exact hb pins s1 σ H1 Q I1 q1
end
end L2
namespace L2
open PySem PySem.Spec PyProof.Rows
def SqL (K : PySem.W.Frag) (H : Hp) (a : Addr) (xs : List V) : Prop :=
  Rd H a (.lst xs) ∨
    ∃ (o : Obj) (its : Array Value) (n : Nat), K.lookup a = some o ∧ o.cls = .type "list" ∧ o.dict = none ∧ o.data = .seq its n ∧ its.size ≤ sizeLine ∧ Vals xs its.toList
def SqT (K : PySem.W.Frag) (H : Hp) (a : Addr) (xs : List V) : Prop :=
  Rd H a (.tup xs) ∨
    ∃ (o : Obj) (its : Array Value) (n : Nat), K.lookup a = some o ∧ o.cls = .type "tuple" ∧ o.data = .seq its n ∧ its.size ≤ sizeLine ∧ Vals xs its.toList
def absV : Value → Option V
  | .none => some .non
  | .bool b => some (.bl b)
  | .int i _ => some (.int i)
  | .str x _ => some (.str x)
  | .bytes b _ => some (.byt b)
  | .float b _ => some (.flt b)
  | .ref a => some (.ref a)
  | .type n => some (.ty n)
  | _ => none
theorem RelV.abs {x : V} {u : Value} (r : RelV x u) : absV u = some x := by
  cases x with
  | non => cases r; rfl
  | bl _ => cases r; rfl
  | int _ => obtain ⟨t, rfl⟩ := r; rfl
  | str _ => obtain ⟨t, rfl⟩ := r; rfl
  | byt _ => obtain ⟨t, rfl⟩ := r; rfl
  | flt _ => obtain ⟨t, rfl⟩ := r; rfl
  | ref _ => cases r; rfl
  | ty _ => cases r; rfl
theorem RelV.inj {x y : V} {u : Value} (r : RelV x u) (q : RelV y u) : x = y := Option.some.inj (r.abs.symm.trans q.abs)
theorem Vals.inj : ∀ {xs ys : List V} {us : List Value}, Vals xs us → Vals ys us → xs = ys
  | _, _, _, .nil, .nil => rfl
  | _, _, _, .cons r t, .cons r' t' => by rw [r.inj r', Vals.inj t t']
section
variable {X : Cx} {pins : List (Addr × Obj)} {σ : St} {H : Hp} {s : Shared} {a : Addr} {xs ys : List V}
theorem SqL.of {K : PySem.W.Frag} (h : H a = some (.lst xs)) : SqL K H a xs := .inl (.inl h)
theorem SqT.of {K : PySem.W.Frag} (h : H a = some (.tup xs)) : SqT K H a xs := .inl (.inl h)
theorem Inv.list (I : Inv X pins σ H s) (h : SqL X.K H a xs) : ∃ its : List Value, Vals xs its ∧ PlainL s.heap a its.toArray ∧ xs.length ≤ sizeLine := by
  rcases h with h | ⟨o, its, n, hk, hc, hd, hs, hz, r⟩
  · obtain ⟨z, its, n, r, e⟩ := h.ok I.hok
    exact ⟨its, r, ⟨_, n, e, rfl, rfl, rfl⟩, z⟩
  · refine ⟨its.toList, r, ⟨o, n, I.kIn a o hk, hc, hd, by simpa using hs⟩, ?_⟩
    have e := r.length
    simp only [Array.length_toList] at e
    omega
theorem Inv.tuple (I : Inv X pins σ H s) (h : SqT X.K H a xs) : ∃ its : List Value, Vals xs its ∧ IsTup s.heap a its.toArray ∧ xs.length ≤ sizeLine := by
  rcases h with h | ⟨o, its, n, hk, hc, hs, hz, r⟩
  · obtain ⟨z, its, r, p⟩ := h.ok I.hok
    exact ⟨its, r, p, z⟩
  · refine ⟨its.toList, r, ⟨o, I.kIn a o hk, hc, n, by simpa using hs⟩, ?_⟩
    have e := r.length
    simp only [Array.length_toList] at e
    omega
theorem Inv.list_inj (I : Inv X pins σ H s) (h : SqL X.K H a xs) (h' : SqL X.K H a ys) : xs = ys := by
  obtain ⟨its, r, ⟨o, n, e, _, _, d⟩, _⟩ := I.list h
  obtain ⟨its', r', ⟨o', n', e', _, _, d'⟩, _⟩ := I.list h'
  rw [e] at e'; cases e'
  rw [d] at d'
  injection d' with d1 _
  have : its = its' := by simpa using congrArg Array.toList d1
  subst this
  exact r.inj r'
end
abbrev Cx.wish (X : Cx) (E : Value → Shared → Prop) : Cx := { X with xe := E }
abbrev Cx.nox (X : Cx) : Cx := X.wish fun _ _ => False
theorem Cx.Ok.wish {X : Cx} (ok : X.Ok) (E : Value → Shared → Prop) : (X.wish E).Ok :=
  ⟨ok.mod, ok.kind, ok.glob, ok.blt, ok.above, ok.inj, ok.has, ok.cab, ok.hd, ok.frames, ok.stk, ok.exf, ok.bs, ok.bsz, ok.noex, ok.exfs, ok.funs, ok.frf⟩
theorem Cx.Ok.unwish {X : Cx} {E : Value → Shared → Prop} (ok : (X.wish E).Ok) : X.Ok :=
  ⟨ok.mod, ok.kind, ok.glob, ok.blt, ok.above, ok.inj, ok.has, ok.cab, ok.hd, ok.frames, ok.stk, ok.exf, ok.bs, ok.bsz, ok.noex, ok.exfs, ok.funs, ok.frf⟩
section
variable {X : Cx} {pins : List (Addr × Obj)} {σ : St} {H : Hp} {s : Shared} {E : Value → Shared → Prop}
theorem Inv.wish (I : Inv X pins σ H s) (E : Value → Shared → Prop) : Inv (X.wish E) pins σ H s := ⟨I.ok.wish E, I.os, I.bare, I.base, I.loc, I.cell, I.free, I.freeC, I.pin, I.hok, I.len⟩
theorem Inv.unwish (I : Inv (X.wish E) pins σ H s) : Inv X pins σ H s := ⟨I.ok.unwish, I.os, I.bare, I.base, I.loc, I.cell, I.free, I.freeC, I.pin, I.hok, I.len⟩
theorem SP.unwish {D : Ends} {f : Flow} {s' : Shared} (h : SP (X.wish E) pins D f s') : SP X pins D f s' := by
  cases f with
  | next => obtain ⟨σ', H', I, q⟩ := h; exact ⟨σ', H', I.unwish, q⟩
  | brk => obtain ⟨σ', H', I, q⟩ := h; exact ⟨σ', H', I.unwish, q⟩
  | cont => obtain ⟨σ', H', I, q⟩ := h; exact ⟨σ', H', I.unwish, q⟩
  | ret u => obtain ⟨v, σ', H', I, r, q⟩ := h; exact ⟨v, σ', H', I.unwish, r, q⟩
theorem PE.nox {e : Expr} {t : TE} (h : PE X.nox e t) : PE X e t := fun pins s σ H Q I hw =>
  wpAny_mono (h pins s σ H Q (I.wish _) hw) (fun _ _ ⟨v, H', I', r, q⟩ => ⟨v, H', I'.unwish, r, q⟩) fun _ _ z => False.elim z
theorem PT.nox {e : Expr} {t : TT} (h : PT X.nox e t) : PT X e t := fun pins s σ H Q I hw =>
  wpAny_mono (h pins s σ H Q (I.wish _) hw) (fun _ _ ⟨H', I', q⟩ => ⟨H', I'.unwish, q⟩) fun _ _ z => False.elim z
theorem PSs.nox {st : List Stmt} {t : TS} (h : PSs X.nox st t) : PSs X st t := fun pins s σ H D I hw =>
  wpAny_mono (h pins s σ H D (I.wish _) hw) (fun _ _ q => q.unwish) fun _ _ z => False.elim z
end
section
variable {X : Cx} {st : Stmt} {rest : List Stmt} {t u : TS} {e : Expr} {te : TE} {pos : Pos}
def tNext : TS := fun D σ H => D.nx σ H
def tSeq (t u : TS) : TS := fun D σ H => t { D with nx := u D } σ H
theorem pss_nil : PSs X [] tNext := fun _ _ σ H _ I h => wpAny_execs_nil ⟨σ, H, I, h⟩
theorem pss_cons (h1 : PS X st t) (h2 : PSs X rest u) : PSs X (st :: rest) (tSeq t u) := by
  intro pins s σ H D I h
  refine wpAny_execs_cons (thn (h1 pins s σ H { D with nx := u D } I h) fun f s1 q => ?_)
  cases f with
  | next =>
    obtain ⟨σ', H', I', q⟩ := q
    exact h2 pins s1 σ' H' D I' q
  | ret v => exact q
  | brk => exact q
  | cont => exact q
theorem pss_one (h1 : PS X st t) : PSs X [st] t := by
  intro pins s σ H D I h
  refine wpAny_execs_cons (thn (h1 pins s σ H D I h) fun f s1 q => ?_)
  cases f with
  | next => exact wpAny_execs_nil q
  | ret v => exact q
  | brk => exact q
  | cont => exact q
theorem Inv.quiet {pins : List (Addr × Obj)} {σ : St} {H : Hp} {s : Shared} (I : Inv X pins σ H s) : interactive X.env = false := by simp [interactive, I.ok.kind]
def tDrop (te : TE) : TS := fun D σ H => te σ H fun _ H1 => D.nx σ H1
theorem ps_expr (he : PE X e te) (hs : swapsWith e none pos.line X.env = pure false := by rfl) : PS X (.Expr e pos) (tDrop te) := by
  intro pins s σ H D I h
  exact wpAny_Expr_any (thn (he pins s σ H _ I h) fun v s1 ⟨x, H1, I1, r1, q1⟩ => ⟨σ, H1, I1, q1⟩) I.quiet hs
def tRet (te : TE) : TS := fun D σ H => te σ H D.rt
theorem ps_ret (he : PE X e te) : PS X (.Return (some e) pos) (tRet te) := by
  intro pins s σ H D I h
  exact wpAny_Return_some (thn (he pins s σ H _ I h) fun v s1 ⟨x, H1, I1, r1, q1⟩ => ⟨x, σ, H1, I1, r1, q1⟩)
def tIfS (c : TT) (t u : TS) : TS := fun D σ H => c σ H fun b H1 => if b = true then t D σ H1 else u D σ H1
theorem ps_if {c : Expr} {a b : List Stmt} {tc : TT} (hc : PT X c tc) (ha : PSs X a t) (hb : PSs X b u) : PS X (.If c a b pos) (tIfS tc t u) := by
  intro pins s σ H D I h
  refine wpAny_If (thn (hc pins s σ H _ I h) fun d s1 ⟨H1, I1, q1⟩ => ?_)
  cases d with
  | true => exact ha pins s1 σ H1 D I1 q1
  | false => exact hb pins s1 σ H1 D I1 q1
end
abbrev TG := V → St → Hp → (St → Hp → Prop) → Prop
abbrev TGs := List V → St → Hp → (St → Hp → Prop) → Prop
def PG (X : Cx) (target : Expr) (t : TG) : Prop :=
  ∀ (pins : List (Addr × Obj)) (s : Shared) (σ : St) (H : Hp) (v : V) (u : Value) (Q : St → Hp → Prop), Inv X pins σ H s → RelV v u → t v σ H Q →
    wpAny (model X.prog X.w) X.A (assign target X.env u) (fun _ s' => ∃ σ' H', Inv X pins σ' H' s' ∧ Q σ' H') X.xe s
def PGs (X : Cx) (ts : List Expr) (t : TGs) : Prop :=
  ∀ (pins : List (Addr × Obj)) (s : Shared) (σ : St) (H : Hp) (vs : List V) (us : List Value) (Q : St → Hp → Prop), Inv X pins σ H s → Vals vs us → t vs σ H Q →
    wpAny (model X.prog X.w) X.A (assignInOrder ((assignEach ts X.env).map (·.2)) us) (fun _ s' => ∃ σ' H', Inv X pins σ' H' s' ∧ Q σ' H') X.xe s
abbrev TSet := V → V → V → Hp → (Hp → Prop) → Prop
def PSet (X : Cx) (t : TSet) : Prop :=
  ∀ (pins : List (Addr × Obj)) (s : Shared) (σ : St) (H : Hp) (o i v : V) (ov iv u : Value) (Q : Hp → Prop), Inv X pins σ H s → RelV o ov → RelV i iv → RelV v u → t o i v H Q →
    wpAny (model X.prog X.w) X.A (setItem ov iv u) (fun _ s' => ∃ H', Inv X pins σ H' s' ∧ Q H') X.xe s
section
variable {X : Cx} {pos : Pos}
def gName (i : Nat) : TG := fun v σ H Q => Q (σ.set i (some v)) H
theorem pg_name {i : Nat} {x : Str} (hN : X.N.Nodup) (hi : X.N[i]? = some x) (hx : Loc X.env.scope x) (hf : X.fn x = true ∨ X.env.scope.names.lookup x = some .local := by first | exact .inl rfl | exact .inr rfl | assumption) : PG X (.Name x pos) (gName i) := by
  intro pins s σ H v u Q I r h
  exact wpAny_assign_Name (store_ok I hN hi hx r (fun s' I' => ⟨_, H, I', h⟩) hf)
def gNil : TGs := fun vs σ H Q => vs = [] ∧ Q σ H
def gCons (t : TG) (u : TGs) : TGs := fun vs σ H Q => ∃ v r, vs = v :: r ∧ t v σ H fun σ' H' => u r σ' H' Q
theorem pgs_nil : PGs X [] gNil := by
  intro pins s σ H vs us Q I r h
  obtain ⟨e, h⟩ := h
  subst e
  cases r
  exact assignInOrder_nil ⟨σ, H, I, h⟩
theorem pgs_cons {e : Expr} {es : List Expr} {t : TG} {u : TGs} (h1 : PG X e t) (h2 : PGs X es u)
    (hs : (assignEach (e :: es) X.env).map (·.2) = assign e X.env :: (assignEach es X.env).map (·.2) := by rfl) : PGs X (e :: es) (gCons t u) := by
  intro pins s σ H vs us Q I r h
  obtain ⟨v, vr, e1, h⟩ := h
  subst e1
  cases r with
  | cons r rr =>
    rw [hs]
    refine assignInOrder_cons (thn (h1 pins s σ H _ _ _ I r h) fun _ s1 ⟨σ1, H1, I1, q1⟩ => ?_)
    exact h2 pins s1 σ1 H1 _ _ Q I1 rr q1
def gTup (K : PySem.W.Frag) (n : Nat) (t : TGs) : TG := fun v σ H Q => ∃ a xs, v = .ref a ∧ SqT K H a xs ∧ xs.length = n ∧ t xs σ H Q
theorem pg_tup {es : List Expr} {k : Nat} {t : TGs} {n : Nat} (hc : X.calm = true) (h : PGs X es t)
    (hn : (assignEach es X.env).length = n := by rfl) (hst : (assignEach es X.env).findIdx? (·.1) = none := by rfl) : PG X (.Tuple es k pos) (gTup X.K n t) := by
  intro pins s σ H v u Q I r hw
  obtain ⟨a, xs, e1, hq, hl, hw⟩ := hw
  subst e1
  cases r
  obtain ⟨its, rv, ht, hz⟩ := I.tuple hq
  refine assign_Tuple_tuple (I.ok.hd hc) ht (by simp [hn, ← hl, rv.length]) hst fun h' hx => ?_
  have I1 : Inv X pins σ H { s with heap := h' } := I.kept (t' := s.toks) fun b o e => hx b o (Nat.ne_of_lt (Heap.lt_size e)) e
  exact h pins _ σ H xs _ Q I1 (by simpa using rv) hw
def gSub (to ti : TE) (t : TSet) : TG := fun v σ H Q => to σ H fun o H1 => ti σ H1 fun i H2 => t o i v H2 fun H3 => Q σ H3
theorem pg_sub {o i : Expr} {to ti : TE} {t : TSet} (ho : PE X o to) (hi : PE X i ti) (hs : PSet X t)
    (ha : ∀ v, assign (.Subscript o i pos) X.env v = (do
      let ov ← holding [v] (eval o X.env)
      let iv ← holding [v, ov] (eval i X.env)
      standAt pos
      holding [v, ov, iv] (setItem ov iv v)
      release [v, ov, iv] []) := by intro _; rfl) : PG X (.Subscript o i pos) (gSub to ti t) := by
  intro pins s σ H v u Q I r h
  rw [ha]
  refine wpAny_bind (wpAny_holding (thn (ho pins s σ H _ I h) fun ov s1 ⟨x, H1, I1, r1, q1⟩ => ?_))
  refine wpAny_bind (wpAny_holding (thn (hi pins s1 σ H1 _ I1 q1) fun iv s2 ⟨y, H2, I2, r2, q2⟩ => ?_))
  refine wpAny_bind (wpAny_standAt (wpAny_bind (wpAny_holding (thn (hs pins s2 σ H2 x y v ov iv u _ I2 r1 r2 r q2) fun _ s3 ⟨H3, I3, q3⟩ => ?_))))
  exact wpAny_release ⟨σ, H3, I3, q3⟩
def tAsg (te : TE) (g : TG) : TS := fun D σ H => te σ H fun x H1 => g x σ H1 D.nx
theorem ps_asg {tg e : Expr} {te : TE} {g : TG} (he : PE X e te) (hg : PG X tg g) (hs : swapsWithSole [tg] e pos.line X.env = pure false := by rfl) (hw : swappedStores [tg] e X.env = pure none := by rfl)
    (h1 : (assignEach [tg] X.env).map (·.2) = [assign tg X.env] := by rfl) : PS X (.Assign [tg] e pos) (tAsg te g) := by
  intro pins s σ H D I h
  refine wpAny_Assign_stores (thn (he pins s σ H _ I h) fun v s1 ⟨x, H1, I1, r1, q1⟩ => ?_) hs hw
  rw [h1]
  exact thn (hg pins s1 σ H1 x v _ I1 r1 q1) fun _ s2 q => q
theorem ps_set {i : Nat} {x : Str} {e : Expr} {te : TE} {pos' : Pos} (hN : X.N.Nodup) (hi : X.N[i]? = some x) (hx : Loc X.env.scope x) (he : PE X e te) (hs : swapsWith e (some (.Name x pos')) pos.line X.env = pure false := by rfl) (hf : X.fn x = true ∨ X.env.scope.names.lookup x = some .local := by first | exact .inl rfl | exact .inr rfl | assumption) :
    PS X (.Assign [.Name x pos'] e pos) (tAsg te (gName i)) := by
  intro pins s σ H D I h
  refine wpAny_Assign_Name (thn (he pins s σ H _ I h) fun v s1 ⟨y, H1, I1, r1, q1⟩ => ?_) hs
  exact store_ok I1 hN hi hx r1 (fun s2 I2 => ⟨_, H1, I2, q1⟩) hf
end
section
variable {X : Cx} {pos : Pos}
end
structure It where
  go : Nat → Hp → Prop
  yld : Nat → Hp → V → Hp → Prop
  stop : Nat → Hp → Prop
def FpOk (X : Cx) (pins : List (Addr × Obj)) (H : Hp) (b : Addr) : Prop :=
  H b = none ∧ b ≠ X.env.locals ∧ b ∉ X.fs ∧ (b ∈ X.ex ∨ X.s₀.heap.objs.size ≤ b) ∧ (∀ x c, X.env.cells.lookup x = some c → c ≠ b) ∧ ∀ p ∈ X.pn ++ pins, p.1 ≠ b
theorem Inv.fpOk {X : Cx} {pins : List (Addr × Obj)} {σ : St} {H H' : Hp} {s : Shared} {b : Addr} (I : Inv X pins σ H s) (hb : s.heap.objs.size ≤ b) (hn : H' b = none) : FpOk X pins H' b := by
  refine ⟨hn, Nat.ne_of_gt (Nat.lt_of_lt_of_le I.lt hb), I.nofs hb, .inr (Nat.le_trans I.sz hb), fun x c e z => ?_, fun p hp z => ?_⟩
  · obtain ⟨v, q⟩ := I.cell x c e
    exact absurd (Nat.lt_of_lt_of_le q.lt (by rw [z]; exact hb)) (Nat.lt_irrefl _)
  · exact absurd (Nat.lt_of_lt_of_le (Heap.lt_size (I.pin p hp).1) (by rw [z]; exact hb)) (Nat.lt_irrefl _)
structure Turn (P : Program) (w : World) (K : PySem.W.Frag) (tg : Expr) (J : It) (fp : List Addr) (it : Addr) (tn : Nat → Heap → Prop) : Prop where
  mem : it ∈ fp
  obj : ∀ i h, tn i h → ∀ b ∈ fp, ∃ o, h.get? b = some o ∧ ∀ v, o.data ≠ .cell v
  keep : ∀ i h h', tn i h → (∀ b ∈ fp, ∀ o, h.get? b = some o → h'.get? b = some o) → tn i h'
  item : ∀ (X : Cx), X.prog = P → X.w = w → X.K = K → X.calm = true → ∀ (i : Nat) (pins : List (Addr × Obj)) (s : Shared) (σ : St) (H : Hp) (E : Value → Shared → Prop), Inv X pins σ H s → (∀ b ∈ fp, FpOk X pins H b) → tn i s.heap → J.go i H →
    wpAny (model P w) X.A (pyNext (.ref it)) (fun r s1 => ∃ u, r = some u ∧
      wpAny (model P w) X.A (letOwnedTupleGo tg (.ref it) u) (fun _ s2 => ∃ x H', Inv X pins σ H' s2 ∧ RelV x u ∧ J.yld i H x H' ∧ tn (i + 1) s2.heap ∧ ∀ b ∈ fp, H' b = none) E s1) E s
  done : ∀ (X : Cx), X.prog = P → X.w = w → X.K = K → X.calm = true → ∀ (i : Nat) (pins : List (Addr × Obj)) (s : Shared) (σ : St) (H : Hp) (E : Value → Shared → Prop), Inv X pins σ H s → (∀ b ∈ fp, FpOk X pins H b) → tn i s.heap → J.stop i H →
    wpAny (model P w) X.A (pyNext (.ref it)) (fun r s1 => r = none ∧ Inv X pins σ H s1) E s
  self : ∀ (A : Around) (i : Nat) (s : Shared) (Q : Value → Shared → Prop) (E : Value → Shared → Prop), tn i s.heap → Q (.ref it) s → wpAny (model P w) A (pyIter (.ref it)) Q E s
abbrev TI := St → Hp → (It → Hp → Prop) → Prop
def PIE (X : Cx) (pins : List (Addr × Obj)) (σ : St) (tg : Expr) (R : It → Hp → Prop) (itv : Value) (s2 : Shared) : Prop :=
  ∃ (it : Addr) (fp : List Addr) (tn : Nat → Heap → Prop) (J : It) (H' : Hp), itv = .ref it ∧ Inv X pins σ H' s2 ∧ Turn X.prog X.w X.K tg J fp it tn ∧ tn 0 s2.heap ∧ (∀ b ∈ fp, FpOk X pins H' b) ∧ R J H'
def PI (X : Cx) (tg iter : Expr) (wi : TI) : Prop :=
  ∀ (pins : List (Addr × Obj)) (s : Shared) (σ : St) (H : Hp) (R : It → Hp → Prop), Inv X pins σ H s → wi σ H R →
    wpAny (model X.prog X.w) X.A (eval iter X.env) (fun v s1 => wpAny (model X.prog X.w) X.A (pyIter v) (PIE X pins σ tg R) X.xe s1) X.xe s
theorem go_of {M : Model} {A : Around} {E : Value → Shared → Prop} {s : Shared} {tg : Expr} {it : Addr} {u : Value} {o : Obj} {n : String} {vs : Array Value} {Q : Unit → Shared → Prop} (ho : s.heap.get? it = some o) (hc : o.cls = .type n) (hd : o.data = .fields vs)
    (hn : ["enumerate", "zip", "dict_itemiterator", "dict_reverseitemiterator", "odict_iterator", "itertools.zip_longest", "itertools.pairwise"].contains n = false) (hQ : Q () s) : wpAny M A (letOwnedTupleGo tg (.ref it) u) Q E s := by
  unfold letOwnedTupleGo
  cases tg <;> first
    | exact wpAny_pure hQ
    | (cases u <;> first
        | exact wpAny_pure hQ
        | (refine wpAny_bind (wpAny_load ho ?_)
           rw [hc, hd]
           show wpAny M A (if (["enumerate", "zip", "dict_itemiterator", "dict_reverseitemiterator", "odict_iterator", "itertools.zip_longest", "itertools.pairwise"].contains n && vs[0]? == some (rawInt _)) = true then _ else _) Q E s
           rw [if_neg (by intro h; rw [hn, Bool.false_and] at h; cases h)]
           exact wpAny_pure hQ))
def Itl (K : PySem.W.Frag) (a : Addr) : It :=
  ⟨fun i H => ∃ xs x, SqL K H a xs ∧ xs[i]? = some x, fun i H x H' => H' = H ∧ ∀ xs, SqL K H a xs → xs[i]? = some x, fun i H => ∃ xs, SqL K H a xs ∧ xs.length ≤ i⟩
def Itr (lo : Int) (n : Nat) : It := ⟨fun i _ => i < n, fun i H x H' => H' = H ∧ x = .int (lo + i), fun i _ => n ≤ i⟩
theorem turn_list {P : Program} {w : World} {K : PySem.W.Frag} {tg : Expr} (a it : Addr) : Turn P w K tg (Itl K a) [it] it (fun i h => h.IsListIter it a i) where
  mem := by simp
  obj := fun i h st b hb => by
    have e : b = it := by simpa using hb
    subst e
    obtain ⟨o, e, c, d⟩ := st
    exact ⟨o, e, fun v z => by rw [d] at z; cases z⟩
  keep := fun i h h' st k => st.at fun o e => k it (by simp) o e
  item := by
    intro X hP hw hK hc i pins s σ H E I hf st hg
    subst hP hw hK
    obtain ⟨xs, x, hq, hx⟩ := hg
    obtain ⟨its, rv, p, hz⟩ := I.list hq
    obtain ⟨u, hu, ru⟩ := rv.get hx
    obtain ⟨f0, f1, f2, f3, f4, f5⟩ := hf it (by simp)
    refine wpAny_pyNext_list_item st p.isList (x := u) (by simpa using hu) fun h' st' sb => ?_
    have I1 : Inv X pins σ H { s with heap := h' } := I.turned (t' := s.toks) (fun b o hb e => (sb.2 b hb).trans e) f0 f1 f3 f4 f5
    obtain ⟨o, e, c, d⟩ := id st'
    exact ⟨u, rfl, go_of (s := { s with heap := h' }) e c d (by decide) ⟨x, H, I1, ru, ⟨rfl, fun ys hy => by rw [I.list_inj hy hq]; exact hx⟩, st', fun b hb => (hf b hb).1⟩⟩
  done := by
    intro X hP hw hK hc i pins s σ H E I hf st hg
    subst hP hw hK
    obtain ⟨xs, hq, hx⟩ := hg
    obtain ⟨its, rv, p, hz⟩ := I.list hq
    obtain ⟨f0, f1, f2, f3, f4, f5⟩ := hf it (by simp)
    have hl := rv.length
    exact wpAny_pyNext_list_end (I.ok.hd hc) st p.isList (by simp; omega) fun h' eb => ⟨rfl, I.turned (t' := s.toks) (fun b o hb e => eb b o hb e) f0 f1 f3 f4 f5⟩
  self := fun _ _ _ _ _ st h => wpAny_pyIter_listiter st h
theorem turn_range {P : Program} {w : World} {K : PySem.W.Frag} {tg : Expr} (it : Addr) (lo : Int) (n : Nat) : Turn P w K tg (Itr lo n) [it] it (fun i h => IsRangeIter h it (lo + (i : Nat) * 1) ((n : Int) - (i : Nat)) 1) where
  mem := by simp
  obj := fun i h st b hb => by
    have e : b = it := by simpa using hb
    subst e
    exact ⟨_, st, fun v z => by
      have z' : Data.fields _ = Data.cell v := z
      cases z'⟩
  keep := fun i h h' st k => k it (by simp) _ st
  item := by
    intro X hP hw hK hc i pins s σ H E I hf st hg
    subst hP hw hK
    obtain ⟨f0, f1, f2, f3, f4, f5⟩ := hf it (by simp)
    have W := Walks.range (prog := X.prog) (w := X.w) (I.ok.hd hc) it lo 1 n
    refine W.item i s _ _ hg st fun v h' tk hv st' kk => ?_
    obtain ⟨t, rfl⟩ := hv
    have I1 : Inv X pins σ H { s with heap := h', toks := tk } := I.turned (fun b o hb e => kk b o (by simpa using hb) e) f0 f1 f3 f4 f5
    refine ⟨_, rfl, go_of (s := { s with heap := h', toks := tk }) (n := "range_iterator") st' rfl rfl (by decide) ⟨.int (lo + i), H, I1, ⟨t, ?_⟩, ⟨rfl, rfl⟩, st', fun b hb => (hf b hb).1⟩⟩
    rw [Int.mul_one]
  done := by
    intro X hP hw hK hc i pins s σ H E I hf st hg
    subst hP hw hK
    obtain ⟨f0, f1, f2, f3, f4, f5⟩ := hf it (by simp)
    exact wpAny_pyNext_range_end (I.ok.hd hc) st (by have : n ≤ i := hg; omega) fun h' eb => ⟨rfl, I.turned (t' := s.toks) (fun b o hb e => eb b o hb e) f0 f1 f3 f4 f5⟩
  self := fun _ _ _ _ _ st h => wpAny_pyIter_rangeiter st h
end L2
namespace L2
open PySem PySem.Spec PyProof.Rows
section
variable {X : Cx} {tg : Expr}
def iList (K : PySem.W.Frag) (tl : TE) : TI := fun σ H R => tl σ H fun x H1 => ∃ a, x = .ref a ∧ (∃ xs, SqL K H1 a xs) ∧ R (Itl K a) H1
theorem pi_list {l : Expr} {tl : TE} (hl : PE X l tl) : PI X tg l (iList X.K tl) := by
  intro pins s σ H R I h
  refine thn (hl pins s σ H _ I h) fun v s1 ⟨x, H1, I1, r1, q1⟩ => ?_
  obtain ⟨a, e, ⟨xs, hq⟩, q⟩ := q1
  subst e
  cases r1
  obtain ⟨its, rv, p, hz⟩ := I1.list hq
  refine wpAny_pyIter_list p.isList ?_
  refine ⟨s1.heap.objs.size, [s1.heap.objs.size], _, _, H1, rfl, I1.kept (t' := s1.toks) fun b o e => Heap.get?_push_of_some _ e, turn_list a _, ⟨_, Heap.get?_push_size _ rfl, rfl, rfl⟩, fun b hb => ?_, q⟩
  have e : b = s1.heap.objs.size := by simpa using hb
  subst e
  exact I1.fpOk (Nat.le_refl _) (I1.hok.fresh (Nat.le_refl _))
theorem range_it {pins : List (Addr × Obj)} {σ : St} {H : Hp} {s : Shared} {R : It → Hp → Prop} {E : Value → Shared → Prop} {lo hi : Int} {t u v : Tok} {tk : Nat} (I : Inv X pins σ H s) (h1 : -(2 ^ 62) ≤ lo) (h2 : lo < 2 ^ 62) (h3 : -(2 ^ 62) ≤ hi) (h4 : hi < 2 ^ 62)
    (q : R (Itr lo (hi - lo).toNat) H) : wpAny (model X.prog X.w) X.A (pyIter (.ref s.heap.objs.size)) (PIE X pins σ tg R) E { s with heap := s.heap.push { cls := .type "range", data := .fields #[.int lo t, .int hi u, .int 1 v] }, toks := tk } := by
  refine wpAny_pyIter_range (IsRange.new ..) (small_one h1 h2 h3 h4) ?_
  have I1 : Inv X pins σ H { s with heap := s.heap.push { cls := .type "range", data := .fields #[.int lo t, .int hi u, .int 1 v] }, toks := tk } := I.kept fun b o e => Heap.get?_push_of_some _ e
  refine ⟨(s.heap.push { cls := .type "range", data := .fields #[.int lo t, .int hi u, .int 1 v] }).objs.size, [(s.heap.push { cls := .type "range", data := .fields #[.int lo t, .int hi u, .int 1 v] }).objs.size], _, _, H, rfl,
    I1.kept (t' := tk) fun b o e => Heap.get?_push_of_some _ e, turn_range _ lo (hi - lo).toNat, ?_, fun b hb => ?_, q⟩
  · have e1 : lo + ((0 : Nat) : Int) * 1 = lo := by simp
    have e2 : (((hi - lo).toNat : Nat) : Int) - ((0 : Nat) : Int) = Builtin.Range.rangeSize lo hi 1 := by rw [rangeSize_one]; split <;> omega
    show IsRangeIter _ _ (lo + ((0 : Nat) : Int) * 1) ((((hi - lo).toNat : Nat) : Int) - ((0 : Nat) : Int)) 1
    rw [e1, e2]
    exact Heap.get?_push_size _ rfl
  · have e : b = (s.heap.push { cls := .type "range", data := .fields #[.int lo t, .int hi u, .int 1 v] }).objs.size := by simpa using hb
    subst e
    exact I1.fpOk (Nat.le_refl _) (I1.hok.fresh (Nat.le_refl _))
def iRng1 (ta : TA) : TI := fun σ H R => ta σ H fun vs H1 => ∃ j : Int, vs = [.int j] ∧ -(2 ^ 62) ≤ j ∧ j < 2 ^ 62 ∧ R (Itr 0 j.toNat) H1
def iRng2 (ta : TA) : TI := fun σ H R => ta σ H fun vs H1 => ∃ i j : Int, vs = [.int i, .int j] ∧ (-(2 ^ 62) ≤ i ∧ i < 2 ^ 62 ∧ -(2 ^ 62) ≤ j ∧ j < 2 ^ 62) ∧ R (Itr i (j - i).toNat) H1
theorem pi_range1 {a : Expr} {ta : TA} {p pos : Pos} (hg : Gl X "range") (hm : X.mg "range" = none) (ha : PA X [a] ta) (hs : starEach [a] X.env = [(false, eval a X.env)] := by rfl) : PI X tg (.Call (.Name "range" p) [a] [] pos) (iRng1 ta) := by
  intro pins s σ H R I h
  refine Call_ (ld_blt I hg hm boot_range (PyProof.Rows.callWith_type1 (thn (ha pos pins s σ H _ I h) fun us s1 ⟨vs, H1, I1, r1, q1⟩ => ?_) hs rfl))
  obtain ⟨j, e, q1, q2, q⟩ := q1
  subst e
  cases r1 with
  | cons r rr =>
    cases rr
    obtain ⟨t, rfl⟩ := r
    exact call_range_1 (range_it I1 (by omega) (by omega) q1 q2 (by simpa using q))
theorem pi_range2 {a b : Expr} {ta : TA} {p pos : Pos} (hg : Gl X "range") (hm : X.mg "range" = none) (ha : PA X [a, b] ta) (hs : starEach [a, b] X.env = [(false, eval a X.env), (false, eval b X.env)] := by rfl) (hs2 : starEach [b] X.env = [(false, eval b X.env)] := by rfl) :
    PI X tg (.Call (.Name "range" p) [a, b] [] pos) (iRng2 ta) := by
  intro pins s σ H R I h
  refine Call_ (ld_blt I hg hm boot_range (PyProof.Rows.callWith_type1 (thn (ha pos pins s σ H _ I h) fun us s1 ⟨vs, H1, I1, r1, q1⟩ => ?_) (by rw [hs, hs2]) (by rw [hs2]; rfl)))
  obtain ⟨i, j, e, ⟨q1, q2, q3, q4⟩, q⟩ := q1
  subst e
  cases r1 with
  | cons r rr =>
    cases rr with
    | cons r' rr =>
      cases rr
      obtain ⟨t, rfl⟩ := r
      obtain ⟨t', rfl⟩ := r'
      exact call_range_2 (range_it I1 q1 q2 q3 q4 q)
def tFor (wi : TI) (g : TG) (tb : TS) : TS := fun D σ H => wi σ H fun J H1 => ∃ W : Nat → Nat → St → Hp → Prop, (∃ m, W 0 m σ H1) ∧ ∀ i m σ H, W i m σ H →
  (J.stop i H ∧ D.nx σ H) ∨ (J.go i H ∧ ∃ N : St → Hp → Prop, (∀ σ' H', N σ' H' → ∃ m', m' < m ∧ W (i + 1) m' σ' H') ∧ ∀ x H', J.yld i H x H' → g x σ H' fun σ2 H2 => tb { D with nx := N, ct := N, bk := D.nx } σ2 H2)
def pinsAt (fp : List Addr) (h : Heap) : List (Addr × Obj) := fp.filterMap fun b => (h.get? b).map fun o => (b, o)
theorem mem_pinsAt {fp : List Addr} {h : Heap} {b : Addr} {o : Obj} (hb : b ∈ fp) (e : h.get? b = some o) : (b, o) ∈ pinsAt fp h := List.mem_filterMap.mpr ⟨b, hb, by rw [e]; rfl⟩
theorem of_pinsAt {fp : List Addr} {h : Heap} {p : Addr × Obj} (hp : p ∈ pinsAt fp h) : p.1 ∈ fp ∧ h.get? p.1 = some p.2 := by
  obtain ⟨b, hb, e⟩ := List.mem_filterMap.mp hp
  cases q : h.get? b with
  | none => rw [q] at e; cases e
  | some o =>
    rw [q] at e
    have e' : (b, o) = p := Option.some.inj e
    subst e'
    exact ⟨hb, q⟩
theorem Inv.pinned {pins : List (Addr × Obj)} {σ : St} {H : Hp} {s : Shared} {fp : List Addr} (I : Inv X pins σ H s) (hf : ∀ b ∈ fp, FpOk X pins H b) (ho : ∀ b ∈ fp, ∃ o, s.heap.get? b = some o ∧ ∀ v, o.data ≠ .cell v) : Inv X (pins ++ pinsAt fp s.heap) σ H s :=
  I.pins_of fun p hp => (List.mem_append.mp hp).elim (fun z => I.pin p (List.mem_append_right _ z)) fun z => by
    obtain ⟨hb, e⟩ := of_pinsAt z
    obtain ⟨f0, f1, f2, _⟩ := hf p.1 hb
    obtain ⟨o, e', d⟩ := ho p.1 hb
    rw [e] at e'; cases e'
    exact ⟨e, f0, f1, f2, d⟩
theorem Inv.unpinned {pins pl : List (Addr × Obj)} {σ : St} {H : Hp} {s : Shared} (I : Inv X (pins ++ pl) σ H s) : Inv X pins σ H s := I.pins_of fun p hp => I.pin p (List.mem_append_right _ (List.mem_append_left _ hp))
theorem ps_for {iter : Expr} {body : List Stmt} {wi : TI} {g : TG} {tb : TS} {pos : Pos} (hp : PassesOwn (model X.prog X.w) X.A X.env X.xe) (hc : X.calm = true) (hi : PI X tg iter wi) (hg : PG X tg g) (hb : PSs X body tb)
    (hs : ∀ x, foldedSetIterable iter X.env x = pure x := by intro _; rfl) : PS X (.For tg iter body [] pos) (tFor wi g tb) := by
  intro pins s σ H D I h
  refine wpAny_For (thn (hi pins s σ H _ I h) fun v s1 h1 => thn h1 fun itv s2 h2 => ?_) hs
  obtain ⟨it, fp, tn, J, H2, e, I2, T, st2, f2, W, ⟨m0, w0⟩, turn⟩ := h2
  subst e
  have stat : ∀ {H' : Hp}, (∀ b ∈ fp, H' b = none) → ∀ b ∈ fp, FpOk X pins H' b := fun hn b hb => ⟨hn b hb, (f2 b hb).2⟩
  refine codeAny_forLoop_any (fun n s' => ∃ i σ' H', Inv X pins σ' H' s' ∧ tn i s'.heap ∧ (∀ b ∈ fp, H' b = none) ∧ W i n σ' H') ?_ m0 ⟨0, σ, H2, I2, st2, fun b hb => (f2 b hb).1, w0⟩
  rintro n s3 ⟨i, σ3, H3, I3, st3, fr3, w3⟩
  rcases turn i n σ3 H3 w3 with ⟨stop, qn⟩ | ⟨go, N, hN, step⟩
  · refine wpAny_passesOwn hp (thn (T.done X rfl rfl rfl hc i pins s3 σ3 H3 X.xe I3 (stat fr3) st3 stop) fun r s4 ⟨hr, I4⟩ => ?_)
    subst hr
    exact wpAny_execs_nil ⟨σ3, H3, I4, qn⟩
  · refine wpAny_passesOwn hp (thn (T.item X rfl rfl rfl hc i pins s3 σ3 H3 X.xe I3 (stat fr3) st3 go) fun r s4 ⟨u, hr, h4⟩ => ?_)
    subst hr
    refine wpAny_passesOwn hp (thn h4 fun _ s5 ⟨x, H5, I5, r5, y5, st5, fr5⟩ => ?_)
    have I5' := I5.pinned (stat fr5) (T.obj _ _ st5)
    refine wpAny_passesOwn hp (thn (hg _ s5 σ3 H5 x u _ I5' r5 (step x H5 y5)) fun _ s6 ⟨σ6, H6, I6, q6⟩ => ?_)
    refine wpAny_passesOwn hp (thn (hb _ s6 σ6 H6 _ I6 q6) fun f s7 q7 => ?_)
    have again : ∀ {σ7 : St} {H7 : Hp}, Inv X (pins ++ pinsAt fp s5.heap) σ7 H7 s7 → N σ7 H7 → ∃ m, m < n ∧ ∃ i σ' H', Inv X pins σ' H' s7 ∧ tn i s7.heap ∧ (∀ b ∈ fp, H' b = none) ∧ W i m σ' H' := fun {σ7 H7} I7 n7 => by
      obtain ⟨m', hm, w7⟩ := hN σ7 H7 n7
      refine ⟨m', hm, i + 1, σ7, H7, I7.unpinned, T.keep _ _ _ st5 fun b hb o e => (I7.pin (b, o) (List.mem_append_right _ (List.mem_append_right _ (mem_pinsAt hb e)))).1, fun b hb => ?_, w7⟩
      obtain ⟨o, e, d⟩ := T.obj _ _ st5 b hb
      exact (I7.pin (b, o) (List.mem_append_right _ (List.mem_append_right _ (mem_pinsAt hb e)))).2.1
    cases f with
    | next => obtain ⟨σ7, H7, I7, n7⟩ := q7; exact again I7 n7
    | cont => obtain ⟨σ7, H7, I7, n7⟩ := q7; exact again I7 n7
    | brk => obtain ⟨σ7, H7, I7, q7⟩ := q7; exact ⟨σ7, H7, I7.unpinned, q7⟩
    | ret v => obtain ⟨x7, σ7, H7, I7, r7, q7⟩ := q7; exact ⟨x7, σ7, H7, I7.unpinned, r7, q7⟩
end
theorem for_list {K : PySem.W.Frag} {a : Addr} {xs : List V} {g : TG} {tb : TS} {D : Ends} {σ : St} {H : Hp} (Pv : Nat → St → Hp → Prop) (h0 : Pv 0 σ H) (hl : ∀ i σ H, i ≤ xs.length → Pv i σ H → SqL K H a xs)
    (hs : ∀ i x σ H, xs[i]? = some x → Pv i σ H → g x σ H fun σ2 H2 => tb { D with nx := Pv (i + 1), ct := Pv (i + 1), bk := D.nx } σ2 H2) (hd : ∀ σ H, Pv xs.length σ H → D.nx σ H) :
    ∃ W : Nat → Nat → St → Hp → Prop, (∃ m, W 0 m σ H) ∧ ∀ i m σ H, W i m σ H →
      ((Itl K a).stop i H ∧ D.nx σ H) ∨ ((Itl K a).go i H ∧ ∃ N : St → Hp → Prop, (∀ σ' H', N σ' H' → ∃ m', m' < m ∧ W (i + 1) m' σ' H') ∧ ∀ x H', (Itl K a).yld i H x H' → g x σ H' fun σ2 H2 => tb { D with nx := N, ct := N, bk := D.nx } σ2 H2) := by
  refine ⟨fun i m σ H => m = xs.length - i ∧ i ≤ xs.length ∧ Pv i σ H, ⟨xs.length, by simp, Nat.zero_le _, h0⟩, ?_⟩
  rintro i m σ H ⟨rfl, hi, p⟩
  have q := hl i σ H hi p
  by_cases hlt : i < xs.length
  · refine .inr ⟨⟨xs, xs[i], q, by simp [hlt]⟩, Pv (i + 1), fun σ' H' p' => ⟨xs.length - (i + 1), by omega, rfl, hlt, p'⟩, fun x H' y => ?_⟩
    obtain ⟨e, y⟩ := y
    subst e
    exact hs i x σ _ (y xs q) p
  · have e : i = xs.length := by omega
    subst e
    exact .inl ⟨⟨xs, q, Nat.le_refl _⟩, hd σ H p⟩
theorem for_range {lo : Int} {n : Nat} {g : TG} {tb : TS} {D : Ends} {σ : St} {H : Hp} (Pv : Nat → St → Hp → Prop) (h0 : Pv 0 σ H)
    (hs : ∀ i σ H, i < n → Pv i σ H → g (.int (lo + i)) σ H fun σ2 H2 => tb { D with nx := Pv (i + 1), ct := Pv (i + 1), bk := D.nx } σ2 H2) (hd : ∀ σ H, Pv n σ H → D.nx σ H) :
    ∃ W : Nat → Nat → St → Hp → Prop, (∃ m, W 0 m σ H) ∧ ∀ i m σ H, W i m σ H →
      ((Itr lo n).stop i H ∧ D.nx σ H) ∨ ((Itr lo n).go i H ∧ ∃ N : St → Hp → Prop, (∀ σ' H', N σ' H' → ∃ m', m' < m ∧ W (i + 1) m' σ' H') ∧ ∀ x H', (Itr lo n).yld i H x H' → g x σ H' fun σ2 H2 => tb { D with nx := N, ct := N, bk := D.nx } σ2 H2) := by
  refine ⟨fun i m σ H => m = n - i ∧ i ≤ n ∧ Pv i σ H, ⟨n, by simp, Nat.zero_le _, h0⟩, ?_⟩
  rintro i m σ H ⟨rfl, hi, p⟩
  by_cases hlt : i < n
  · refine .inr ⟨hlt, Pv (i + 1), fun σ' H' p' => ⟨n - (i + 1), by omega, rfl, hlt, p'⟩, fun x H' y => ?_⟩
    obtain ⟨e, y⟩ := y
    subst e y
    exact hs i σ _ hlt p
  · have e : i = n := by omega
    subst e
    exact .inl ⟨Nat.le_refl _, hd σ H p⟩
end L2
namespace L2
open PySem PySem.Spec PyProof.Rows
abbrev R2 := V → V → Hp → VK → Prop
def OpR (X : Cx) (f : Value → Value → Sem Value) (r : R2) : Prop :=
  ∀ (pins : List (Addr × Obj)) (s : Shared) (σ : St) (H : Hp) (x y : V) (v u : Value) (Q : VK), Inv X pins σ H s → RelV x v → RelV y u → r x y H Q →
    wpAny (model X.prog X.w) X.A (f v u) (EP X pins σ Q) X.xe s
def UnR (X : Cx) (f : Value → Sem Value) (r : V → Hp → VK → Prop) : Prop :=
  ∀ (pins : List (Addr × Obj)) (s : Shared) (σ : St) (H : Hp) (x : V) (v : Value) (Q : VK), Inv X pins σ H s → RelV x v → r x H Q →
    wpAny (model X.prog X.w) X.A (f v) (EP X pins σ Q) X.xe s
def CallR (X : Cx) (f : Value) (r : List V → Hp → VK → Prop) : Prop :=
  ∀ (pins : List (Addr × Obj)) (s : Shared) (σ : St) (H : Hp) (xs : List V) (us : List Value) (Q : VK), Inv X pins σ H s → Vals xs us → r xs H Q →
    wpAny (model X.prog X.w) X.A (call f us) (EP X pins σ Q) X.xe s
def tOp (r : R2) (ta tb : TE) : TE := fun σ H Q => ta σ H fun x H1 => tb σ H1 fun y H2 => r x y H2 Q
def tUn (r : V → Hp → VK → Prop) (ta : TE) : TE := fun σ H Q => ta σ H fun x H1 => r x H1 Q
def rI (C : Int → Int → Prop) (g : Int → Int → V) : R2 := fun x y H Q => ∃ i j, x = .int i ∧ y = .int j ∧ C i j ∧ Q (g i j) H
def rI0 (g : Int → Int → V) : R2 := fun x y H Q => ∃ i j, x = .int i ∧ y = .int j ∧ Q (g i j) H
def rU (g : Int → V) : V → Hp → VK → Prop := fun x H Q => ∃ i, x = .int i ∧ Q (g i) H
section
variable {X : Cx} {a b c : Expr} {ta tb tc : TE} {pos : Pos}
theorem binT (ha : PE X a ta) (hb : PE X b tb) {pins : List (Addr × Obj)} {s : Shared} {σ : St} {H : Hp} {R : V → V → Hp → Prop} (I : Inv X pins σ H s)
    (h : ta σ H fun x H1 => tb σ H1 fun y H2 => R x y H2) {Q : Value → Shared → Prop} {f : Value → Value → Sem Value}
    (hf : ∀ v u s2 x y H2, Inv X pins σ H2 s2 → RelV x v → RelV y u → R x y H2 → wpAny (model X.prog X.w) X.A (f v u) Q X.xe s2) :
    wpAny (model X.prog X.w) X.A (eval a X.env) (fun v s₁ => wpAny (model X.prog X.w) X.A (eval b X.env) (fun u s₂ => wpAny (model X.prog X.w) X.A (f v u) Q X.xe s₂) X.xe s₁) X.xe s := by
  refine thn (ha pins s σ H _ I h) fun v s1 ⟨x, H1, I1, r1, q1⟩ => ?_
  refine thn (hb pins s1 σ H1 _ I1 q1) fun u s2 ⟨y, H2, I2, r2, q2⟩ => ?_
  exact hf v u s2 x y H2 I2 r1 r2 q2
theorem pe_op {op : Operator} {r : R2} (ho : OpR X (binaryOp op) r) (ha : PE X a ta) (hb : PE X b tb) : PE X (.BinOp a op b pos) (tOp r ta tb) := by
  intro pins s σ H Q I h
  exact wpAny_BinOp (binT ha hb I h fun v u s2 x y H2 I2 rx ry q => ho pins s2 σ H2 x y v u Q I2 rx ry q)
theorem pe_un {op : UnaryOp} {r : V → Hp → VK → Prop} (ho : UnR X (unaryOp op) r) (ha : PE X a ta) : PE X (.UnaryOp op a pos) (tUn r ta) := by
  intro pins s σ H Q I h
  exact UnaryOp_ (thn (ha pins s σ H _ I h) fun v s1 ⟨x, H1, I1, r1, q1⟩ => ho pins s1 σ H1 x v Q I1 r1 q1)
theorem opI {f : Value → Value → Sem Value} {C : Int → Int → Prop} {g : Int → Int → Int}
    (rule : ∀ (i j : Int) (t u : Tok) (s : Shared) (Q : Value → Shared → Prop) (E : Value → Shared → Prop), C i j → Q (.int (g i j) s.toks) { s with toks := s.toks + 1 } → wpAny (model X.prog X.w) X.A (f (.int i t) (.int j u)) Q E s) :
    OpR X f (rI C fun i j => .int (g i j)) := by
  intro pins s σ H x y v u Q I rx ry h
  obtain ⟨i, j, rfl, rfl, hc, q⟩ := h
  obtain ⟨t, rfl⟩ := rx
  obtain ⟨t', rfl⟩ := ry
  exact rule i j t t' s _ _ hc ⟨.int (g i j), H, I.tok _, ⟨_, rfl⟩, q⟩
theorem opI0 {f : Value → Value → Sem Value} {g : Int → Int → Int}
    (rule : ∀ (i j : Int) (t u : Tok) (s : Shared) (Q : Value → Shared → Prop) (E : Value → Shared → Prop), Q (.int (g i j) s.toks) { s with toks := s.toks + 1 } → wpAny (model X.prog X.w) X.A (f (.int i t) (.int j u)) Q E s) :
    OpR X f (rI0 fun i j => .int (g i j)) := by
  intro pins s σ H x y v u Q I rx ry h
  obtain ⟨i, j, rfl, rfl, q⟩ := h
  obtain ⟨t, rfl⟩ := rx
  obtain ⟨t', rfl⟩ := ry
  exact rule i j t t' s _ _ ⟨.int (g i j), H, I.tok _, ⟨_, rfl⟩, q⟩
theorem opB0 {f : Value → Value → Sem Value} {g : Int → Int → Bool}
    (rule : ∀ (i j : Int) (t u : Tok) (s : Shared) (Q : Value → Shared → Prop) (E : Value → Shared → Prop), Q (.bool (g i j)) s → wpAny (model X.prog X.w) X.A (f (.int i t) (.int j u)) Q E s) :
    OpR X f (rI0 fun i j => .bl (g i j)) := by
  intro pins s σ H x y v u Q I rx ry h
  obtain ⟨i, j, rfl, rfl, q⟩ := h
  obtain ⟨t, rfl⟩ := rx
  obtain ⟨t', rfl⟩ := ry
  exact rule i j t t' s _ _ ⟨.bl (g i j), H, I, rfl, q⟩
def CPow (i j : Int) : Prop := 0 ≤ j ∧ j ≤ 1000000 ∧ i.natAbs < 2 ^ 64
def CMul (i j : Int) : Prop := (-(2 ^ 64) < i ∧ i < 2 ^ 64) ∨ (-(2 ^ 64) < j ∧ j < 2 ^ 64)
theorem CMul.ok {i j : Int} (h : CMul i j) : IntMulOk i j := by
  rcases h with ⟨h1, h2⟩ | ⟨h1, h2⟩
  · exact .of_left (intBits_le_64 h1 h2)
  · exact .of_right (intBits_le_64 h1 h2)
theorem op_add : OpR X (binaryOp .Add) (rI0 fun i j => .int (i + j)) := opI0 fun _ _ _ _ _ _ _ q => add_int q
theorem op_sub : OpR X (binaryOp .Sub) (rI0 fun i j => .int (i - j)) := opI0 fun _ _ _ _ _ _ _ q => sub_int q
theorem op_mul : OpR X (binaryOp .Mult) (rI CMul fun i j => .int (i * j)) := opI fun _ _ _ _ _ _ _ hc q => mul_int q hc.ok
theorem op_mod : OpR X (binaryOp .Mod) (rI (fun _ j => 0 < j) fun i j => .int (i % j)) := opI fun i j _ _ _ _ _ hc q => by
  have h1 : (0 : Int) < j := hc
  exact mod_int' (by omega) (by rw [Int.fmod_eq_emod_of_nonneg i (by omega)]; exact q)
theorem op_pow : OpR X (binaryOp .Pow) (rI CPow fun i j => .int (i ^ j.toNat)) := opI fun _ _ _ _ _ _ _ hc q => pow_int_small hc.1 hc.2.1 hc.2.2 q
theorem unI {f : Value → Sem Value} {g : Int → Int}
    (rule : ∀ (i : Int) (t : Tok) (s : Shared) (Q : Value → Shared → Prop) (E : Value → Shared → Prop), Q (.int (g i) s.toks) { s with toks := s.toks + 1 } → wpAny (model X.prog X.w) X.A (f (.int i t)) Q E s) :
    UnR X f (rU fun i => .int (g i)) := by
  intro pins s σ H x v Q I rx h
  obtain ⟨i, rfl, q⟩ := h
  obtain ⟨t, rfl⟩ := rx
  exact rule i t s _ _ ⟨.int (g i), H, I.tok _, ⟨_, rfl⟩, q⟩
theorem un_neg : UnR X (unaryOp .USub) (rU fun i => .int (-i)) := unI fun _ _ _ _ _ q => neg_int q
end
def scal : V → V → Bool
  | .non, .non => true | .non, .int _ => true | .int _, .non => true | .non, .bl _ => true | .bl _, .non => true | .non, .str _ => true | .str _, .non => true
  | .int _, .int _ => true | .bl _, .bl _ => true | .str _, .str _ => true | .byt _, .byt _ => true
  | .int _, .str _ => true | .str _, .int _ => true | .bl _, .str _ => true | .str _, .bl _ => true
  | _, _ => false
def rEq : R2 := fun x y H Q => scal x y = true ∧ Q (.bl (decide (x = y))) H
def rNe : R2 := fun x y H Q => scal x y = true ∧ Q (.bl (!decide (x = y))) H
theorem dec_int {i j : Int} : decide (V.int i = V.int j) = (i == j) := by
  rw [Bool.eq_iff_iff]
  simp
theorem dec_bl {i j : Bool} : decide (V.bl i = V.bl j) = (i == j) := by
  rw [Bool.eq_iff_iff]
  simp
theorem dec_str {i j : Str} : decide (V.str i = V.str j) = (i == j) := by
  rw [Bool.eq_iff_iff]
  simp
theorem dec_byt {i j : Array UInt8} : decide (V.byt i = V.byt j) = (i.toList == j.toList) := by
  rw [Bool.eq_iff_iff]
  cases i
  cases j
  simp
section
variable {X : Cx} {a b c : Expr} {ta tb tc : TE} {pos : Pos}
theorem fin_bl {pins : List (Addr × Obj)} {σ : St} {H : Hp} {s : Shared} {Q : VK} {k k' : Bool} (I : Inv X pins σ H s) (q : Q (.bl k) H) (e : k = k') : EP X pins σ Q (.bool k') s := by
  subst e
  exact ⟨.bl k, H, I, rfl, q⟩
theorem op_eq : OpR X (compareOp .Eq) rEq := by
  intro pins s σ H x y v u Q I rx ry h
  obtain ⟨hs, q⟩ := h
  cases x with
  | non =>
    cases rx
    cases y with
    | non => cases ry; exact PySem.EqNone.eq_none_none (fin_bl I q (by simp))
    | bl j => cases ry; exact PySem.EqNone.eq_none_bool (fin_bl I q (by simp))
    | int j => obtain ⟨t', rfl⟩ := ry; exact PySem.EqNone.eq_none_int (fin_bl I q (by simp))
    | str j => obtain ⟨t', rfl⟩ := ry; exact PySem.EqNone.eq_none_str (fin_bl I q (by simp))
    | _ => exact absurd (show false = true from hs) Bool.false_ne_true
  | bl i =>
    cases rx
    cases y with
    | non => cases ry; exact PySem.EqNone.eq_bool_none (fin_bl I q (by simp))
    | bl j => cases ry; exact eq_bool (fin_bl I q dec_bl)
    | str j => obtain ⟨t', rfl⟩ := ry; exact PySem.EqMixed.eq_bool_str (fin_bl I q (by simp))
    | _ => exact absurd (show false = true from hs) Bool.false_ne_true
  | int i =>
    obtain ⟨t, rfl⟩ := rx
    cases y with
    | non => cases ry; exact PySem.EqNone.eq_int_none (fin_bl I q (by simp))
    | int j => obtain ⟨t', rfl⟩ := ry; exact eq_int (fin_bl I q dec_int)
    | str j => obtain ⟨t', rfl⟩ := ry; exact PySem.EqMixed.eq_int_str (fin_bl I q (by simp))
    | _ => exact absurd (show false = true from hs) Bool.false_ne_true
  | str i =>
    obtain ⟨t, rfl⟩ := rx
    cases y with
    | non => cases ry; exact PySem.EqNone.eq_str_none (fin_bl I q (by simp))
    | bl j => cases ry; exact PySem.EqMixed.eq_str_bool (fin_bl I q (by simp))
    | int j => obtain ⟨t', rfl⟩ := ry; exact PySem.EqMixed.eq_str_int (fin_bl I q (by simp))
    | str j => obtain ⟨t', rfl⟩ := ry; exact eq_str (fin_bl I q dec_str)
    | _ => exact absurd (show false = true from hs) Bool.false_ne_true
  | byt i =>
    obtain ⟨t, rfl⟩ := rx
    cases y with
    | byt j => obtain ⟨t', rfl⟩ := ry; exact PySem.W.eq_bytes (fin_bl I q dec_byt)
    | _ => exact absurd (show false = true from hs) Bool.false_ne_true
  | _ => cases y <;> exact absurd (show false = true from hs) Bool.false_ne_true
theorem op_ne : OpR X (compareOp .NotEq) rNe := by
  intro pins s σ H x y v u Q I rx ry h
  obtain ⟨hs, q⟩ := h
  cases x with
  | non =>
    cases rx
    cases y with
    | non => cases ry; exact PySem.EqNone.ne_none_none (fin_bl I q (by simp))
    | bl j => cases ry; exact PySem.EqNone.ne_none_bool (fin_bl I q (by simp))
    | int j => obtain ⟨t', rfl⟩ := ry; exact PySem.EqNone.ne_none_int (fin_bl I q (by simp))
    | str j => obtain ⟨t', rfl⟩ := ry; exact PySem.EqNone.ne_none_str (fin_bl I q (by simp))
    | _ => exact absurd (show false = true from hs) Bool.false_ne_true
  | bl i =>
    cases rx
    cases y with
    | non => cases ry; exact PySem.EqNone.ne_bool_none (fin_bl I q (by simp))
    | bl j => cases ry; exact ne_bool (fin_bl I q (congrArg not dec_bl))
    | str j => obtain ⟨t', rfl⟩ := ry; exact PySem.EqMixed.ne_bool_str (fin_bl I q (by simp))
    | _ => exact absurd (show false = true from hs) Bool.false_ne_true
  | int i =>
    obtain ⟨t, rfl⟩ := rx
    cases y with
    | non => cases ry; exact PySem.EqNone.ne_int_none (fin_bl I q (by simp))
    | int j => obtain ⟨t', rfl⟩ := ry; exact ne_int (fin_bl I q (congrArg not dec_int))
    | str j => obtain ⟨t', rfl⟩ := ry; exact PySem.EqMixed.ne_int_str (fin_bl I q (by simp))
    | _ => exact absurd (show false = true from hs) Bool.false_ne_true
  | str i =>
    obtain ⟨t, rfl⟩ := rx
    cases y with
    | non => cases ry; exact PySem.EqNone.ne_str_none (fin_bl I q (by simp))
    | bl j => cases ry; exact PySem.EqMixed.ne_str_bool (fin_bl I q (by simp))
    | int j => obtain ⟨t', rfl⟩ := ry; exact PySem.EqMixed.ne_str_int (fin_bl I q (by simp))
    | str j => obtain ⟨t', rfl⟩ := ry; exact ne_str (fin_bl I q (congrArg not dec_str))
    | _ => exact absurd (show false = true from hs) Bool.false_ne_true
  | byt i =>
    obtain ⟨t, rfl⟩ := rx
    cases y with
    | byt j => obtain ⟨t', rfl⟩ := ry; exact PySem.W.ne_bytes (fin_bl I q (congrArg not dec_byt))
    | _ => exact absurd (show false = true from hs) Bool.false_ne_true
  | _ => cases y <;> exact absurd (show false = true from hs) Bool.false_ne_true
theorem op_lt : OpR X (compareOp .Lt) (rI0 fun i j => .bl (decide (i < j))) := opB0 fun _ _ _ _ _ _ _ q => lt_int q
theorem op_gt : OpR X (compareOp .Gt) (rI0 fun i j => .bl (decide (j < i))) := opB0 fun _ _ _ _ _ _ _ q => gt_int q
theorem op_isN : OpR X (compareOp .Is) (fun x y H Q => y = .non ∧ Q (.bl (decide (x = .non))) H) := by
  intro pins s σ H x y v u Q I rx ry h
  obtain ⟨rfl, q⟩ := h
  cases ry
  refine is_none_gen (fin_bl I q ?_)
  cases x <;> first
    | (cases rx; rfl)
    | (obtain ⟨t, rfl⟩ := rx; rfl)
theorem nomark (b : Expr) {op : CmpOp} (h : op ≠ .In := by decide) (h2 : op ≠ .NotIn := by decide) : behindInMarks op b = false := by
  have e1 : (op == CmpOp.In) = false := by cases op <;> first | rfl | exact absurd rfl h
  have e2 : (op == CmpOp.NotIn) = false := by cases op <;> first | rfl | exact absurd rfl h2
  cases b <;> simp [behindInMarks, e1, e2]
theorem pe_cmpR {op : CmpOp} {r : R2} (ho : OpR X (compareOp op) r) (ha : PE X a ta) (hb : PE X b tb) (hm : behindInMarks op b = false) : PE X (.Compare a [op] [b] pos) (tOp r ta tb) := by
  intro pins s σ H Q I h
  exact wpAny_Compare1 (binT ha hb I h fun v u s2 x y H2 I2 rx ry q => ho pins s2 σ H2 x y v u Q I2 rx ry q) hm
def tTest (t : TE) : TT := fun σ H Q => t σ H fun x H' => ∃ k, x = .bl k ∧ Q k H'
theorem pt_cmpR {op : CmpOp} {r : R2} (ho : OpR X (compareOp op) r) (ha : PE X a ta) (hb : PE X b tb) (hm : behindInMarks op b = false) : PT X (.Compare a [op] [b] pos) (tTest (tOp r ta tb)) := by
  intro pins s σ H Q I h
  refine wpAny_isTrue_Compare1 (thn (ha pins s σ H _ I h) fun v s1 ⟨x, H1, I1, r1, q1⟩ => thn (hb pins s1 σ H1 _ I1 q1) fun u s2 ⟨y, H2, I2, r2, q2⟩ =>
    thn (ho pins s2 σ H2 x y v u _ I2 r1 r2 q2) fun c s3 ⟨z, H3, I3, r3, k, e, q3⟩ => ?_) hm
  subst e
  cases r3
  exact wpAny_truthy_bool ⟨H3, I3, q3⟩
theorem line63 : (sizeLine : Nat) < 2 ^ 63 := by rw [sizeLine_eq]; decide
theorem vals1 {x : V} {us : List Value} (r : Vals [x] us) : ∃ u, us = [u] ∧ RelV x u := by
  cases r with
  | cons r1 r2 => cases r2; exact ⟨_, rfl, r1⟩
theorem vals2 {x y : V} {us : List Value} (r : Vals [x, y] us) : ∃ u w', us = [u, w'] ∧ RelV x u ∧ RelV y w' := by
  cases r with
  | cons r1 r2 =>
    cases r2 with
    | cons r3 r4 => cases r4; exact ⟨_, _, rfl, r1, r3⟩
def LenV (K : PySem.W.Frag) (x : V) (H : Hp) (n : Nat) : Prop :=
  match x with
  | .str y => y.length ≤ sizeLine ∧ n = y.length
  | .byt y => y.size ≤ sizeLine ∧ n = y.size
  | .ref p => (∃ xs, SqL K H p xs ∧ n = xs.length) ∨ ∃ xs, SqT K H p xs ∧ n = xs.length
  | _ => False
theorem call_len : CallR X (.builtin "len") (fun xs H Q => ∃ x n, xs = [x] ∧ LenV X.K x H n ∧ Q (.int n) H) := by
  intro pins s σ H xs us Q I r h
  obtain ⟨x, n, rfl, e, q⟩ := h
  obtain ⟨u, rfl, rx⟩ := vals1 r
  have hl := line63
  have hs : sizeLine = 16777216 := sizeLine_eq
  cases x with
  | str y =>
    obtain ⟨t, rfl⟩ := rx
    obtain ⟨hy, e'⟩ : y.length ≤ sizeLine ∧ n = y.length := e
    subst e'
    exact len_str (by omega) ⟨.int _, H, I.tok _, ⟨_, rfl⟩, q⟩
  | byt y =>
    obtain ⟨t, rfl⟩ := rx
    obtain ⟨hy, e'⟩ : y.size ≤ sizeLine ∧ n = y.size := e
    subst e'
    exact PySem.W.len_bytes (by omega) ⟨.int _, H, I.tok _, ⟨_, rfl⟩, q⟩
  | ref p =>
    cases rx
    have e' : (∃ xs, SqL X.K H p xs ∧ n = xs.length) ∨ ∃ xs, SqT X.K H p xs ∧ n = xs.length := e
    rcases e' with ⟨xs, hx, e'⟩ | ⟨xs, hx, e'⟩
    · subst e'
      obtain ⟨its, r', pl, hz⟩ := I.list hx
      have hlen := r'.length
      exact Calls.call_len_list pl.isList (by simp only [List.size_toArray]; omega) ⟨.int xs.length, H, I.tok _, ⟨_, by simp only [List.size_toArray]; rw [hlen]⟩, q⟩
    · subst e'
      obtain ⟨its, r', pl, hz⟩ := I.tuple hx
      have hlen := r'.length
      exact len_tuple pl (by simp only [List.size_toArray]; omega) ⟨.int xs.length, H, I.tok _, ⟨_, by simp only [List.size_toArray]; rw [hlen]⟩, q⟩
  | _ => exact (show False from e).elim
end
end L2
namespace L2
open PySem PySem.Spec PyProof.Rows
structure ObjM (h : Heap) (x dx C : Addr) (mA : Str → Option Value) : Prop where
  obj : h.get? x = some (PySem.W.instObj C dx)
  ns : h.Ns1 dx mA
  ne : dx ≠ x
theorem lookIn_ns {h : Heap} {dx : Addr} {mA : Str → Option Value} (n : h.Ns1 dx mA) : ∃ od, h.get? dx = some od ∧ ∀ name, PySem.W.lookIn name od = some (mA name) := by
  obtain ⟨o, es, ep, ho, hd, hk, _, hm⟩ := n
  refine ⟨o, ho, fun name => ?_⟩
  have e := hm name
  unfold nsFind findBy at e
  rw [← Array.find?_toList] at e
  unfold PySem.W.lookIn
  rw [hd]
  dsimp only
  split
  · rename_i y q
    rw [q] at e
    exact congrArg some e
  · rename_i q
    rw [q] at e
    have a : es.toList.any (·.refKey) = false := by
      rw [List.any_eq_false]
      intro y hy
      obtain ⟨z, t, hkey⟩ := hk y (Array.mem_toList_iff.mp hy)
      simp [DictEntry.refKey, hkey]
    have a' : ¬ es.toList.any (·.refKey) = true := by rw [a]; exact Bool.false_ne_true
    rw [if_neg a']
    exact congrArg some e
theorem ObjM.look {h : Heap} {x dx C : Addr} {mA : Str → Option Value} (I : ObjM h x dx C mA) : ∃ od, PySem.W.InstAt h x (PySem.W.instObj C dx) C (some od) ∧ ∀ name, PySem.W.lookIn name od = some (mA name) :=
  let ⟨od, ho, hl⟩ := lookIn_ns I.ns
  ⟨od, ⟨I.obj, rfl, rfl, ho⟩, hl⟩
section
variable {prog : Program} {w : World} {A : Around} {E : Value → Shared → Prop} {s : Shared} {K : PySem.W.Frag} {x dx C f : Addr} {mA : Str → Option Value} {name : Str} {v : Value}
end
theorem RelO.some_of {v : V} {o : Option Value} (r : RelO (some v) o) : ∃ u, o = some u ∧ RelV v u := by
  cases o with
  | none => exact (show False from r).elim
  | some u => exact ⟨u, rfl, r⟩
theorem RelO.none_of {o : Option Value} (r : RelO none o) : o = none := by
  cases o with
  | none => rfl
  | some u => exact (show False from r).elim
section
variable {P : Program} {w : World} {H H' : Hp} {h h' : Heap} {a C dx : Addr} {fs fs' : List (Str × V)}
theorem ins_get (hok : HOk P w H h) (e : H a = some (.ins C dx fs)) : ∃ mA, ObjM h a dx C mA ∧ (∀ f, RelO (fs.lookup f) (mA f)) ∧ PySem.Within mA (fs.map (·.1)) ∧ fs.length ≤ 1000 ∧ H dx = some (.own a) := by
  obtain ⟨d, z, ne, ob, mA, n, r, q⟩ := (show ObjOk P w H h a (.ins C dx fs) from hok a _ e)
  exact ⟨mA, ⟨ob, n, ne⟩, r, q, z, d⟩
end
structure Cls (K : PySem.W.Frag) (C : Addr) : Prop where
  pg : PySem.W.plainGet K C Str.empty = true
  hd : PySem.W.hasDictIn K C = true
  po : PySem.W.plainOver K C = true
  sa : PySem.W.findIn K (.ref C) "__setattr__" = some (some (.builtin "object.__setattr__"))
theorem Cls.get {K : PySem.W.Frag} {C : Addr} (c : Cls K C) (f : Str) : PySem.W.plainGet K C f = true := c.pg
structure Con (K : PySem.W.Frag) (C : Addr) (f : Str) (v : V) (u : Value) : Prop where
  at_ : PySem.W.findIn K (.ref C) f = some (some u)
  rel : RelV v u
  get : PySem.W.specialIn K u "__get__" = some none
  cp : PySem.W.copiedNames.contains f = false
structure Meth (K : PySem.W.Frag) (C : Addr) (m : Str) (f : Addr) : Prop where
  at_ : PySem.W.findIn K (.ref C) m = some (some (.ref f))
  fn : PySem.W.isFn K (.ref f) = true
  kp : PySem.W.keepIn K (.ref f) = true
section
variable {X : Cx} {pins : List (Addr × Obj)} {σ : St} {H : Hp} {s : Shared} {a C dx : Addr} {fs : List (Str × V)} {f : Str} {v : V} {A : Around} {E : Value → Shared → Prop}
theorem Inv.made (I : Inv X pins σ H s) : Inv X pins σ (upd (upd H s.heap.objs.size (.own (s.heap.objs.size + 1))) (s.heap.objs.size + 1) (.ins C s.heap.objs.size []))
    { s with heap := (s.heap.push PySem.W.emptyDict).push (PySem.W.instObj C s.heap.objs.size) } := by
  have e1 : (s.heap.push PySem.W.emptyDict).get? s.heap.objs.size = some PySem.W.emptyDict := Heap.get?_push_size s.heap rfl
  have e2 : ((s.heap.push PySem.W.emptyDict).push (PySem.W.instObj C s.heap.objs.size)).get? (s.heap.objs.size + 1) = some (PySem.W.instObj C s.heap.objs.size) := by
    have := Heap.get?_push_size (s.heap.push PySem.W.emptyDict) (o := PySem.W.instObj C s.heap.objs.size) rfl
    rwa [Heap.size_push] at this
  have e3 : (s.heap.push PySem.W.emptyDict).Ns s.heap.objs.size (fun _ => none) := ⟨PySem.W.emptyDict, #[], _, e1, rfl, (fun e he => absurd he (by simp)), fun _ => rfl⟩
  have I1 := I.laid (a := s.heap.objs.size) (o := .own (s.heap.objs.size + 1)) (h' := s.heap.push PySem.W.emptyDict) (t' := s.toks) (fun b u q => Heap.get?_push_of_some _ q) (Nat.le_refl _) ⟨_, e1⟩
  refine I1.laid (a := s.heap.objs.size + 1) (o := .ins C s.heap.objs.size []) (t' := s.toks) (fun b u q => Heap.get?_push_of_some _ q) (Nat.le_of_eq (Heap.size_push _ _)) ?_
  have ne : s.heap.objs.size ≠ s.heap.objs.size + 1 := Nat.ne_of_lt (Nat.lt_succ_self _)
  refine ⟨by rw [upd_ne ne, upd_same], Nat.zero_le _, ne, e2, fun _ => none, (Heap.Ns1.of_empty e3).at fun o q => Heap.get?_push_of_some _ q, fun _ => True.intro, fun y hy => absurd rfl hy⟩
end
section
variable {X : Cx} {o e value : Expr} {f : Str} {pos pos' tpos : Pos} {ta tv : TE}
end
section
variable {X : Cx} {pins : List (Addr × Obj)} {σ : St} {H : Hp} {s : Shared} {A : Around} {E : Value → Shared → Prop} {Q : Value → Shared → Prop} {c : Value} {b : Bool}
inductive TyOf (K : PySem.W.Frag) (H : Hp) : V → Value → Prop where
  | non : TyOf K H .non (.type "NoneType")
  | bl (x : Bool) : TyOf K H (.bl x) (.type "bool")
  | int (i : Int) : TyOf K H (.int i) (.type "int")
  | str (x : Str) : TyOf K H (.str x) (.type "str")
  | flt (x : UInt64) : TyOf K H (.flt x) (.type "float")
  | lst {a : Addr} {xs : List V} (e : H a = some (.lst xs)) : TyOf K H (.ref a) (.type "list")
  | frz {a : Addr} {o : Obj} {xs : List V} (e : H a = some (.frz o (.lst xs))) : TyOf K H (.ref a) (.type "list")
  | tup {a : Addr} {xs : List V} (e : H a = some (.tup xs)) : TyOf K H (.ref a) (.type "tuple")
  | dK {a : Addr} {kvs : List (Key × V)} (e : H a = some (.dK kvs)) : TyOf K H (.ref a) (.type "dict")
  | dT {a : Addr} {kvs : List (List Key × V)} (e : H a = some (.dT kvs)) : TyOf K H (.ref a) (.type "dict")
  | ins {a C dx : Addr} {fs : List (Str × V)} (e : H a = some (.ins C dx fs)) (cl : Cls K C) (ha : PySem.W.findIn K (.ref C) "__class__" = some (some (.builtin "object.__class__")))
      (hn : PySem.W.specialIn K (.builtin "object.__class__") "__get__" = some (some (.builtin "getset_descriptor.__get__"))) (htk : PySem.W.takesIn K (.builtin "object.__class__") = some true)
      (hm : PySem.W.mroIn K C (.type "object") = some true) : TyOf K H (.ref a) (.ref C)
theorem isinst_ok {x : V} {u t : Value} (I : Inv X pins σ H s) (rx : RelV x u) (ty : TyOf X.K H x t) (e : PySem.W.kitOne X.K t c = some b) (h : ∀ tk, Q (.bool b) { s with toks := tk }) :
    wpAny (model X.prog X.w) A (call (.builtin "isinstance") [u, c]) Q E s := by
  cases ty with
  | non => cases (show u = Value.none from rx); exact PySem.W.kia_one PySem.W.kitx_none I.kIn True.intro e (fun z => nomatch z) h
  | bl y => cases (show u = Value.bool y from rx); exact PySem.W.kia_one PySem.W.kitx_bool I.kIn True.intro e (fun z => nomatch z) h
  | int i => obtain ⟨t, q⟩ := (show ∃ t, u = Value.int i t from rx); cases q; exact PySem.W.kia_one PySem.W.kitx_int I.kIn True.intro e (fun z => nomatch z) h
  | str y => obtain ⟨t, q⟩ := (show ∃ t, u = Value.str y t from rx); cases q; exact PySem.W.kia_one PySem.W.kitx_str I.kIn True.intro e (fun z => nomatch z) h
  | flt y => obtain ⟨t, q⟩ := (show ∃ t, u = Value.float y t from rx); cases q; exact PySem.W.kia_one PySem.W.kitx_float I.kIn True.intro e (fun z => nomatch z) h
  | @lst a xs ea =>
    cases (show u = Value.ref a from rx)
    obtain ⟨_, _, n, _, h1⟩ := (show ObjOk X.prog X.w H s.heap a (.lst xs) from I.hok a _ ea)
    exact PySem.W.kia_one PySem.W.kitx_list I.kIn ⟨_, h1, rfl⟩ e (fun z => nomatch z) h
  | @frz a ob xs ea =>
    cases (show u = Value.ref a from rx)
    obtain ⟨_, _, _, n, _, h1⟩ := (show ObjOk X.prog X.w H s.heap a (.frz ob (.lst xs)) from I.hok a _ ea)
    exact PySem.W.kia_one PySem.W.kitx_list I.kIn ⟨_, h1, rfl⟩ e (fun z => nomatch z) h
  | @tup a xs ea =>
    cases (show u = Value.ref a from rx)
    obtain ⟨_, _, _, p⟩ := (show ObjOk X.prog X.w H s.heap a (.tup xs) from I.hok a _ ea)
    obtain ⟨o, h1, h2, _⟩ := p
    exact PySem.W.kia_one PySem.W.kitx_tuple I.kIn ⟨o, h1, h2⟩ e (fun z => nomatch z) h
  | @dK a kvs ea =>
    cases (show u = Value.ref a from rx)
    obtain ⟨_, _, vs, _, p⟩ := (show ObjOk X.prog X.w H s.heap a (.dK kvs) from I.hok a _ ea)
    obtain ⟨o, es, ep, h1, h2, _⟩ := p
    exact PySem.W.kia_one PySem.W.kitx_dict I.kIn ⟨o, h1, h2.1⟩ e (fun z => nomatch z) h
  | @dT a kvs ea =>
    cases (show u = Value.ref a from rx)
    obtain ⟨_, _, xs, _, o, es, ep, h1, h2, _⟩ := (show ObjOk X.prog X.w H s.heap a (.dT kvs) from I.hok a _ ea)
    exact PySem.W.kia_one PySem.W.kitx_dict I.kIn ⟨o, h1, h2.1⟩ e (fun z => nomatch z) h
  | @ins a C dx fs ea cl ha hn htk hm =>
    cases (show u = Value.ref a from rx)
    obtain ⟨mA, O, _⟩ := ins_get I.hok ea
    obtain ⟨od, J, _⟩ := O.look
    exact PySem.W.kia_one (PySem.W.kitx_own (cl.get _) cl.hd ha hn htk hm) I.kIn J e (fun z => nomatch z) h
end
end L2
namespace L2
open PySem PySem.Spec PyProof.Rows
structure Room (k : Nat) (A : Around) : Prop where
  hd : A.handled = none
  dp : A.depth + 3 * k + 5 < recursionLimit
  un : A.units + 16 * k + 200 < cLine
  gd : A.guards = some []
theorem Room.mono {j k : Nat} {A : Around} (r : Room k A) (h : j ≤ k) : Room j A := ⟨r.hd, by have := r.dp; omega, by have := r.un; omega, r.gd⟩
theorem Room.deeper {k : Nat} {A : Around} (r : Room (k + 1) A) (env : Env) : Room k (A.deeper env) :=
  ⟨r.hd, by have := r.dp; show A.depth + 1 + 3 * k + 5 < _; omega, by have := r.un; show A.units + 3 + 16 * k + 200 < _; omega, r.gd⟩
theorem Room.in1 {k : Nat} {A : Around} (r : Room (k + 1) A) : Room k A.in1 :=
  ⟨r.hd, by have := r.dp; show A.depth + 3 * k + 5 < _; omega, by have := r.un; show A.units + 1 + 16 * k + 200 < _; omega, r.gd⟩
theorem Room.depth {k : Nat} {A : Around} (r : Room k A) : A.depth < recursionLimit := by have := r.dp; omega
theorem Room.units {k : Nat} {A : Around} (r : Room k A) : A.units + 64 < cLine := by have := r.un; omega
def tNil : TA := fun _ H Q => Q [] H
def tCons (ta : TE) (tr : TA) : TA := fun σ H Q => ta σ H fun x H1 => tr σ H1 fun xs H2 => Q (x :: xs) H2
section
variable {X : Cx} {e : Expr} {es : List Expr} {te : TE} {t : TA} {pos : Pos}
theorem pa_nil : PA X [] tNil := fun _ _ _ _ H Q I h => Calls.spliced_nil ⟨[], H, I, .nil, h⟩
theorem pa_cons (ha : PE X e te) (hr : PA X es t) (hs : starEach (e :: es) X.env = (false, eval e X.env) :: starEach es X.env := by rfl) : PA X (e :: es) (tCons te t) := by
  intro pos pins s σ H Q I h
  rw [hs]
  show wpAny _ _ (spliced ((false, eval e X.env) :: backTo pos (starEach es X.env))) _ _ s
  refine Calls.spliced_cons (thn (ha pins s σ H _ I h) fun u s1 ⟨x, H1, I1, r1, q1⟩ => ?_)
  exact thn (hr pos pins s1 σ H1 _ I1 q1) fun us s2 ⟨xs, H2, I2, r2, q2⟩ => ⟨x :: xs, H2, I2, .cons r1 r2, q2⟩
def tTup (t : TA) : TE := fun σ H Q => t σ H fun xs H1 => xs.length ≤ sizeLine ∧ ∀ p, H1 p = none → Q (.ref p) (upd H1 p (.tup xs))
def tLst (t : TA) : TE := fun σ H Q => t σ H fun xs H1 => xs.length ≤ sizeLine ∧ ∀ p, H1 p = none → Q (.ref p) (upd H1 p (.lst xs))
theorem pe_tup {x1} (h : PA X es t) : PE X (.Tuple es x1 pos) (tTup t) := by
  intro pins s σ H Q I hq
  refine wpAny_Tuple_spliced (thn (h pos pins s σ H _ I hq) fun us s1 ⟨xs, H1, I1, r, z, q⟩ => ⟨by rw [← r.length]; exact z, ?_⟩)
  have hf : H1 s1.heap.objs.size = none := I1.hok.fresh (Nat.le_refl _)
  refine ⟨.ref s1.heap.objs.size, upd H1 s1.heap.objs.size (.tup xs), I1.laid (t' := s1.toks) (fun b u e => Heap.get?_push_of_some _ e) (Nat.le_refl _) ?_, rfl, q _ hf⟩
  exact ⟨z, us, r, ⟨_, Heap.get?_push_size _ rfl, rfl, _, rfl⟩⟩
theorem pe_lst (h : PA X es t) : PE X (.List es pos) (tLst t) := by
  intro pins s σ H Q I hq
  refine wpAny_List_spliced (thn (h pos pins s σ H _ I hq) fun us s1 ⟨xs, H1, I1, r, z, q⟩ => ⟨by rw [← r.length]; exact z, ?_⟩)
  have hf : H1 s1.heap.objs.size = none := I1.hok.fresh (Nat.le_refl _)
  refine ⟨.ref s1.heap.objs.size, upd H1 s1.heap.objs.size (.lst xs), I1.laid (t' := s1.toks) (fun b u e => Heap.get?_push_of_some _ e) (Nat.le_refl _) ?_, rfl, q _ hf⟩
  exact ⟨z, us, 0, r, Heap.get?_push_size _ rfl⟩
end
abbrev Sp := List V → Hp → VK → XK → Prop
abbrev CXT := List Env → Hp → Shared → XK → Value → Shared → Prop
structure Env0 (P : Program) (w : World) (K : PySem.W.Frag) (mg : Str → Option Value) (base : Heap) (A : Around) (outer : List Env) (s : Shared) (H : Hp) : Prop where
  frames : A.frames = some outer
  mod : Mod K mg base
  bs : ∀ b o, base.get? b = some o → s.heap.get? b = some o ∧ H b = none
  bsz : base.objs.size ≤ s.heap.objs.size
  funs : s.heap.FunFrames base outer
  frf : ∀ b ∈ frs outer, H b = none
  hok : HOk P w H s.heap
  bare : AllBare s.gens
def CE (outer : List Env) (P : Program) (w : World) (H : Hp) (s : Shared) (Q : VK) (u : Value) (s' : Shared) : Prop :=
  ∃ v H', s'.os = s.os ∧ AllBare s'.gens ∧ Un (frs outer) [] H H' s.heap s'.heap ∧ HOk P w H' s'.heap ∧ RelV v u ∧ Q v H'
def CR (CX : CXT) (outer : List Env) (P : Program) (w : World) (H : Hp) (s : Shared) (Q : VK) (E : XK) (r : Result) (s' : Shared) : Prop :=
  match r with
  | .ok (.ret u) => CE outer P w H s Q u s'
  | .ok _ => False
  | .error e => CX outer H s E e s'
structure FnOk (P : Program) (w : World) (K : PySem.W.Frag) (mg : Str → Option Value) (base : Heap) (CX : CXT) (k : Nat) (f : Addr) (fd : FuncData) (ps : List Str) (sp : Sp) : Prop where
  len : ∀ vs H Q E, sp vs H Q E → vs.length = ps.length
  run : ∀ (A : Around) (outer : List Env) (s : Shared) (H : Hp) (args : Args) (us : List Value) (vs : List V) (Q : VK) (E : XK), Room k A → Env0 P w K mg base A outer s H → BindsTo s fd args (ps.zip us) → Vals vs us → sp vs H Q E →
    codeAny (model P w) A (.call (.ref f) args) (CR CX outer P w H s Q E) s
theorem FnOk.mono {P : Program} {w : World} {K : PySem.W.Frag} {mg : Str → Option Value} {base : Heap} {CX : CXT} {j k : Nat} {f : Addr} {fd : FuncData} {ps : List Str} {sp : Sp} (F : FnOk P w K mg base CX j f fd ps sp) (h : j ≤ k) :
    FnOk P w K mg base CX k f fd ps sp := ⟨F.len, fun A outer s H args us vs Q E hr => F.run A outer s H args us vs Q E (hr.mono h)⟩
theorem FnOk.imp {P : Program} {w : World} {K : PySem.W.Frag} {mg : Str → Option Value} {base : Heap} {CX : CXT} {k : Nat} {f : Addr} {fd : FuncData} {ps : List Str} {sp sp' : Sp} (F : FnOk P w K mg base CX k f fd ps sp)
    (h : ∀ vs H Q E, sp' vs H Q E → sp vs H Q E) : FnOk P w K mg base CX k f fd ps sp' :=
  ⟨fun vs H Q E q => F.len vs H Q E (h _ _ _ _ q), fun A outer s H args us vs Q E hr he hb hv hs => F.run A outer s H args us vs Q E hr he hb hv (h _ _ _ _ hs)⟩
theorem Env0.in1 {P : Program} {w : World} {K : PySem.W.Frag} {mg : Str → Option Value} {base : Heap} {A : Around} {outer : List Env} {s : Shared} {H : Hp} (e : Env0 P w K mg base A outer s H) :
    Env0 P w K mg base A.in1 outer s H := ⟨e.frames, e.mod, e.bs, e.bsz, e.funs, e.frf, e.hok, e.bare⟩
section
variable {X : Cx} {pins : List (Addr × Obj)} {σ : St} {H : Hp} {s s' : Shared}
theorem Inv.env0 (I : Inv X pins σ H s) : Env0 X.prog X.w X.K X.mg X.base X.A X.stack s H :=
  ⟨I.ok.frames, I.ok.mod, I.bs, Nat.le_trans I.ok.bsz I.sz, I.stack, I.stkFree, I.hok, I.bare⟩
theorem Inv.after {Q : VK} {u : Value} (I : Inv X pins σ H s) (h : CE X.stack X.prog X.w H s Q u s') : EP X pins σ Q u s' := by
  obtain ⟨v, H', os, bare, un, hok, r, q⟩ := h
  obtain ⟨hh, g, d, t, os'⟩ := s'
  obtain rfl : os' = s.os := os
  exact ⟨v, H', I.call (h' := hh) (g' := g) (d' := d) (t' := t) (ch := []) un hok bare (fun b z => absurd z (by simp)), r, q⟩
end
def tCall (sp : Sp) (dvs : List V) (E : XK) (t : TA) : TE := fun σ H Q => t σ H fun vs H1 => sp (vs ++ dvs) H1 Q E
def Binds (K : PySem.W.Frag) (fd : FuncData) (ps : List Str) (ds : List Value) : Prop :=
  ∀ (s : Shared) (us : List Value), K.In s.heap → (us ++ ds).length = ps.length → BindsTo s fd ⟨us, []⟩ (ps.zip (us ++ ds))
theorem Binds.all {K : PySem.W.Frag} {fd : FuncData} {ps : List Str} (h : ∀ us : List Value, us.length = ps.length → bindArgs fd ⟨us, []⟩ = pure (ps.zip us)) : Binds K fd ps [] := fun s us _ hl => by
  rw [List.append_nil] at hl ⊢
  exact .of_eq (h us hl)
def Passes (CX : CXT) (X : Cx) (E : XK) : Prop := ∀ (pins : List (Addr × Obj)) (σ : St) (H : Hp) (s : Shared) (e : Value) (s' : Shared), Inv X pins σ H s → CX X.stack H s E e s' → X.xe e s'
section
variable {X : Cx} {CX : CXT} {k : Nat} {f C : Addr} {fd : FuncData} {ps : List Str} {sp : Sp} {dvs : List V} {ds : List Value} {E : XK} {x m : Str} {p pos apos : Pos} {e o : Expr} {es : List Expr} {ta : TE} {t : TA}
theorem run_fn {pins : List (Addr × Obj)} {σ : St} {H : Hp} {s : Shared} {Q : VK} {us : List Value} {vs : List V} (F : FnOk X.prog X.w X.K X.mg X.base CX k f fd ps sp) (hr : Room k X.A) (hb : Binds X.K fd ps ds) (hd : Vals dvs ds) (hx : Passes CX X E)
    (I : Inv X pins σ H s) (r : Vals vs us) (h : sp (vs ++ dvs) H Q E) : wpAny (model X.prog X.w) X.A (call (.ref f) us) (EP X pins σ Q) X.xe s := by
  have r2 : Vals (vs ++ dvs) (us ++ ds) := r.append hd
  have hl : (us ++ ds).length = ps.length := by rw [← r2.length]; exact F.len _ _ _ _ h
  refine wpAny_call (codeAny_mono (F.run X.A X.stack s H ⟨us, []⟩ (us ++ ds) (vs ++ dvs) Q E hr I.env0 (hb s us I.kIn hl) r2 h) fun r s' hq => ?_)
  cases r with
  | error e => exact hx pins σ H s e s' I hq
  | ok fl =>
    cases fl with
    | ret u => exact I.after hq
    | next => exact False.elim hq
    | brk => exact False.elim hq
    | cont => exact False.elim hq
theorem pe_call (F : FnOk X.prog X.w X.K X.mg X.base CX k f fd ps sp) (hr : Room k X.A) (hg : Gl X x) (hm : X.mg x = some (.ref f)) (hk : PySem.W.keepIn X.K (.ref f) = true) (hb : Binds X.K fd ps ds) (hd : Vals dvs ds) (hx : Passes CX X E)
    (ha : PA X (e :: es) t) (hdb : (x == ("__debug__" : Str)) = false := by decide) (he : starEach (e :: es) X.env = (false, eval e X.env) :: starEach es X.env := by rfl) (hpl : (backTo pos (starEach es X.env)).any (·.1) = false := by rfl) :
    PE X (.Call (.Name x p) (e :: es) [] pos) (tCall sp dvs E t) := by
  intro pins s σ H Q I h
  refine wpAny_Call_Name_kw (ld_glob I hg hm ?_ hdb)
  refine PySem.W.callWith_K (h₀ := X.base) I.ok.mod.kin hk (thn (ha pos pins s σ H _ I h) fun us s1 ⟨vs, H1, I1, r, q⟩ => ⟨I1.kIn, ?_⟩) he hpl
  exact run_fn F hr hb hd hx I1 r q
structure Mk (K : PySem.W.Frag) (C f : Addr) : Prop where
  makes : PySem.W.makesIn K C = true
  init : PySem.W.findIn K (.ref C) "__init__" = some (some (.ref f))
  fn : PySem.W.isFn K (.ref f) = true
  kp : PySem.W.keepIn K (.ref C) = true
end
section
variable {X : Cx} {CX : CXT} {k : Nat} {f C : Addr} {fd : FuncData} {ps ks : List Str} {sp : Sp} {E : XK} {x m : Str} {p pos apos kpos : Pos} {e o : Expr} {es : List Expr} {kws : List Keyword} {te ta : TE} {t tk : TA} {nm : Option Str}
structure KBinds (K : PySem.W.Frag) (fd : FuncData) (ps ks : List Str) (g : List Value → List Value → List Value) (gV : List V → List V → List V) : Prop where
  to : ∀ (s : Shared) (us ws : List Value), K.In s.heap → (g us ws).length = ps.length → BindsTo s fd ⟨us, ks.zip ws⟩ (ps.zip (g us ws))
  rel : ∀ {vs : List V} {us : List Value} {zs : List V} {ws : List Value}, Vals vs us → Vals zs ws → Vals (gV vs zs) (g us ws)
variable {g : List Value → List Value → List Value} {gV : List V → List V → List V}
end
structure FnScope (N P : List Str) (sc : Scope) : Prop where
  kind : sc.kind = .function
  co : sc.isCoroutine = false
  gen : sc.isGenerator = false
  nd : N.Nodup
  pre : N.take P.length = P
  par : ∀ x ∈ P, sc.names.lookup x = some .local ∨ sc.names.lookup x = some .cell
  nofree : ∀ y ∈ sc.names, y.2 ≠ .free
theorem bindL_out {kindOf : Str → Option NameKind} {x : Str} : ∀ {binds : List (Str × Value)} {m : Str → Option Value}, (∀ v, (x, v) ∉ binds) → bindL kindOf binds m x = m x
  | [], _, _ => rfl
  | (n, v) :: r, m, h => by
    unfold bindL
    rw [bindL_out fun w hw => h w (List.mem_cons_of_mem _ hw)]
    split
    · have : x ≠ n := by rintro rfl; exact h v List.mem_cons_self
      simp [this]
    · rfl
theorem bindC_out {kindOf : Str → Option NameKind} {x : Str} : ∀ {binds : List (Str × Value)} {m : Str → Option Value}, (∀ v, (x, v) ∉ binds) → bindC kindOf binds m x = m x
  | [], _, _ => rfl
  | (n, v) :: r, m, h => by
    unfold bindC
    rw [bindC_out fun w hw => h w (List.mem_cons_of_mem _ hw)]
    split
    · rfl
    · have : x ≠ n := by rintro rfl; exact h v List.mem_cons_self
      simp [this]
theorem bindL_get {kindOf : Str → Option NameKind} {x : Str} {v : Value} : ∀ {P : List Str} {vs : List Value} {i : Nat} {m : Str → Option Value}, P.Nodup → P[i]? = some x → vs[i]? = some v → kindOf x = some .local →
    bindL kindOf (P.zip vs) m x = some v
  | [], _, _, _, _, h, _, _ => by simp at h
  | _ :: _, [], _, _, _, _, h, _ => by simp at h
  | p :: P, w :: vs, 0, m, nd, h1, h2, hk => by
    simp at h1 h2; subst h1; subst h2
    show bindL kindOf ((p, w) :: P.zip vs) m p = _
    unfold bindL
    rw [bindL_out fun v hv => (List.nodup_cons.mp nd).1 (List.of_mem_zip hv).1, if_pos hk]
    simp
  | p :: P, w :: vs, i + 1, m, nd, h1, h2, hk => by
    show bindL kindOf ((p, w) :: P.zip vs) m x = _
    unfold bindL
    exact bindL_get (i := i) (List.nodup_cons.mp nd).2 (by simpa using h1) (by simpa using h2) hk
theorem bindC_get {kindOf : Str → Option NameKind} {x : Str} {v : Value} : ∀ {P : List Str} {vs : List Value} {i : Nat} {m : Str → Option Value}, P.Nodup → P[i]? = some x → vs[i]? = some v → kindOf x ≠ some .local →
    bindC kindOf (P.zip vs) m x = some v
  | [], _, _, _, _, h, _, _ => by simp at h
  | _ :: _, [], _, _, _, _, h, _ => by simp at h
  | p :: P, w :: vs, 0, m, nd, h1, h2, hk => by
    simp at h1 h2; subst h1; subst h2
    show bindC kindOf ((p, w) :: P.zip vs) m p = _
    unfold bindC
    rw [bindC_out fun v hv => (List.nodup_cons.mp nd).1 (List.of_mem_zip hv).1, if_neg hk]
    simp
  | p :: P, w :: vs, i + 1, m, nd, h1, h2, hk => by
    show bindC kindOf ((p, w) :: P.zip vs) m x = _
    unfold bindC
    exact bindC_get (i := i) (List.nodup_cons.mp nd).2 (by simpa using h1) (by simpa using h2) hk
def start (N : List Str) (vs : List V) : St := vs.map some ++ List.replicate (N.length - vs.length) none
def cxOf (CX : CXT) (P : Program) (w : World) (K : PySem.W.Frag) (mg : Str → Option Value) (base : Heap) (N : List Str) (qual : Str) (scope : Scope) (f : Addr) (cd : Value) (A : Around) (outer : List Env) (s : Shared) (H : Hp) (E : XK) : Cx where
  prog := P
  w := w
  K := K
  mg := mg
  base := base
  A := A.deeper (envOfC qual scope s.heap.objs.size f cd)
  N := N
  s₀ := s
  H₀ := H
  env := envOfC qual scope s.heap.objs.size f cd
  outer := outer
  stack := envOfC qual scope s.heap.objs.size f cd :: outer
  ex := []
  calm := true
  fn := fun _ => true
  pn := []
  xe := fun e s' => wpAny (model P w) (A.deeper (envOfC qual scope s.heap.objs.size f cd)) (leaving (envOfC qual scope s.heap.objs.size f cd) e) (fun _ s'' => CX outer H s E e s'') (fun e' s'' => CX outer H s E e' s'') s'
theorem cell_has {sc : Scope} {n : Nat} {x : Str} (h : sc.names.lookup x = some .cell) : ∃ c, (cellsFrom n sc.names []).lookup x = some c := by
  have q := PySem.W.cellsFrom_some sc.names n [] (.inl h)
  exact Option.isSome_iff_exists.mp q
theorem inv_start {CX : CXT} {P : Program} {w : World} {K : PySem.W.Frag} {mg : Str → Option Value} {base : Heap} {N ps : List Str} {qual : Str} {scope : Scope} {f : Addr} {cd : Value} {A : Around} {outer : List Env} {s s1 : Shared} {H : Hp} {E : XK} {us : List Value} {vs : List V}
    (S : FnScope N ps scope) (hd : A.handled = none) (e0 : Env0 P w K mg base A outer s H) (hl : vs.length = ps.length) (r : Vals vs us)
    (x : InCallC s s.heap.objs.size (bindL (envOfC qual scope s.heap.objs.size f cd).kindOf (ps.zip us) fun _ => none) (cellsFrom (s.heap.objs.size + 1) scope.names []) (bindC (envOfC qual scope s.heap.objs.size f cd).kindOf (ps.zip us) fun _ => none) s1) :
    Inv (cxOf CX P w K mg base N qual scope f cd A outer s H E) [] (start N vs) H s1 := by
  have hpl : ps.length ≤ N.length := by have := congrArg List.length S.pre; rw [List.length_take] at this; omega
  obtain ⟨h1, tk, rfl, hk⟩ := x.done
  have noA : ∀ b : Addr, b ∉ (cxOf CX P w K mg base N qual scope f cd A outer s H E).ex := fun b z => absurd (show b ∈ ([] : List Addr) from z) (by simp)
  refine ⟨⟨e0.mod, S.kind, rfl, rfl, Nat.le_refl _, fun y z c h1 h2 => ?_, fun y hy => ?_, fun y c _ h => ?_, fun _ => hd, Around.frames_deeper e0.frames, .inr ⟨rfl, rfl⟩, fun b z => absurd z (noA b), e0.bs, e0.bsz, fun b _ _ => noA b, fun b z => absurd z (noA b), e0.funs, e0.frf⟩,
    rfl, e0.bare, Un.kept hk, ⟨_, x.toInCall.ns, fun i y v h1 h2 h3 => ?_⟩, fun y c h => ⟨_, x.cell y c h⟩, e0.hok.fresh (Nat.le_refl _), fun y c h => ?_, fun p hp => absurd (show p ∈ ([] : List (Addr × Obj)) from hp) (by simp), e0.hok.kept hk, ?_⟩
  · exact name_of_addr x.apart (PySem.mem_of_lookup h1) (PySem.mem_of_lookup h2)
  · have hy : scope.names.lookup y = some .cell ∨ scope.names.lookup y = some .free := hy
    rcases hy with hy | hy
    · exact cell_has hy
    · exact absurd rfl (S.nofree _ (PySem.mem_of_lookup hy))
  · exact Nat.le_of_lt (x.above y c (PySem.mem_of_lookup h))
  · have hi : i < vs.length := by
      unfold start at h2
      by_cases hi : i < vs.length
      · exact hi
      · rw [List.getElem?_append_right (by simpa using hi)] at h2
        rw [List.getElem?_replicate] at h2
        split at h2 <;> cases h2
    have ha : vs[i]? = some v := by
      unfold start at h2
      rw [List.getElem?_append_left (by simpa using hi), List.getElem?_map] at h2
      cases e : vs[i]? with
      | none => rw [e] at h2; cases h2
      | some a => rw [e] at h2; cases h2; rfl
    obtain ⟨u, hu, rv⟩ := r.get ha
    have hp : ps[i]? = some y := by
      rw [← S.pre, List.getElem?_take_of_lt (by omega)]; exact h1
    have ndP : ps.Nodup := by rw [← S.pre]; exact S.nd.sublist (List.take_sublist _ _)
    refine ⟨u, rv, ?_⟩
    rcases S.par y (List.mem_of_getElem? hp) with k | k
    · exact .inl ⟨k, bindL_get ndP hp hu k⟩
    · obtain ⟨c, e⟩ := cell_has (n := s.heap.objs.size + 1) k
      refine .inr ⟨.inl k, c, e, ?_⟩
      have q := x.cell y c e
      rw [bindC_get ndP hp hu (by show scope.names.lookup y ≠ _; rw [k]; decide)] at q
      exact q
  · exact e0.hok.fresh (Nat.le_of_lt (x.above y c (PySem.mem_of_lookup h)))
  · unfold start
    show _ = N.length
    rw [List.length_append, List.length_map, List.length_replicate]
    omega
theorem fn_of {CX : CXT} {P : Program} {w : World} {K : PySem.W.Frag} {mg : Str → Option Value} {base : Heap} {k : Nat} {f : Addr} {name qual : Str} {params : Arguments} {body : List Stmt} {scope : Scope} {dV kV doc pm cdv ct oc : Value} {an od : Option Addr}
    {osl : Array (Option Value)} {N ps : List Str} {sp : Sp} (lk : K.lookup f = some ⟨oc, od, .func (PySem.W.fnOf name qual params body scope dV kV doc pm an cdv ct), osl⟩) (hcd : PySem.W.codeIn K cdv qual = true) (S : FnScope N ps scope)
    (len : ∀ vs H Q E, sp vs H Q E → vs.length = ps.length)
    (hbody : ∀ (A : Around) (outer : List Env) (s : Shared) (H : Hp) (vs : List V) (Q : VK) (E : XK), Room k (A.deeper (envOfC qual scope s.heap.objs.size f cdv)) → sp vs H Q E →
      ∃ t, PSs (cxOf CX P w K mg base N qual scope f cdv A outer s H E) body t ∧ t { nx := fun _ H' => Q .non H', rt := Q } (start N vs) H) :
    FnOk P w K mg base CX (k + 1) f (PySem.W.fnOf name qual params body scope dV kV doc pm an cdv ct) ps sp := by
  refine ⟨len, fun A outer s H args us vs Q E hr e0 hb r hsp => ?_⟩
  have hl := len _ _ _ _ hsp
  have KX : K.In s.heap := e0.mod.kin.keeps fun b o e => (e0.bs b o e).1
  have lim : s.heap.NoLimit := e0.mod.nolimit.keeps fun b o e => (e0.bs b o e).1
  have hkind : ∀ y ∈ ps.zip us, scope.names.lookup y.1 = some .local ∨ (scope.names.lookup y.1 = some .cell ∧ ((cellsFrom (s.heap.objs.size + 1) scope.names []).lookup y.1).isSome = true) := fun ⟨n, v⟩ hy => by
    rcases S.par n (List.of_mem_zip hy).1 with q | q
    · exact .inl q
    · exact .inr ⟨q, PySem.W.cellsFrom_some _ _ _ (.inl q)⟩
  refine codeAny_call_function hr.depth (KX _ _ lk) rfl S.co S.gen rfl (PySem.W.codeRec_of KX hcd) (hb _ _ _ _ ?_)
  refine wpAny_newFunctionEnv_cells S.kind hkind fun env he s1 x => ?_
  subst he
  refine ⟨lim.keeps x.toInCall.keep, codeAny_func ?_⟩
  obtain ⟨t, ht, hq⟩ := hbody A outer s H vs Q E (hr.deeper _) hsp
  have I : Inv (cxOf CX P w K mg base N qual scope f cdv A outer s H E) [] (start N vs) H s1 := inv_start S hr.hd e0 hl r x
  refine wpAny_mono (ht [] s1 (start N vs) H _ I hq) (fun fl s' hs => ?_) fun e s' hs => hs
  have fin : ∀ {σ' : St} {H' : Hp} {v : V} {u : Value}, Inv (cxOf CX P w K mg base N qual scope f cdv A outer s H E) [] σ' H' s' → RelV v u → Q v H' → CE outer P w H s Q u s' :=
    fun {σ' H' v u} J rv q => ⟨v, H', J.os, J.bare, J.base, J.hok, rv, q⟩
  cases fl with
  | ret u =>
    obtain ⟨v, σ', H', J, rv, q⟩ := hs
    exact fin J rv q
  | next =>
    obtain ⟨σ', H', J, q⟩ := hs
    exact fin (v := V.non) (u := Value.none) J rfl q
  | brk =>
    obtain ⟨_, _, _, q⟩ := hs
    exact False.elim q
  | cont =>
    obtain ⟨_, _, _, q⟩ := hs
    exact False.elim q
end L2
namespace L2
open PySem PySem.Spec PyProof.Rows
section
variable {X : Cx} {x : Str} {p pos : Pos} {e : Expr} {es : List Expr} {t : TA} {id T : String} {r : List V → Hp → VK → Prop}
def tCB (r : List V → Hp → VK → Prop) (t : TA) : TE := fun σ H Q => t σ H fun vs H1 => r vs H1 Q
theorem pe_callB (hc : CallR X (.builtin id) r) (hg : Gl X x) (hm : X.mg x = none) (hv : bootBuiltins x = some (.builtin id)) (ha : PA X (e :: es) t) (hn : x ≠ "__name__" := by decide) (hdb : (x == ("__debug__" : Str)) = false := by decide)
    (he : starEach (e :: es) X.env = (false, eval e X.env) :: starEach es X.env := by rfl) (hpl : (backTo pos (starEach es X.env)).any (·.1) = false := by rfl) : PE X (.Call (.Name x p) (e :: es) [] pos) (tCB r t) := by
  intro pins s σ H Q I h
  refine wpAny_Call_Name_kw (ld_blt I hg hm hv ?_ hn hdb)
  exact PyProof.Rows.callWith_builtin1 (thn (ha pos pins s σ H _ I h) fun us s1 ⟨vs, H1, I1, r1, q1⟩ => hc pins s1 σ H1 vs us Q I1 r1 q1) he hpl
theorem pe_callTy (hc : CallR X (.type T) r) (hg : Gl X x) (hm : X.mg x = none) (hv : bootBuiltins x = some (.type T)) (ha : PA X (e :: es) t) (hn : x ≠ "__name__" := by decide) (hdb : (x == ("__debug__" : Str)) = false := by decide)
    (he : starEach (e :: es) X.env = (false, eval e X.env) :: starEach es X.env := by rfl) (hpl : (backTo pos (starEach es X.env)).any (·.1) = false := by rfl) : PE X (.Call (.Name x p) (e :: es) [] pos) (tCB r t) := by
  intro pins s σ H Q I h
  refine wpAny_Call_Name_kw (ld_blt I hg hm hv ?_ hn hdb)
  exact PyProof.Rows.callWith_type1 (thn (ha pos pins s σ H _ I h) fun us s1 ⟨vs, H1, I1, r1, q1⟩ => hc pins s1 σ H1 vs us Q I1 r1 q1) he hpl
end
end L2
namespace HT
open PySem PyProof.Rows
def lexLt : List Int → List Int → Bool
  | [], [] => false
  | [], _ :: _ => true
  | _ :: _, [] => false
  | x :: xs, y :: ys => if x = y then lexLt xs ys else decide (x < y)
theorem lexLt_cons (x y : Int) (xs ys : List Int) : lexLt (x :: xs) (y :: ys) = if x = y then lexLt xs ys else decide (x < y) := rfl
theorem lexLt_nil_nil : lexLt [] [] = false := rfl
theorem lexLt_nil_cons (y : Int) (ys : List Int) : lexLt [] (y :: ys) = true := rfl
theorem lexLt_cons_nil (x : Int) (xs : List Int) : lexLt (x :: xs) [] = false := rfl
theorem eqAt_int (A : Around) (s : Shared) (a : Int) (t : Tok) (c : Int) (u : Tok) : ∃ e, SeqAt.EqAt A s (.int a t) (.int c u) e ∧ (e = true ↔ a = c) :=
  ⟨(a == c), SeqAt.EqAt.int_int a t c u, by simp⟩
theorem rcLt_int (A : Around) (s : Shared) (a : Int) (t : Tok) (c : Int) (u : Tok) (prog : Program) (w : World) (E : Value → Shared → Prop) (Q : Value → Shared → Prop) (h : Q (.bool (decide (a < c))) s) :
    wpAny (model prog w) A (richCompare .Lt (.int a t) (.int c u)) Q E s :=
  (PyProof.Rows.lt_int h : wpAny (model prog w) A (compareOp .Lt (.int a t) (.int c u)) Q E s)
section
open PySem.SeqAt
open PySem.AutoSeq1 (wpAny_loadPart')
open PySem.MeetsSeq PySem.MeetsSeq2 PySem.MeetsSeq3
theorem tuple_lt_ints (l b : Addr) (items items2 : Array Value) (n n2 : Nat) (dd dd2 : Option Addr) (sl sl2 : Array (Option Value)) (ns ms : List Int) (hi : IntsAre items.toList ns) (hj : IntsAre items2.toList ms) :
    Meets (Builtin.«tuple.__lt__» ⟨[.ref l, .ref b], []⟩)
      (fun _ R s => s.heap.get? l = some { cls := .type "tuple", dict := dd, data := .seq items n, slots := sl } ∧ s.heap.get? b = some { cls := .type "tuple", dict := dd2, data := .seq items2 n2, slots := sl2 } ∧
        R (.ok (.ret (.bool (lexLt ns ms)))) s) :=
  .of_wp fun prog w A R s h => by
    obtain ⟨hp, g, d, tk, os⟩ := s; obtain ⟨hl, hb, h⟩ := h
    have f2 := AutoSeq1.sub_tuple_tuple
    have z1 : items.size = ns.length := by rw [← hi.length]; simp
    have z2 : items2.size = ms.length := by rw [← hj.length]; simp
    wp_walk using wpAny_loadPart' hl, wpAny_loadPart' hb, wpAny_forIn_list _ (fun rest b s' => b.1 = none ∧ s' = ⟨hp, g, d, tk, os⟩ ∧ ∃ (vs ws : List Value) (ns' ms' : List Int), rest = vs.zip ws ∧
      IntsAre vs ns' ∧ IntsAre ws ms' ∧ ns'.length + items2.size = ms'.length + items.size ∧ R (.ok (.ret (.bool (lexLt ns' ms')))) ⟨hp, g, d, tk, os⟩) _
    case turn =>
      rintro ⟨y, x⟩ rest b s' ⟨hb', rfl, vs, ws, ns', ms', hz, hvi, hwi, hlen, hR⟩
      cases hvi with
      | nil => rw [List.zip_nil_left] at hz; cases hz
      | cons a t hvi' =>
        cases hwi with
        | nil => rw [List.zip_nil_right] at hz; cases hz
        | cons c u hwi' =>
          rw [List.zip_cons_cons] at hz
          injection hz with hyx hrest
          injection hyx with hy hx
          subst hy hx
          rw [lexLt_cons] at hR
          simp only [List.length_cons] at hlen
          obtain ⟨e, he, hiff⟩ := eqAt_int A.in1 ⟨hp, g, d, tk, os⟩ a t c u
          refine wpAny_bind (he prog w _ _ ?_)
          cases e with
          | true =>
            rw [if_pos (hiff.mp rfl)] at hR
            wp_walk
            exact ⟨rfl, rfl, _, _, _, _, hrest, hvi', hwi', by omega, hR⟩
          | false =>
            rw [if_neg (fun q => absurd (hiff.mpr q) Bool.false_ne_true)] at hR
            have hri := rcLt_int A.in1 ⟨hp, g, d, tk, os⟩ a t c u prog w
            wp_walk using hri
            exact ⟨_, rfl, by simpa using hR⟩
    case fin =>
      rintro ⟨b1, b2⟩ s' ⟨hb', rfl, vs, ws, ns', ms', hz, hvi, hwi, hlen, hR⟩
      simp only at hb'
      subst hb'
      have hv : lexLt ns' ms' = decide (items.size < items2.size) := by
        cases hvi with
        | nil =>
          cases hwi with
          | nil =>
            simp only [List.length_nil] at hlen
            rw [lexLt_nil_nil]
            exact (decide_eq_false (by omega)).symm
          | cons c u hw =>
            simp only [List.length_nil, List.length_cons] at hlen
            rw [lexLt_nil_cons]
            exact (decide_eq_true (by omega)).symm
        | cons a t hv =>
          cases hwi with
          | nil =>
            simp only [List.length_nil, List.length_cons] at hlen
            rw [lexLt_cons_nil]
            exact (decide_eq_false (by omega)).symm
          | cons c u hw =>
            rw [List.zip_cons_cons] at hz
            cases hz
      rw [hv] at hR
      wp_walk
      exact ⟨_, rfl, by simpa [Builtin.Tuple.tupleCompareSizes] using hR⟩
    case h =>
      exact ⟨rfl, rfl, items.toList, items2.toList, ns, ms, rfl, hi, hj, by omega, h⟩
end
section
variable {prog : Program} {w : World} {A : Around} {E : Value → Shared → Prop} {s : Shared}
theorem lt_tupInts {l b : Addr} {items items2 : Array Value} {ns ms : List Int} {Q : Value → Shared → Prop} (hl : IsTup s.heap l items) (hb : IsTup s.heap b items2) (hi : IntsAre items.toList ns) (hj : IntsAre items2.toList ms)
    (hu : A.units < cLine) (h : Q (.bool (lexLt ns ms)) s) : wpAny (model prog w) A (compareOp .Lt (.ref l) (.ref b)) Q E s := by
  obtain ⟨⟨cls, dd, data, sl⟩, ho, hc, n, hd⟩ := id hl
  obtain ⟨⟨cls2, dd2, data2, sl2⟩, ho2, hc2, n2, hd2⟩ := id hb
  simp only at hc hd hc2 hd2
  subst hc hd hc2 hd2
  exact richCompare_meets_room (op := .Lt) ⟨_, ho, rfl⟩ ⟨_, ho2, rfl⟩ PySem.F.slot_tuple_lt PySem.F.entry_tuple_lt (PySem.F.args_tuple_lt_2 _ _) (tuple_lt_ints l b items items2 n n2 dd dd2 sl sl2 ns ms hi hj)
    ⟨ho, ho2, show Value.bool (lexLt ns ms) ≠ Value.notImplemented ∧ Q (.bool (lexLt ns ms)) s from ⟨(fun x => nomatch x), h⟩⟩ hu
theorem cat_tup {t b : Addr} {vs ws : List Value} {Q : Value → Shared → Prop} (ht : IsTup s.heap t vs.toArray) (hb : IsTup s.heap b ws.toArray) (hv : vs ≠ [])
    (h1 : ws = [] → Q (.ref t) s) (h2 : ws ≠ [] → Q (.ref s.heap.objs.size) { s with heap := s.heap.push { cls := .type "tuple", data := .seq (vs ++ ws).toArray } })
    (hsz : vs.length + ws.length ≤ sizeLine) : wpAny (model prog w) A (binaryOp .Add (.ref t) (.ref b)) Q E s := by
  obtain ⟨⟨cls, dd, data, sl⟩, ho, hc, n, hd⟩ := id ht
  obtain ⟨⟨cls2, dd2, data2, sl2⟩, ho2, hc2, n2, hd2⟩ := id hb
  simp only at hc hd hc2 hd2
  subst hc hd hc2 hd2
  have e : vs.toArray ++ ws.toArray = (vs ++ ws).toArray := by simp
  by_cases hw : ws = []
  · exact concat_meets ⟨_, ho, rfl⟩ ⟨_, ho2, rfl⟩ noFill_tuple_add seq_tuple_add PySem.F.slot_tuple_add PySem.F.entry_tuple_add (PySem.F.args_tuple_add_2 _ _)
      (tuple_addW1 t b vs.toArray ws.toArray n n2 dd dd2 sl sl2 (by simpa using hv) (by simp [hw])) ⟨ho, ho2, h1 hw⟩
  · refine concat_meets ⟨_, ho, rfl⟩ ⟨_, ho2, rfl⟩ noFill_tuple_add seq_tuple_add PySem.F.slot_tuple_add PySem.F.entry_tuple_add (PySem.F.args_tuple_add_2 _ _)
      (tuple_addW2 t b vs.toArray ws.toArray n n2 dd dd2 sl sl2 (by simpa using hv) (by simpa using hw) (by rw [List.size_toArray, List.size_toArray]; exact hsz)) ⟨ho, ho2, ?_⟩
    rw [e]
    exact h2 hw
def sIx (n d : Nat) : Option Int → Nat
  | none => d
  | some v => if v < 0 then (v + (n : Int)).toNat else min v.toNat n
theorem sIx_none (n d : Nat) : sIx n d none = d := rfl
theorem sIx_nat (n d k : Nat) : sIx n d (some (k : Int)) = min k n := by
  show (if (k : Int) < 0 then ((k : Int) + (n : Int)).toNat else min (k : Int).toNat n) = min k n
  rw [if_neg (by omega), Int.toNat_natCast]
theorem sIx_le (n d : Nat) (hd : d ≤ n) (o : Option Int) : sIx n d o ≤ n := by
  cases o with
  | none => exact hd
  | some v =>
    show (if v < 0 then (v + (n : Int)).toNat else min v.toNat n) ≤ n
    by_cases hv : v < 0
    · rw [if_pos hv]; omega
    · rw [if_neg hv]; exact Nat.min_le_right _ _
theorem clip_eq (v : Int) (n d : Nat) : (if v < 0 then max (v + (n : Int)) 0 else min v (n : Int)) = ((sIx n d (some v) : Nat) : Int) := by
  show (if v < 0 then max (v + (n : Int)) 0 else min v (n : Int)) = (((if v < 0 then (v + (n : Int)).toNat else min v.toNat n) : Nat) : Int)
  by_cases hv : v < 0
  · simp only [if_pos hv]; omega
  · simp only [if_neg hv]; omega
theorem adjust_gen (lo hi : Option Int) (n : Nat) : Builtin.Slice.sliceAdjust lo hi 1 (n : Int) = (((sIx n 0 lo : Nat) : Int), ((sIx n n hi : Nat) : Int)) := by
  have h1 : ¬ ((1 : Int) < 0) := by omega
  unfold Builtin.Slice.sliceAdjust
  simp only [h1, if_false]
  refine Prod.ext ?_ ?_
  · cases lo with
    | none => rfl
    | some v => exact clip_eq v n 0
  · cases hi with
    | none => rfl
    | some v => exact clip_eq v n n
theorem places_gen (i j : Nat) : Builtin.Slice.slicePlaces (i : Int) (j : Int) 1 = j - i := by
  unfold Builtin.Slice.slicePlaces
  have h1 : (1 : Int) > 0 := by omega
  simp only [h1, if_true, Int.ediv_one]
  split <;> omega
theorem slicePart_ {v : Value} {o : Option Int} {Q : Option Int → Shared → Prop} (p : IsPart v o) (h : Q o s) : wpAny (model prog w) A (Builtin.Slice.slicePartIndex v) Q E s := by
  cases p with
  | none => exact slicePart_none h
  | int i t => exact slicePart_int h
theorem sliceApplied_gen {sl : Addr} {vl vu : Value} {lo hi : Option Int} {n : Nat} {Q : Int × Int × Nat → Shared → Prop} (hs : s.heap.IsSliceOf sl vl vu .none) (pl : IsPart vl lo) (pu : IsPart vu hi)
    (h : Q (((sIx n 0 lo : Nat) : Int), 1, sIx n n hi - sIx n 0 lo) s) : wpAny (model prog w) A (Builtin.Slice.sliceApplied (.ref sl) (pure (n : Int))) Q E s := by
  obtain ⟨os, hos, hcs, hds⟩ := id hs
  unfold Builtin.Slice.sliceApplied Builtin.Slice.sliceFields
  refine wpAny_bind (wpAny_bind (wpAny_field hos hds (x := vl) rfl (wpAny_bind (wpAny_field hos hds (x := vu) rfl (wpAny_bind (wpAny_field hos hds (x := .none) rfl (wpAny_pure ?_)))))))
  refine wpAny_bind (slicePart_none ?_)
  show wpAny _ _ (if ((1 : Int) == 0) = true then _ else _) _ _ s
  rw [if_neg (by decide)]
  refine wpAny_bind (slicePart_ pl (wpAny_bind (slicePart_ pu (wpAny_bind (wpAny_pure ?_)))))
  show wpAny _ _ (match Builtin.Slice.sliceAdjust lo hi 1 (n : Int) with | (lo, hi) => pure (lo, (1 : Int), Builtin.Slice.slicePlaces lo hi 1)) _ _ s
  rw [adjust_gen lo hi n]
  show wpAny _ _ (pure (((sIx n 0 lo : Nat) : Int), (1 : Int), Builtin.Slice.slicePlaces ((sIx n 0 lo : Nat) : Int) ((sIx n n hi : Nat) : Int) 1)) _ _ s
  rw [places_gen]
  exact wpAny_pure h
theorem pick_gen (xs : Array Value) (i k : Nat) : ((List.range k).filterMap fun (m : Nat) => xs[((i : Int) + (m : Int) * 1).toNat]?).toArray = ((xs.toList.drop i).take k).toArray := by
  have e : (fun (m : Nat) => xs[((i : Int) + (m : Int) * 1).toNat]?) = fun m => xs[i + m]? := by
    funext m
    have : ((i : Int) + (m : Int) * 1).toNat = i + m := by omega
    rw [this]
  rw [e]
  have := pick_run xs i k
  rw [List.filterMap_map] at this
  have e2 : ((fun x => xs[x]?) ∘ fun x => i + x) = fun m => xs[i + m]? := rfl
  rw [e2] at this
  rw [this]
theorem getItem_tuple_cut {t sl : Addr} {items : Array Value} {vl vu : Value} {lo hi : Option Int} {Q : Value → Shared → Prop} (ht : IsTup s.heap t items) (hs : s.heap.IsSliceOf sl vl vu .none) (pl : IsPart vl lo) (pu : IsPart vu hi)
    (hw : ¬ (sIx items.size 0 lo = 0 ∧ sIx items.size items.size hi = items.size))
    (h : Q (.ref s.heap.objs.size) { s with heap := s.heap.push { cls := .type "tuple", data := .seq ((items.toList.drop (sIx items.size 0 lo)).take (sIx items.size items.size hi - sIx items.size 0 lo)).toArray } })
    (hsz : items.size ≤ sizeLine) : wpAny (model prog w) A (getItem (.ref t) (.ref sl)) Q E s := by
  have htake : sizeOk (.seq ((items.toList.drop (sIx items.size 0 lo)).take (sIx items.size items.size hi - sIx items.size 0 lo)).toArray) := by
    show ((items.toList.drop (sIx items.size 0 lo)).take (sIx items.size items.size hi - sIx items.size 0 lo)).toArray.size ≤ sizeLine
    rw [List.size_toArray, List.length_take, List.length_drop, Array.length_toList]
    omega
  have hj : sIx items.size items.size hi ≤ items.size := sIx_le _ _ (Nat.le_refl _) hi
  obtain ⟨os, hos, hcs, hds⟩ := id hs
  have hTs : s.TypeIs (.ref sl) "slice" := ⟨os, hos, hcs⟩
  unfold getItem
  try with_reducible refine wpAny_holding ?_
  first | refine wpAny_bind (wpAny_pure ?_) | skip
  refine wpAny_bind (wpAny_sequenceKey ht.typeIs (by decide) ?_)
  refine wpAny_bind (wpAny_callSpecial?_slot (name := Str.ofString "__getitem__") ht.typeIs PyProof.Rows.slot_tuple_getitem
    (wpAny_call_entry PyProof.Rows.slot_tuple_getitem ht.typeIs entry_tuple_getitem ?_ (args_tuple_getitem _ _)))
  show wpAny _ _ (Builtin.Tuple.tupleItemsOf (.ref t) >>= _) _ _ s
  refine wpAny_bind (tupleItemsOf_ ht ?_)
  refine wpAny_bind (wpAny_typeOf hTs ?_)
  rw [if_pos (by decide)]
  refine wpAny_bind (sliceApplied_gen hs pl pu ?_)
  have hno : ¬ ((((sIx items.size 0 lo : Nat) : Int) == 0 && (1 : Int) == 1 && (sIx items.size items.size hi - sIx items.size 0 lo) == items.size) = true) := by
    intro q
    rw [Bool.and_eq_true, Bool.and_eq_true] at q
    have q1 : ((sIx items.size 0 lo : Nat) : Int) = 0 := eq_of_beq q.1.1
    have q2 : sIx items.size items.size hi - sIx items.size 0 lo = items.size := eq_of_beq q.2
    exact hw ⟨by omega, by omega⟩
  show wpAny _ _ (if (((sIx items.size 0 lo : Nat) : Int) == 0 && (1 : Int) == 1 && (sIx items.size items.size hi - sIx items.size 0 lo) == items.size) = true then _ else _) _ _ s
  rw [if_neg hno, pick_gen]
  first
    | exact wpAny_bind (m := Builtin.Tuple.tupleExact _) (wpAny_newObj_type (wpAny_pure ⟨_, rfl, wpAny_pure h⟩) htake)
    | exact wpAny_bind (m := Builtin.Tuple.tupleExact _) (wpAny_newObj_type (wpAny_bind (wpAny_pure (wpAny_pure ⟨_, rfl, wpAny_pure h⟩))) htake)
    | exact wpAny_bind (wpAny_bind (m := Builtin.Tuple.tupleExact _) (wpAny_newObj_type (wpAny_pure (wpAny_pure ⟨_, rfl, wpAny_pure h⟩)) htake))
    | exact wpAny_bind (wpAny_bind (m := Builtin.Tuple.tupleExact _) (wpAny_newObj_type (wpAny_pure ⟨_, rfl, wpAny_pure h⟩) htake))
end
end HT
namespace L2
open PySem PySem.Spec PyProof.Rows
abbrev TO := St → Hp → (Option Int → Hp → Prop) → Prop
def PO (X : Cx) (e : Option Expr) (t : TO) : Prop :=
  ∀ (pins : List (Addr × Obj)) (s : Shared) (σ : St) (H : Hp) (Q : Option Int → Hp → Prop), Inv X pins σ H s → t σ H Q →
    wpAny (model X.prog X.w) X.A (evalPart e X.env) (fun u s' => ∃ o H', Inv X pins σ H' s' ∧ IsPart u o ∧ Q o H') X.xe s
def tNoPart : TO := fun _ H Q => Q none H
def tPart (t : TE) : TO := fun σ H Q => t σ H fun x H1 => ∃ i, x = .int i ∧ Q (some i) H1
theorem intsAre_of {ns : List Int} : ∀ {us : List Value}, Vals (ns.map V.int) us → IntsAre us ns := by
  induction ns with
  | nil => intro us r; rw [List.map_nil] at r; cases r; exact .nil
  | cons n ns ih =>
    intro us r
    rw [List.map_cons] at r
    cases r with
    | cons r1 r2 =>
      obtain ⟨t, e⟩ := r1
      subst e
      exact .cons n t (ih r2)
section
variable {X : Cx} {e : Expr} {te : TE} {lo hi : Option Expr} {tl th : TO} {pos p2 : Pos}
theorem po_none : PO X none tNoPart := by
  intro pins s σ H Q I h
  rw [evalPart_none]
  exact wpAny_pure ⟨none, H, I, .none, h⟩
theorem po_some (h : PE X e te) : PO X (some e) (tPart te) := by
  intro pins s σ H Q I hw
  rw [evalPart_some]
  refine thn (h pins s σ H _ I hw) fun u s1 ⟨x, H1, I1, r1, q1⟩ => ?_
  obtain ⟨i, rfl, q⟩ := q1
  obtain ⟨t, rfl⟩ := r1
  exact ⟨some i, H1, I1, .int i t, q⟩
def SlR (X : Cx) (r : V → Option Int → Option Int → Hp → VK → Prop) : Prop :=
  ∀ (pins : List (Addr × Obj)) (s : Shared) (σ : St) (H : Hp) (x : V) (v vl vu : Value) (lo hi : Option Int) (sl : Addr) (Q : VK), Inv X pins σ H s → RelV x v → s.heap.IsSliceOf sl vl vu .none → IsPart vl lo → IsPart vu hi → r x lo hi H Q →
    ∃ T id, typeLookup (.type T) "__getitem__" = pure (some (.builtin id)) ∧ s.TypeIs v T ∧ wpAny (model X.prog X.w) X.A (getItem v (.ref sl)) (EP X pins σ Q) X.xe s
def tSl (r : V → Option Int → Option Int → Hp → VK → Prop) (te : TE) (tl th : TO) : TE := fun σ H Q => te σ H fun x H1 => tl σ H1 fun l H2 => th σ H2 fun u H3 => r x l u H3 Q
theorem pe_slice {r : V → Option Int → Option Int → Hp → VK → Prop} (hr : SlR X r) (he : PE X e te) (hl : PO X lo tl) (hu : PO X hi th) : PE X (.Subscript e (.Slice lo hi none p2) pos) (tSl r te tl th) := by
  intro pins s σ H Q I h
  refine Subscript_ (thn (he pins s σ H _ I h) fun v s1 ⟨x, H1, I1, r1, q1⟩ => ?_)
  refine wpAny_Slice (thn (hl pins s1 σ H1 _ I1 q1) fun vl s2 ⟨l, H2, I2, pl, q2⟩ => thn (hu pins s2 σ H2 _ I2 q2) fun vu s3 ⟨u, H3, I3, pu, q3⟩ => ?_)
  rw [evalPart_none]
  refine wpAny_pure ?_
  have I4 : Inv X pins σ H3 { s3 with heap := s3.heap.push { cls := .type "slice", data := .fields #[vl, vu, .none] } } := I3.kept (t' := s3.toks) fun b ob q => Heap.get?_push_of_some _ q
  obtain ⟨T, id, hT, ht, hg⟩ := hr pins { s3 with heap := s3.heap.push { cls := .type "slice", data := .fields #[vl, vu, .none] } } σ H3 x v vl vu l u s3.heap.objs.size Q I4 r1 (Heap.IsSliceOf.new ..) pl pu q3
  show wpAny (model X.prog X.w) X.A (subscriptTail e (.Slice lo hi none p2) v (.ref s3.heap.objs.size)) (EP X pins σ Q) X.xe { s3 with heap := s3.heap.push { cls := .type "slice", data := .fields #[vl, vu, .none] } }
  exact tail_any (ops := [.ref s3.heap.objs.size, v]) ht hT hg (by with_unfolding_all rfl)
def cutV (xs : List V) (lo hi : Option Int) : List V := (xs.drop (HT.sIx xs.length 0 lo)).take (HT.sIx xs.length xs.length hi - HT.sIx xs.length 0 lo)
theorem cutV_length (xs : List V) (lo hi : Option Int) : (cutV xs lo hi).length ≤ xs.length := by
  unfold cutV
  rw [List.length_take, List.length_drop]
  omega
def rSlT (K : PySem.W.Frag) : V → Option Int → Option Int → Hp → VK → Prop := fun x lo hi H Q => ∃ a xs, x = .ref a ∧ SqT K H a xs ∧
  ¬ (HT.sIx xs.length 0 lo = 0 ∧ HT.sIx xs.length xs.length hi = xs.length) ∧ ∀ p, H p = none → Q (.ref p) (upd H p (.tup (cutV xs lo hi)))
theorem sl_tup : SlR X (rSlT X.K) := by
  intro pins s σ H x v vl vu lo hi sl Q I rx hs pl pu h
  obtain ⟨a, xs, rfl, hx, hw, q⟩ := h
  cases rx
  obtain ⟨its, r, ht, hz⟩ := I.tuple hx
  have hlen : its.toArray.size = xs.length := by rw [List.size_toArray]; exact r.length.symm
  refine ⟨"tuple", _, PyProof.Rows.slot_tuple_getitem.lookup, ht.typeIs, ?_⟩
  refine HT.getItem_tuple_cut ht hs pl pu (by rw [hlen]; exact hw) ?_ (by rw [hlen]; exact hz)
  rw [hlen]
  refine ⟨.ref s.heap.objs.size, _, I.laid (t' := s.toks) (o := .tup (cutV xs lo hi)) (fun b ob q => Heap.get?_push_of_some _ q) (Nat.le_refl _) ?_, rfl, q _ (I.hok.fresh (Nat.le_refl _))⟩
  exact ⟨Nat.le_trans (cutV_length xs lo hi) hz, _, (r.drop (HT.sIx xs.length 0 lo)).take (HT.sIx xs.length xs.length hi - HT.sIx xs.length 0 lo), IsTup.new _ _⟩
def rCatT (K : PySem.W.Frag) : R2 := fun x y H Q => ∃ a b xs ys, x = .ref a ∧ y = .ref b ∧ SqT K H a xs ∧ SqT K H b ys ∧ xs ≠ [] ∧ xs.length + ys.length ≤ sizeLine ∧
  (ys = [] → Q (.ref a) H) ∧ (ys ≠ [] → ∀ p, H p = none → Q (.ref p) (upd H p (.tup (xs ++ ys))))
theorem Vals.nil_iff {xs : List V} {us : List Value} (r : Vals xs us) : us = [] ↔ xs = [] := by
  cases r with
  | nil => simp
  | cons _ _ => simp
theorem op_catT : OpR X (binaryOp .Add) (rCatT X.K) := by
  intro pins s σ H x y v u Q I rx ry h
  obtain ⟨a, b, xs, ys, rfl, rfl, ha, hb, hx, hz, q1, q2⟩ := h
  cases rx
  cases ry
  obtain ⟨its, r1, p1, _⟩ := I.tuple ha
  obtain ⟨its2, r2, p2, _⟩ := I.tuple hb
  refine HT.cat_tup p1 p2 (fun z => hx (r1.nil_iff.mp z)) (fun z => ⟨.ref a, H, I, rfl, q1 (r2.nil_iff.mp z)⟩) (fun z => ?_) (by rw [← r1.length, ← r2.length]; exact hz)
  refine ⟨.ref s.heap.objs.size, _, I.laid (t' := s.toks) (o := .tup (xs ++ ys)) (fun b ob q => Heap.get?_push_of_some _ q) (Nat.le_refl _) ?_, rfl, q2 (fun w => z (r2.nil_iff.mpr w)) _ (I.hok.fresh (Nat.le_refl _))⟩
  exact ⟨by rw [List.length_append]; exact hz, _, r1.append r2, IsTup.new _ _⟩
end
end L2
namespace L2
open PySem PySem.Spec PyProof.Rows
def ixN (n : Nat) (i : Int) : Option Nat := if 0 ≤ i then (if i < n then some i.toNat else none) else if -(n : Int) ≤ i then some (i + n).toNat else none
def atI {α : Type} (xs : List α) (i : Int) : Option α := (ixN xs.length i).bind fun j => xs[j]?
theorem ixN_seq {n : Nat} {i : Int} {j : Nat} (h : ixN n i = some j) : seqIndex? i n = some j ∧ j < n ∧ -(n : Int) ≤ i ∧ i < n := by
  unfold ixN at h
  by_cases h0 : 0 ≤ i
  · rw [if_pos h0] at h
    by_cases h1 : i < n
    · rw [if_pos h1] at h
      have e : i.toNat = j := Option.some.inj h
      exact ⟨by rw [seqIndex_of h0 h1, e], by omega, by omega, h1⟩
    · rw [if_neg h1] at h; cases h
  · rw [if_neg h0] at h
    by_cases h1 : -(n : Int) ≤ i
    · rw [if_pos h1] at h
      have e : (i + n).toNat = j := Option.some.inj h
      exact ⟨by rw [seqIndex_neg (by omega) h1, e], by omega, h1, by omega⟩
    · rw [if_neg h1] at h; cases h
theorem atI_get {α : Type} {xs : List α} {i : Int} {v : α} (h : atI xs i = some v) : ∃ j, seqIndex? i xs.length = some j ∧ xs[j]? = some v ∧ j < xs.length ∧ -(xs.length : Int) ≤ i ∧ i < xs.length := by
  unfold atI at h
  cases e : ixN xs.length i with
  | none => rw [e] at h; cases h
  | some j =>
    rw [e] at h
    obtain ⟨h1, h2, h3, h4⟩ := ixN_seq e
    exact ⟨j, h1, h, h2, h3, h4⟩
theorem atI_nat {α : Type} {xs : List α} {j : Nat} {v : α} (h : xs[j]? = some v) : atI xs (j : Int) = some v := by
  have hj : j < xs.length := (List.getElem?_eq_some_iff.mp h).1
  have e : ixN xs.length (j : Int) = some j := by
    unfold ixN
    rw [if_pos (by omega), if_pos (by omega)]; simp
  unfold atI; rw [e]; exact h
def PlainIx (b : Expr) : Prop := ∀ o i, subscripted b false o i = operate [o, i] (getItem o i)
def IxR (X : Cx) (r : R2) : Prop :=
  ∀ (value slice : Expr) (pins : List (Addr × Obj)) (s : Shared) (σ : St) (H : Hp) (x y : V) (v u : Value) (Q : VK), Inv X pins σ H s → RelV x v → RelV y u → r x y H Q →
    subscripted slice false v u = operate [v, u] (getItem v u) → wpAny (model X.prog X.w) X.A (subscriptTail value slice v u) (EP X pins σ Q) X.xe s
def MtR (X : Cx) (id : String) (r : V → List V → Hp → VK → Prop) : Prop :=
  ∀ (pins : List (Addr × Obj)) (s : Shared) (σ : St) (H : Hp) (x : V) (xs : List V) (v : Value) (us : List Value) (Q : VK), Inv X pins σ H s → RelV x v → Vals xs us → r x xs H Q →
    wpAny (model X.prog X.w) X.A (call (.builtin id) (v :: us)) (EP X pins σ Q) X.xe s
section
variable {X : Cx} {a b : Expr} {ta tb : TE} {pos : Pos}
theorem pe_ix {r : R2} (hr : IxR X r) (ha : PE X a ta) (hb : PE X b tb) (hs : PlainIx b) : PE X (.Subscript a b pos) (tOp r ta tb) := by
  intro pins s σ H Q I h
  exact Subscript_ (binT ha hb I h fun v u s2 x y H2 I2 rx ry q => hr a b pins s2 σ H2 x y v u Q I2 rx ry q (hs _ _))
def rIxL (K : PySem.W.Frag) : R2 := fun x y H Q => ∃ p xs i v, x = .ref p ∧ y = .int i ∧ SqL K H p xs ∧ atI xs i = some v ∧ Q v H
def rIxT (K : PySem.W.Frag) : R2 := fun x y H Q => ∃ p xs i v, x = .ref p ∧ y = .int i ∧ SqT K H p xs ∧ atI xs i = some v ∧ Q v H
theorem ix_list : IxR X (rIxL X.K) := by
  intro value slice pins s σ H x y v u Q I rx ry h hs
  obtain ⟨p, xs, i, z, rfl, rfl, hq, he, q⟩ := h
  cases rx
  obtain ⟨t, rfl⟩ := ry
  obtain ⟨its, r, pl, hz⟩ := I.list hq
  obtain ⟨j, h1, h2, h3, h4, h5⟩ := atI_get he
  obtain ⟨w, ew, rw'⟩ := r.get h2
  have hl := r.length
  have hn := line63
  have fin : EP X pins σ Q w s := ⟨z, H, I, rw', q⟩
  by_cases h0 : 0 ≤ i
  · have hj : i.toNat = j := by
      rw [seqIndex_of h0 h5] at h1
      exact Option.some.inj h1
    exact item_listR pl.isList h0 (by omega) (by rw [hj]; simpa using ew) fin hs
  · have hj : (i + (its.toArray.size : Int)).toNat = j := by
      rw [seqIndex_neg (by omega) h4] at h1
      rw [List.size_toArray, ← hl]
      exact Option.some.inj h1
    exact subscriptTail_builtinR (x := w) pl.isList.typeIs slot_list_getitem.lookup
      (wpAny_getItem_list_neg (Q := fun r s' => r = w ∧ EP X pins σ Q r s') pl.isList (by omega) (by rw [List.size_toArray] <;> omega) (by omega) (by rw [hj]; simpa using ew) ⟨rfl, fin⟩) hs
theorem ix_tup : IxR X (rIxT X.K) := by
  intro value slice pins s σ H x y v u Q I rx ry h hs
  obtain ⟨p, xs, i, z, rfl, rfl, hq, he, q⟩ := h
  cases rx
  obtain ⟨t, rfl⟩ := ry
  obtain ⟨its, r, pl, hz⟩ := I.tuple hq
  obtain ⟨j, h1, h2, h3, h4, h5⟩ := atI_get he
  obtain ⟨w, ew, rw'⟩ := r.get h2
  have hl := r.length
  have hn := line63
  have fin : EP X pins σ Q w s := ⟨z, H, I, rw', q⟩
  exact subscriptTail_builtinR (x := w) pl.typeIs slot_tuple_getitem.lookup
    (getItem_tuple (j := j) (Q := fun r s' => r = w ∧ EP X pins σ Q r s') pl (by omega) (by omega) (by rw [List.size_toArray, ← hl]; exact h1) (by simpa using ew) ⟨rfl, fin⟩) hs
theorem mapSeq_set (its : List Value) (n j : Nat) (u : Value) : Obj.mapSeq (·.setIfInBounds j u) { cls := .type "list", data := .seq its.toArray n } = { cls := .type "list", data := .seq (its.set j u).toArray n } := by
  simp [Obj.mapSeq]
theorem Inv.lst {pins : List (Addr × Obj)} {σ : St} {H : Hp} {s : Shared} {p : Addr} {xs : List V} (I : Inv X pins σ H s) (h : H p = some (.lst xs)) :
    ∃ (its : List Value) (n : Nat), Vals xs its ∧ s.heap.get? p = some { cls := .type "list", data := .seq its.toArray n } ∧ xs.length ≤ sizeLine := by
  obtain ⟨z, its, n, r, e⟩ := I.hok p _ h
  exact ⟨its, n, r, e, z⟩
theorem Inv.lstUpd {pins : List (Addr × Obj)} {σ : St} {H : Hp} {s : Shared} {p : Addr} {xs ys : List V} {its its' : List Value} {n n' : Nat} {f : Obj → Obj} (I : Inv X pins σ H s) (h : H p = some (.lst xs))
    (ho : s.heap.get? p = some { cls := .type "list", data := .seq its.toArray n }) (hf : f { cls := .type "list", data := .seq its.toArray n } = { cls := .type "list", data := .seq its'.toArray n' }) (r : Vals ys its') (hz : ys.length ≤ sizeLine) (t : Nat) :
    Inv X pins σ (upd H p (.lst ys)) { s with heap := s.heap.update p f, toks := t } := by
  have e : (s.heap.update p f).get? p = some { cls := .type "list", data := .seq its'.toArray n' } := by
    rw [Heap.get?_update_self f ho (by rw [hf] <;> rfl), hf]
  refine I.write (x := p) (e := p) (by rw [h]; trivial) (.inl rfl) (fun b u hb q => (Heap.get?_update_other _ _ (Ne.symm hb)).trans q) ⟨_, e⟩ ?_
  exact ⟨hz, its', n', r, e⟩
def rSetL : V → V → V → Hp → (Hp → Prop) → Prop := fun o i v H Q => ∃ p xs k j, o = .ref p ∧ i = .int k ∧ H p = some (.lst xs) ∧ ixN xs.length k = some j ∧ Q (upd H p (.lst (xs.set j v)))
theorem set_list : PSet X rSetL := by
  intro pins s σ H o i v ov iv u Q I ro ri rv h
  obtain ⟨p, xs, k, j, rfl, rfl, hp, hj, q⟩ := h
  cases ro
  obtain ⟨t, rfl⟩ := ri
  obtain ⟨its, n, r, ho, hz⟩ := I.lst hp
  obtain ⟨h1, h2, h3, h4⟩ := ixN_seq hj
  have hl := r.length
  have hn := line63
  have I' : Inv X pins σ (upd H p (.lst (xs.set j v))) { s with heap := s.heap.update p (Obj.mapSeq (·.setIfInBounds j u)) } :=
    I.lstUpd hp ho (mapSeq_set its n j u) (r.set rv j) (by rw [List.length_set]; exact hz) s.toks
  by_cases h0 : 0 ≤ k
  · have hk : k.toNat = j := by
      rw [seqIndex_of h0 h4] at h1
      exact Option.some.inj h1
    exact PySem.W.ki_setAt ho h0 (by omega) (by rw [List.size_toArray, ← hl]; exact h4) (by rw [hk]; exact ⟨_, I', q⟩)
  · have hk : (k + (its.toArray.size : Int)).toNat = j := by
      rw [seqIndex_neg (by omega) h3] at h1
      rw [List.size_toArray, ← hl]
      exact Option.some.inj h1
    exact PySem.W.ki_setBack ho (by omega) (by rw [List.size_toArray, ← hl]; exact h3) (by omega) (by rw [hk]; exact ⟨_, I', q⟩)
theorem slice_bounds (lo hi : Option Int) (n : Nat) : (sliceBounds lo hi none n).1 = ((HT.sIx n 0 lo : Nat) : Int) ∧ (sliceBounds lo hi none n).2.1 = ((HT.sIx n n hi : Nat) : Int) ∧ (sliceBounds lo hi none n).2.2 = 1 := by
  refine ⟨?_, ?_, rfl⟩
  · cases lo with
    | none => simp [sliceBounds, HT.sIx]
    | some i =>
      simp only [sliceBounds, HT.sIx, Option.getD_none, show (1 : Int) > 0 by decide, if_true]
      by_cases h : i < 0
      · simp only [h, if_true] <;> omega
      · simp only [h, if_false] <;> omega
  · cases hi with
    | none => simp [sliceBounds, HT.sIx]
    | some i =>
      simp only [sliceBounds, HT.sIx, Option.getD_none, show (1 : Int) > 0 by decide, if_true]
      by_cases h : i < 0
      · simp only [h, if_true] <;> omega
      · simp only [h, if_false] <;> omega
theorem slicePick_cut (its : List Value) (lo hi : Option Int) : slicePick its.toArray lo hi none = ((its.drop (HT.sIx its.length 0 lo)).take (HT.sIx its.length its.length hi - HT.sIx its.length 0 lo)).toArray := by
  obtain ⟨h1, h2, h3⟩ := slice_bounds lo hi its.toArray.size
  unfold slicePick
  rw [h1, h2, h3]
  simp only [sliceRange_one, pick_run, List.size_toArray] <;> rfl
def rSlL (K : PySem.W.Frag) : V → Option Int → Option Int → Hp → VK → Prop := fun x lo hi H Q => ∃ a xs, x = .ref a ∧ SqL K H a xs ∧ ∀ p, H p = none → Q (.ref p) (upd H p (.lst (cutV xs lo hi)))
theorem sl_list : SlR X (rSlL X.K) := by
  intro pins s σ H x v vl vu lo hi sl Q I rx hs pl pu h
  obtain ⟨a, xs, rfl, hx, q⟩ := h
  cases rx
  obtain ⟨its, r, ht, hz⟩ := I.list hx
  have hlen := r.length
  refine ⟨"list", _, slot_list_getitem.lookup, ht.isList.typeIs, ?_⟩
  refine wpAny_getItem_list_slice ht.isList hs pl pu .none (by simp) ?_ (by rw [List.size_toArray] <;> omega)
  rw [slicePick_cut, ← hlen]
  refine ⟨.ref s.heap.objs.size, _, I.laid (t' := s.toks) (o := .lst (cutV xs lo hi)) (fun b ob q => Heap.get?_push_of_some _ q) (Nat.le_refl _) ?_, rfl, q _ (I.hok.fresh (Nat.le_refl _))⟩
  exact ⟨Nat.le_trans (cutV_length xs lo hi) hz, _, 0, (r.drop (HT.sIx xs.length 0 lo)).take (HT.sIx xs.length xs.length hi - HT.sIx xs.length 0 lo), Heap.get?_push_size _ rfl⟩
theorem call_list_of : CallR X (.type "list") (fun xs H Q => ∃ p ys, xs = [.ref p] ∧ (SqL X.K H p ys ∨ SqT X.K H p ys) ∧ ∀ l, H l = none → Q (.ref l) (upd H l (.lst ys))) := by
  intro pins s σ H xs us Q I r h
  obtain ⟨p, ys, rfl, hq, q⟩ := h
  obtain ⟨u, rfl, rx⟩ := vals1 r
  cases rx
  have fin : ∀ (its : List Value), Vals ys its → ys.length ≤ sizeLine → ∀ (h' : Heap) (c' : Nat), (∀ b o', s.heap.get? b = some o' → h'.get? b = some o') →
      h'.get? s.heap.objs.size = some { cls := .type "list", dict := none, data := .seq its.toArray c', slots := #[] } → EP X pins σ Q (.ref s.heap.objs.size) { s with heap := h' } := fun its r' hz h' c' kp e =>
    ⟨.ref s.heap.objs.size, _, I.laid (t' := s.toks) kp (Nat.le_refl _) (show ObjOk X.prog X.w _ h' _ (.lst ys) from ⟨hz, its, c', r', e⟩), rfl, q _ (I.hok.fresh (Nat.le_refl _))⟩
  rcases hq with hq | hq
  · obtain ⟨its, r', pl, hz⟩ := I.list hq
    have hlen := r'.length
    obtain ⟨o, ho, hc, n, hd⟩ := pl.isList
    exact call_list_seq p (.inl rfl) ho hc hd (fun h' c' kp e => fin its r' hz h' c' kp e) (by simp only [List.size_toArray] <;> omega)
  · obtain ⟨its, r', pl, hz⟩ := I.tuple hq
    have hlen := r'.length
    obtain ⟨o, ho, hc, n, hd⟩ := pl
    exact call_list_seq p (.inr rfl) ho hc hd (fun h' c' kp e => fin its r' hz h' c' kp e) (by simp only [List.size_toArray] <;> omega)
def tyV (K : PySem.W.Frag) (T : String) (x : V) (H : Hp) : Prop := match x with
  | .str _ => T = "str"
  | .int _ => T = "int"
  | .ref p => (T = "list" ∧ ∃ xs, SqL K H p xs) ∨ (T = "tuple" ∧ ∃ o, K.lookup p = some o ∧ o.cls = .type "tuple" ∧ o.dict = none) ∨
      (T = "dict" ∧ ((∃ kvs, H p = some (.dK kvs)) ∨ ∃ kvs, H p = some (.dT kvs))) ∨ (T = "set" ∧ ∃ S n, H p = some (.set S n))
  | _ => False
theorem tyV_is {pins : List (Addr × Obj)} {σ : St} {H : Hp} {s : Shared} {T : String} {x : V} {v : Value} (I : Inv X pins σ H s) (r : RelV x v) (ty : tyV X.K T x H) :
    s.TypeIs v T ∧ ∀ a, v = .ref a → ∃ ob, s.heap.get? a = some ob ∧ ob.dict = none := by
  cases x with
  | str z =>
    obtain ⟨t, rfl⟩ := r
    cases (show T = "str" from ty)
    exact ⟨typeIs_str s z t, fun _ e => nomatch e⟩
  | int i =>
    obtain ⟨t, rfl⟩ := r
    cases (show T = "int" from ty)
    exact ⟨typeIs_int s i t, fun _ e => nomatch e⟩
  | ref p =>
    cases r
    rcases ty with ⟨rfl, xs, hq⟩ | ⟨rfl, o, hk, hc, hd⟩ | ⟨rfl, hk⟩ | ⟨rfl, S, n, hk⟩
    · obtain ⟨its, _, pl, _⟩ := I.list hq
      refine ⟨pl.isList.typeIs, fun a e => ?_⟩
      cases e
      obtain ⟨o, n, e, c, hd, _⟩ := pl
      exact ⟨o, e, hd⟩
    · refine ⟨⟨o, I.kIn p o hk, hc⟩, fun a e => ?_⟩
      cases e
      exact ⟨o, I.kIn _ o hk, hd⟩
    · have z : ∃ o, s.heap.get? p = some o ∧ o.ExactDict := by
        rcases hk with ⟨kvs, hk⟩ | ⟨kvs, hk⟩
        · obtain ⟨_, _, _, _, o, _, _, e, ex, _⟩ := I.hok p _ hk
          exact ⟨o, e, ex⟩
        · obtain ⟨_, _, _, _, o, _, _, e, ex, _⟩ := I.hok p _ hk
          exact ⟨o, e, ex⟩
      obtain ⟨o, e, ex⟩ := z
      refine ⟨⟨o, e, ex.1⟩, fun a e2 => ?_⟩
      cases e2
      exact ⟨o, e, ex.2.1⟩
    · obtain ⟨o, _, _, _, e, ex, _⟩ := I.hok p _ hk
      refine ⟨⟨o, e, ex.1⟩, fun a e2 => ?_⟩
      cases e2
      exact ⟨o, e, ex.2.1⟩
  | _ => exact False.elim ty
def tBM0 (K : PySem.W.Frag) (T : String) (r : V → List V → Hp → VK → Prop) (to : TE) : TE := fun σ H Q => to σ H fun x H1 => tyV K T x H1 ∧ r x [] H1 Q
def tBM (K : PySem.W.Frag) (T : String) (r : V → List V → Hp → VK → Prop) (to : TE) (t : TA) : TE := fun σ H Q => to σ H fun x H1 => tyV K T x H1 ∧ t σ H1 fun xs H2 => r x xs H2 Q
variable {o e : Expr} {es : List Expr} {to : TE} {t : TA} {name : Str} {apos cpos : Pos} {T id : String} {r : V → List V → Hp → VK → Prop}
theorem pe_bm0 (pa : PlainAttrs T) (slot : Slot T name id) (hty : typeOf (.builtin id) = pure (.type "method_descriptor")) (hm : MtR X id r) (ho : PE X o to)
    (hbase : attributeBase o name X.env (eval o X.env) = eval o X.env := by rfl) (hline : (apos.endLine == cpos.line) = true := by rfl) : PE X (.Call (.Attribute o name apos) [] [] cpos) (tBM0 X.K T r to) := by
  intro pins s σ H Q I h
  refine wpAny_Call_method0_late hbase hline (thn (ho pins s σ H _ I h) fun v s1 ⟨x, H1, I1, r1, ty, q1⟩ => ?_)
  obtain ⟨h1, h2⟩ := tyV_is I1 r1 ty
  exact ⟨T, id, pa, slot, hty, h1, h2, Calls.callWith_builtin rfl (PySem.evalArgs_none (hm pins s1 σ H1 x [] v [] Q I1 r1 .nil q1))⟩
theorem pe_bm (pa : PlainAttrs T) (slot : Slot T name id) (hty : typeOf (.builtin id) = pure (.type "method_descriptor")) (hm : MtR X id r) (ho : PE X o to) (ha : PA X (e :: es) t)
    (hbase : attributeBase o name X.env (eval o X.env) = eval o X.env := by rfl)
    (hfew : ((backTo cpos (starEach (e :: es) X.env)).all (fun x => !x.1) && (backToKw cpos (keywordEach [] X.env)).all (fun x => x.1.isSome)
      && decide ((e :: es).length + ([] : List Keyword).length + (if ([] : List Keyword).isEmpty then 0 else 1) < 30)) = true := by rfl)
    (hline : (apos.endLine == cpos.line) = true := by rfl) (hs : starEach (e :: es) X.env = (false, eval e X.env) :: starEach es X.env := by rfl) (hplain : (backTo cpos (starEach es X.env)).any (·.1) = false := by rfl) :
    PE X (.Call (.Attribute o name apos) (e :: es) [] cpos) (tBM X.K T r to t) := by
  intro pins s σ H Q I h
  refine wpAny_Call_method_late hbase hfew hline rfl (thn (ho pins s σ H _ I h) fun v s1 ⟨x, H1, I1, r1, ty, q1⟩ => ?_)
  obtain ⟨h1, h2⟩ := tyV_is I1 r1 ty
  refine ⟨T, id, pa, slot, hty, h1, h2, ?_⟩
  have hA := ha cpos pins s1 σ H1 _ I1 q1
  rw [hs] at hA ⊢
  refine Calls.callWith_builtin (by show (false || (backTo cpos (starEach es X.env)).any (·.1)) = false; rw [hplain] <;> rfl) (Calls.evalArgs_plain ?_)
  exact thn hA fun us s2 ⟨vs, H2, I2, r2, q2⟩ => hm pins s2 σ H2 x vs v us Q I2 r1 r2 q2
end
end L2
namespace L2
open PySem PySem.Spec PyProof.Rows
def MtM (X : Cx) (id : String) (r : V → List V → Hp → VK → Prop) : Prop :=
  ∀ (pins : List (Addr × Obj)) (s : Shared) (σ : St) (H : Hp) (x : V) (xs : List V) (v : Value) (us : List Value) (Q : VK), Inv X pins σ H s → RelV x v → Vals xs us → r x xs H Q →
    wpAny (model X.prog X.w) X.A (call (.builtin id) (v :: us)) (EP X pins σ Q) X.xe s
theorem Vals.one : ∀ {x : V} {us : List Value}, Vals [x] us → ∃ u, us = [u] ∧ RelV x u
  | _, _, .cons r .nil => ⟨_, rfl, r⟩
theorem Vals.zero : ∀ {us : List Value}, Vals [] us → us = []
  | _, .nil => rfl
theorem Vals.reverse {xs : List V} {us : List Value} (h : Vals xs us) : Vals xs.reverse us.reverse := by
  induction h with
  | nil => exact .nil
  | cons r t ih => rw [List.reverse_cons, List.reverse_cons]; exact Vals.append ih (.cons r .nil)
section
variable {X : Cx} {pins : List (Addr × Obj)} {σ : St} {H : Hp} {s : Shared} {l b : Addr} {xs ys zs : List V}
theorem Inv.lset {its its' : List Value} {n : Nat} {f : Array Value → Array Value} {t' : Nat} (I : Inv X pins σ H s) (hH : H l = some (.lst xs))
    (e : s.heap.get? l = some { cls := .type "list", data := .seq its.toArray n }) (hf : f its.toArray = its'.toArray) (hv : Vals ys its') (hz : ys.length ≤ sizeLine) :
    Inv X pins σ (upd H l (.lst ys)) { s with heap := s.heap.update l (Obj.mapSeq f), toks := t' } := by
  have q := PySem.IsL.update e f
  rw [hf] at q
  refine I.write (x := l) (e := l) (by rw [hH]; exact trivial) (.inl rfl) (fun b' u hb hu => (Heap.get?_update_other s.heap (Obj.mapSeq f) (Ne.symm hb)).trans hu) ⟨_, q⟩ ?_
  exact ⟨hz, its', _, hv, q⟩
theorem Inv.lnew {its : List Value} {t' : Nat} (I : Inv X pins σ H s) (hv : Vals ys its) (hz : ys.length ≤ sizeLine) :
    Inv X pins σ (upd H s.heap.objs.size (.lst ys)) { s with heap := s.heap.push { cls := .type "list", data := .seq its.toArray }, toks := t' } :=
  I.laid (fun _ _ q => Heap.get?_push_of_some _ q) (Nat.le_refl _) ⟨hz, its, 0, hv, Heap.get?_push_size _ rfl⟩
theorem Inv.fresh (I : Inv X pins σ H s) : H s.heap.objs.size = none := I.hok.fresh (Nat.le_refl _)
theorem Inv.lstM (I : Inv X pins σ H s) (hH : H l = some (.lst xs)) : xs.length ≤ sizeLine ∧ ∃ (its : List Value) (n : Nat), Vals xs its ∧ xs.length = its.length ∧ s.heap.get? l = some { cls := .type "list", data := .seq its.toArray n } := by
  obtain ⟨z, its, n, r, e⟩ := I.hok l _ hH
  exact ⟨z, its, n, r, r.length, e⟩
theorem notLongL {n : Nat} (h : n ≤ sizeLine) : Builtin.List.listTooLong n = false := by
  unfold Builtin.List.listTooLong
  exact decide_eq_false (by omega)
end
section
variable {X : Cx}
def rAppend : V → List V → Hp → VK → Prop := fun x vs H Q => ∃ l xs y, x = .ref l ∧ vs = [y] ∧ H l = some (.lst xs) ∧ xs.length < sizeLine ∧ Q .non (upd H l (.lst (xs ++ [y])))
theorem mt_append : MtM X "list.append" rAppend := by
  intro pins s σ H x vs v us Q I rx rv h
  obtain ⟨l, xs, y, rfl, rfl, hH, hz, q⟩ := h
  cases rx
  obtain ⟨u, rfl, ru⟩ := rv.one
  obtain ⟨z, its, n, r, hl, e⟩ := I.lstM hH
  refine call_meets F.slot_list_append ⟨_, e, rfl⟩ F.entry_list_append (F.args_list_append_2 _ _) (PySem.list_append l its.toArray n u (by rw [List.size_toArray]; omega)) ⟨e, ?_⟩
  refine ⟨.non, _, I.lset (its' := its ++ [u]) hH e (by simp) (r.append (.cons ru .nil)) ?_, rfl, q⟩
  rw [List.length_append, List.length_singleton]
  omega
def rCat : R2 := fun x y H Q => ∃ l b xs zs, x = .ref l ∧ y = .ref b ∧ H l = some (.lst xs) ∧ H b = some (.lst zs) ∧ xs.length + zs.length ≤ sizeLine ∧ ∀ p, H p = none → Q (.ref p) (upd H p (.lst (xs ++ zs)))
theorem op_cat : OpR X (binaryOp .Add) rCat := by
  intro pins s σ H x y v u Q I rx ry h
  obtain ⟨l, b, xs, zs, rfl, rfl, hH, hB, hz, q⟩ := h
  cases rx
  cases ry
  obtain ⟨z, its, n, r, hl, e⟩ := I.lstM hH
  obtain ⟨z2, its2, n2, r2, hl2, e2⟩ := I.lstM hB
  refine PySem.P.add_list e e2 ?_ (by rw [List.size_toArray, List.size_toArray]; omega)
  have ea : its.toArray ++ its2.toArray = (its ++ its2).toArray := by simp
  rw [ea]
  exact ⟨.ref _, _, I.lnew (t' := s.toks) (r.append r2) (by rw [List.length_append]; omega), rfl, q _ I.fresh⟩
end
section
variable {prog : Program} {w : World} {A : Around} {E : Value → Shared → Prop} {s : Shared}
theorem bounds_run {a c n : Nat} (hac : a ≤ c) (hc : c ≤ n) : sliceBounds (some (a : Int)) (some (c : Int)) none n = ((a : Int), (c : Int), 1) := by
  simp only [sliceBounds, Option.getD_none]
  have h1 : ¬ ((a : Int) < 0) := by omega
  have h2 : ¬ ((c : Int) < 0) := by omega
  simp only [h1, h2, if_false, show (1 : Int) > 0 by decide, if_true]
  congr 1
  · omega
  · congr 1; omega
set_option maxRecDepth 100000 in
theorem setItem_slice {l b sl : Addr} {items new : Array Value} {n n2 : Nat} {vl vu : Value} {a c : Nat} {Q : Unit → Shared → Prop}
    (e : s.heap.get? l = some { cls := .type "list", data := .seq items n }) (e2 : s.heap.get? b = some { cls := .type "list", data := .seq new n2 }) (hne : l ≠ b)
    (hs : s.heap.IsSliceOf sl vl vu .none) (pl : IsPart vl (some (a : Int))) (pu : IsPart vu (some (c : Int))) (hac : a ≤ c) (hc : c ≤ items.size)
    (hsz : items.size + new.size ≤ sizeLine) (h : Q () { s with heap := s.heap.update l (Obj.mapSeq fun xs => xs.extract 0 a ++ new ++ xs.extract c xs.size) }) :
    wpAny (model prog w) A (setItem (.ref l) (.ref sl) (.ref b)) Q E s := by
  have hl : s.heap.IsList l items := PySem.IsL.isList e
  have hb : s.heap.IsList b new := PySem.IsL.isList e2
  obtain ⟨os, hos, hcs, hds⟩ := id hs
  have hTs : s.TypeIs (.ref sl) "slice" := ⟨os, hos, hcs⟩
  have hstep : ¬ ((rawPart none == rawInt 0) = true) := Bool.false_ne_true
  have hsame : Builtin.List.listSameRef (.ref l) (.ref b) = false := by
    unfold Builtin.List.listSameRef
    exact beq_eq_false_iff_ne.mpr hne
  have hmax : (max (a : Int) (c : Int)).toNat = c := by omega
  have hz' : ((fun xs : Array Value => xs.extract 0 a ++ new ++ xs.extract c xs.size) items).size ≤ sizeLine + 1 := by
    simp only [Array.size_append, Array.size_extract]
    omega
  unfold setItem
  try with_reducible refine wpAny_holding ?_
  first | refine wpAny_bind (wpAny_pure ?_) | skip
  refine wpAny_bind (wpAny_sequenceKey hl.typeIs (by decide) ?_)
  refine wpAny_bind (wpAny_callSpecial?_slot (name := Str.ofString "__setitem__") hl.typeIs slot_list_setitem
    (wpAny_call_entry slot_list_setitem hl.typeIs entry_list_setitem ?_ (args_list_setitem _ _ _)))
  show wpAny _ _ (Builtin.List.listSubscript? (.ref sl) >>= _) _ _ s
  refine wpAny_bind ?_
  unfold Builtin.List.listSubscript?
  refine wpAny_bind (wpAny_specialOf hTs slice_no_index ?_)
  simp only [Option.isNone_none, if_true]
  refine wpAny_pure ?_
  show wpAny _ _ (typeOf (.ref sl) >>= _) _ _ s
  refine wpAny_bind (wpAny_typeOf hTs ?_)
  first
    | rw [if_neg (by decide)]
    | refine PySem.W.KFB.if_not (by decide) ?_
  rw [listSliceParts_eq]
  refine wpAny_bind (wpAny_bind (wpAny_field hos hds (x := .none) rfl (wpAny_bind (wpAny_listPart .none ?_))))
  rw [if_neg hstep]
  refine wpAny_bind (wpAny_field hos hds (x := vl) rfl (wpAny_bind (wpAny_listPart pl ?_)))
  refine wpAny_bind (wpAny_field hos hds (x := vu) rfl (wpAny_bind (wpAny_listPart pu (wpAny_pure ?_))))
  first
    | simp only [hsame, Bool.false_eq_true, if_false]
    | refine PySem.W.KFB.if_not hsame ?_
    | (dsimp only
       rw [if_neg (by rw [hsame]; exact Bool.false_ne_true)])
  refine wpAny_bind (m := Builtin.List.listAllItems (.ref b) "must assign iterable to extended slice") ?_
  unfold Builtin.List.listAllItems
  refine wpAny_bind (wpAny_typeOf hb.typeIs ?_)
  first
    | refine PySem.W.KFB.if_so (by decide) ?_
    | rw [if_pos (by decide)]
    | simp only [beq_self_eq_true, Bool.true_or, if_true]
  unfold Builtin.List.listItems
  refine wpAny_bind (wpAny_seqItems e2 rfl (wpAny_pure ?_))
  refine wpAny_bind (wpAny_bind (wpAny_seqItems e rfl (wpAny_pure ?_)))
  refine wpAny_bind (wpAny_of_eq ((sliceIndices_raw (some (a : Int)) (some (c : Int)) none items.size (by simp)).trans (congrArg (pure : Int × Int × Int → Sem (Int × Int × Int)) (bounds_run hac hc))) ?_)
  show wpAny _ _ (if ((1 : Int) == 1) = true then _ else _) _ _ s
  rw [if_pos (by decide)]
  refine wpAny_bind (wpAny_rule ?_)
  first
    | simp only [notLongL hsz, Bool.false_eq_true, if_false]
    | refine PySem.W.KFB.if_not (notLongL hsz) ?_
  first | refine wpAny_bind (wpAny_pure ?_) | skip
  show wpAny _ _ (updateSeq l (fun xs => xs.extract 0 ((a : Int)).toNat ++ new ++ xs.extract (max (a : Int) (c : Int)).toNat xs.size) >>= _) _ _ s
  rw [hmax, Int.toNat_natCast]
  refine wpAny_bind (wpAny_updateSeq (hz := Nat.le_trans (Nat.le_add_right _ _) hsz) (_hz' := hz') e rfl ?_)
  refine wpAny_bind (wpAny_letGo ?_)
  first
    | exact wpAny_bind (wpAny_pure (wpAny_pure ⟨.none, rfl, wpAny_pure h⟩))
    | exact wpAny_pure ⟨.none, rfl, wpAny_pure h⟩
end
section
variable {X : Cx}
end
end L2
namespace L2
open PySem PySem.Spec PyProof.Rows
section
variable {κ : Type} [DecidableEq κ]
def valV (kvs : List (κ × V)) (k : κ) : Option V := (kvs.find? fun kv => decide (kv.1 = k)).map (·.2)
def putK (kvs : List (κ × V)) (k : κ) (v : V) : List (κ × V) :=
  if (kvs.any fun kv => decide (kv.1 = k)) = true then kvs.map (fun kv => if kv.1 = k then (kv.1, v) else kv) else kvs ++ [(k, v)]
def dropK (kvs : List (κ × V)) (k : κ) : List (κ × V) := kvs.filter fun kv => decide (kv.1 ≠ k)
theorem valV_pos {p : κ × V} {r : List (κ × V)} {k : κ} (e : p.1 = k) : valV (p :: r) k = some p.2 := by simp [valV, List.find?_cons, e]
theorem valV_neg {p : κ × V} {r : List (κ × V)} {k : κ} (e : ¬ p.1 = k) : valV (p :: r) k = valV r k := by simp [valV, List.find?_cons, e]
theorem valV_any (k : κ) : ∀ kvs : List (κ × V), (kvs.any fun kv => decide (kv.1 = k)) = (valV kvs k).isSome
  | [] => rfl
  | p :: r => by
    rw [List.any_cons]
    by_cases e : p.1 = k
    · simp only [valV_pos e, decide_eq_true e, Bool.true_or, Option.isSome_some]
    · rw [valV_neg e, decide_eq_false e, Bool.false_or]; exact valV_any k r
theorem valV_map (k j : κ) (y : V) : ∀ kvs : List (κ × V), valV (kvs.map fun kv => if kv.1 = k then (kv.1, y) else kv) j = (valV kvs j).map fun x => if j = k then y else x
  | [] => rfl
  | p :: r => by
    have ih := valV_map k j y r
    rw [List.map_cons]
    by_cases h : p.1 = k
    · rw [if_pos h]
      by_cases e : p.1 = j
      · rw [valV_pos (p := (p.1, y)) e, valV_pos e, Option.map_some, if_pos (e.symm.trans h)]
      · rw [valV_neg (p := (p.1, y)) e, valV_neg e, ih]
    · rw [if_neg h]
      by_cases e : p.1 = j
      · rw [valV_pos (p := p) e, valV_pos e, Option.map_some, if_neg (fun z => h (e.trans z))]
      · rw [valV_neg (p := p) e, valV_neg e, ih]
theorem valV_snoc (k j : κ) (y : V) : ∀ kvs : List (κ × V), valV kvs k = none → valV (kvs ++ [(k, y)]) j = if j = k then some y else valV kvs j
  | [], _ => by
    by_cases e : k = j
    · rw [if_pos e.symm]; exact valV_pos (p := (k, y)) e
    · rw [if_neg (fun z => e z.symm)]; exact valV_neg (p := (k, y)) e
  | p :: r, hn => by
    rw [List.cons_append]
    have hk : ¬ p.1 = k := fun z => by rw [valV_pos z] at hn; cases hn
    rw [valV_neg hk] at hn
    have ih := valV_snoc k j y r hn
    by_cases e : p.1 = j
    · rw [valV_pos e, valV_pos e, if_neg (fun z => hk (e.trans z))]
    · rw [valV_neg e, valV_neg e, ih]
theorem valV_put (kvs : List (κ × V)) (k j : κ) (y : V) : valV (putK kvs k y) j = if j = k then some y else valV kvs j := by
  unfold putK
  by_cases a : (kvs.any fun kv => decide (kv.1 = k)) = true
  · rw [if_pos a, valV_map]
    rw [valV_any] at a
    by_cases e : j = k
    · obtain ⟨x, hx⟩ := Option.isSome_iff_exists.mp a
      rw [if_pos e, e, hx, Option.map_some, if_pos rfl]
    · rw [if_neg e]
      cases valV kvs j with
      | none => rfl
      | some x => rw [Option.map_some, if_neg e]
  · rw [if_neg a]
    refine valV_snoc k j y kvs ?_
    rw [valV_any] at a
    cases q : valV kvs k with
    | none => rfl
    | some x => rw [q] at a; exact (a rfl).elim
theorem length_putK (kvs : List (κ × V)) (k : κ) (v : V) : (putK kvs k v).length ≤ kvs.length + 1 := by
  unfold putK
  split
  · rw [List.length_map]; omega
  · rw [List.length_append, List.length_cons, List.length_nil]; omega
theorem putK_new {kvs : List (κ × V)} {k : κ} (v : V) (h : valV kvs k = none) : putK kvs k v = kvs ++ [(k, v)] := by
  unfold putK
  rw [valV_any, h]
  exact if_neg (by decide)
theorem RelO.isSome_eq {o : Option V} {u : Option Value} (r : RelO o u) : o.isSome = u.isSome := by
  cases o with
  | none => cases u with
    | none => rfl
    | some _ => exact (show False from r).elim
  | some _ => cases u with
    | none => exact (show False from r).elim
    | some _ => rfl
theorem RelO.getD {o : Option V} {u : Option Value} {d : V} {d' : Value} (r : RelO o u) (rd : RelV d d') : RelV (o.getD d) (u.getD d') := by
  cases o with
  | none => cases u with
    | none => exact rd
    | some _ => exact (show False from r).elim
  | some _ => cases u with
    | none => exact (show False from r).elim
    | some _ => exact r
theorem KV.val {kvs : List (κ × V)} {vs : List (κ × Value)} (r : KV kvs vs) (k : κ) : RelO (valV kvs k) (valueAt vs k) := by
  unfold KV at r
  induction r with
  | nil => exact True.intro
  | @cons p q ps qs h t ih =>
    obtain ⟨h1, h2⟩ := h
    by_cases e : p.1 = k
    · have e' : q.1 = k := h1.symm.trans e
      have b : valueAt (q :: qs) k = some q.2 := by simp [valueAt, List.find?_cons, e']
      rw [valV_pos e, b]; exact h2
    · have e' : ¬ q.1 = k := fun z => e (h1.trans z)
      have b : valueAt (q :: qs) k = valueAt qs k := by simp [valueAt, List.find?_cons, e']
      rw [valV_neg e, b]; exact ih
theorem KV.any {kvs : List (κ × V)} {vs : List (κ × Value)} (r : KV kvs vs) (k : κ) : (kvs.any fun kv => decide (kv.1 = k)) = vs.any fun kv => decide (kv.1 = k) := by
  unfold KV at r
  induction r with
  | nil => rfl
  | cons h t ih => rw [List.any_cons, List.any_cons, ih, h.1]
theorem KV.repl {kvs : List (κ × V)} {vs : List (κ × Value)} (r : KV kvs vs) (k : κ) {y : V} {u : Value} (ry : RelV y u) :
    KV (kvs.map fun kv => if kv.1 = k then (kv.1, y) else kv) (vs.map fun kv => if kv.1 = k then (kv.1, u) else kv) := by
  unfold KV at r ⊢
  induction r with
  | nil => exact .nil
  | @cons p q ps qs h t ih =>
    rw [List.map_cons, List.map_cons]
    refine .cons ?_ ih
    obtain ⟨h1, h2⟩ := h
    by_cases e : p.1 = k
    · rw [if_pos e, if_pos (h1.symm.trans e)]; exact ⟨h1, ry⟩
    · rw [if_neg e, if_neg (fun z => e (h1.trans z))]; exact ⟨h1, h2⟩
theorem KV.put {kvs : List (κ × V)} {vs : List (κ × Value)} (r : KV kvs vs) (k : κ) {y : V} {u : Value} (ry : RelV y u) : KV (putK kvs k y) (stored vs k u) := by
  unfold putK stored
  rw [r.any k]
  by_cases e : (vs.any fun kv => decide (kv.1 = k)) = true
  · rw [if_pos e, if_pos e]; exact r.repl k ry
  · rw [if_neg e, if_neg e]; exact Paired.snoc r ⟨rfl, ry⟩
theorem KV.drop {kvs : List (κ × V)} {vs : List (κ × Value)} (r : KV kvs vs) (k : κ) : KV (dropK kvs k) (without vs k) := by
  unfold KV at r ⊢
  unfold dropK without
  induction r with
  | nil => exact .nil
  | @cons p q ps qs h t ih =>
    obtain ⟨h1, h2⟩ := h
    rw [List.filter_cons, List.filter_cons]
    by_cases e : p.1 = k
    · have a : ¬ decide (p.1 ≠ k) = true := by simp [e]
      have b : ¬ decide (q.1 ≠ k) = true := by simp [h1.symm.trans e]
      rw [if_neg a, if_neg b]; exact ih
    · have e' : ¬ q.1 = k := fun z => e (h1.trans z)
      have a : decide (p.1 ≠ k) = true := by simp [e]
      have b : decide (q.1 ≠ k) = true := by simp [e']
      rw [if_pos a, if_pos b]; exact .cons ⟨h1, h2⟩ ih
theorem KV.keys {kvs : List (κ × V)} {vs : List (κ × Value)} (r : KV kvs vs) : kvs.map (·.1) = vs.map (·.1) := by
  unfold KV at r
  induction r with
  | nil => rfl
  | cons h t ih => rw [List.map_cons, List.map_cons, ih, h.1]
theorem KV.length {kvs : List (κ × V)} {vs : List (κ × Value)} (r : KV kvs vs) : kvs.length = vs.length := Paired.length r
end
theorem kV_is {P : Program} {w : World} {k : Key} {u : Value} (r : RelV (kV k) u) : (mixKind P w).is k u = true := by
  cases k with
  | inl i => obtain ⟨t, e⟩ := (show ∃ t, u = Value.int i t from r); subst e; exact mixKind_int P w i t
  | inr x => obtain ⟨t, e⟩ := (show ∃ t, u = Value.str x t from r); subst e; exact mixKind_str P w x t
theorem items_are {P : Program} {w : World} : ∀ {ks : List Key} {us : List Value}, Vals (ks.map kV) us → ItemsAre (mixKind P w) ks us
  | [], _, r => by rw [List.map_nil] at r; cases r; exact .nil
  | k :: ks, _, r => by
    rw [List.map_cons] at r
    cases r with
    | cons h t => exact .cons (kV_is h) (items_are t)
abbrev KT (H : Hp) : List (List Key × V) → List (List Key × Addr × Value) → Prop := Paired fun p q => p.1 = q.1 ∧ H q.2.1 = some (.tup (p.1.map kV)) ∧ RelV p.2 q.2.2
theorem KT.val {H : Hp} {kvs : List (List Key × V)} {xs : List (List Key × Addr × Value)} (r : KT H kvs xs) (k : List Key) : RelO (valV kvs k) ((atKey xs k).map (·.2)) := by
  induction r with
  | nil => exact True.intro
  | @cons p q ps qs h t ih =>
    obtain ⟨h1, _, h2⟩ := h
    by_cases e : p.1 = k
    · have e' : q.1 = k := h1.symm.trans e
      have b : atKey (q :: qs) k = some q.2 := by simp [atKey, List.find?_cons, e']
      rw [valV_pos e, b]; exact h2
    · have e' : ¬ q.1 = k := fun z => e (h1.trans z)
      have b : atKey (q :: qs) k = atKey qs k := by simp [atKey, List.find?_cons, e']
      rw [valV_neg e, b]; exact ih
theorem KT.repl {H : Hp} {kvs : List (List Key × V)} {xs : List (List Key × Addr × Value)} (r : KT H kvs xs) (k : List Key) {y : V} {u : Value} (ry : RelV y u) :
    KT H (kvs.map fun kv => if kv.1 = k then (kv.1, y) else kv) (xs.map (putAt k u)) := by
  induction r with
  | nil => exact .nil
  | @cons p q ps qs h t ih =>
    rw [List.map_cons, List.map_cons]
    refine .cons ?_ ih
    obtain ⟨h1, h2, h3⟩ := h
    unfold putAt
    by_cases e : p.1 = k
    · rw [if_pos e, if_pos (h1.symm.trans e)]; exact ⟨h1, h2, ry⟩
    · rw [if_neg e, if_neg (fun z => e (h1.trans z))]; exact ⟨h1, h2, h3⟩
theorem KT.put {H : Hp} {kvs : List (List Key × V)} {xs : List (List Key × Addr × Value)} (r : KT H kvs xs) (k : List Key) {b : Addr} {y : V} {u : Value} (hb : H b = some (.tup (k.map kV))) (ry : RelV y u) :
    KT H (putK kvs k y) (storedH xs k b u) := by
  have e : (kvs.any fun kv => decide (kv.1 = k)) = (atKey xs k).isSome := by
    rw [valV_any, (r.val k).isSome_eq, Option.isSome_map]
  unfold putK storedH
  rw [e]
  by_cases q : (atKey xs k).isSome = true
  · rw [if_pos q, if_pos q]; exact r.repl k ry
  · rw [if_neg q, if_neg q]; exact Paired.snoc r ⟨rfl, hb, ry⟩
theorem KT.keeps {H H' : Hp} {kvs : List (List Key × V)} {xs : List (List Key × Addr × Value)} (r : KT H kvs xs) (ht : ∀ b ys, H b = some (.tup ys) → H' b = some (.tup ys)) : KT H' kvs xs :=
  Paired.mapP r fun _ _ z => ⟨z.1, ht _ _ z.2.1, z.2.2⟩
section
variable {P : Program} {w : World} {H : Hp} {h : Heap} {a : Addr}
theorem rd_of {u : HO} (ok : HOk P w H h) (e : Rd H a u) : ObjOk P w H h a u := e.ok ok
theorem dk_rd {kvs : List (Key × V)} (ok : HOk P w H h) (e : Rd H a (.dK kvs)) : kvs.length ≤ sizeLine ∧ (a == sysModules) = false ∧ ∃ vs, KV kvs vs ∧ h.DictOf (mixKind P w) a vs :=
  show ObjOk P w H h a (.dK kvs) from rd_of ok e
theorem dk_of {kvs : List (Key × V)} (ok : HOk P w H h) (e : H a = some (.dK kvs)) : kvs.length ≤ sizeLine ∧ (a == sysModules) = false ∧ ∃ vs, KV kvs vs ∧ h.DictOf (mixKind P w) a vs := dk_rd ok (.inl e)
theorem key_of {ks : List Key} (ok : HOk P w H h) (e : H a = some (.tup (ks.map kV))) : (tupleKind (mixKind P w)).is h ks a := by
  obtain ⟨_, its, r, o, h1, h2, n, h3⟩ := (show ObjOk P w H h a (.tup (ks.map kV)) from ok a _ e)
  exact ⟨o, its.toArray, n, h1, h2, h3, by simpa using items_are r⟩
theorem dt_rd {kvs : List (List Key × V)} (ok : HOk P w H h) (e : Rd H a (.dT kvs)) : kvs.length ≤ sizeLine ∧ (a == sysModules) = false ∧
    ∃ xs, KT H kvs xs ∧ h.DictOfH (tupleKind (mixKind P w)) a xs := by
  obtain ⟨z, y, xs, r, o, es, ep, h1, h2, h3, h4, h5⟩ := (show ObjOk P w H h a (.dT kvs) from rd_of ok e)
  refine ⟨z, y, xs, r, o, es, ep, h1, h2, h3, h4, fun x hx => ?_, h5⟩
  have all : ∀ {l : List (List Key × V)} {m : List (List Key × Addr × Value)}, KT H l m → ∀ x ∈ m, (tupleKind (mixKind P w)).is h x.1 x.2.1 := by
    intro l m q
    induction q with
    | nil => intro x hx; exact nomatch hx
    | @cons p q ps qs hq t ih =>
      intro x hx
      rcases List.mem_cons.mp hx with e | hx
      · subst e
        exact key_of ok (by rw [← hq.1]; exact hq.2.1)
      · exact ih x hx
  exact all r x hx
theorem dt_of {kvs : List (List Key × V)} (ok : HOk P w H h) (e : H a = some (.dT kvs)) : kvs.length ≤ sizeLine ∧ (a == sysModules) = false ∧
    ∃ xs, KT H kvs xs ∧ h.DictOfH (tupleKind (mixKind P w)) a xs := dt_rd ok (.inl e)
end
def DGet (H : Hp) (a : Addr) (y : V) (r : Option V) : Prop :=
  (∃ kvs k, Rd H a (.dK kvs) ∧ y = kV k ∧ r = valV kvs k) ∨ ∃ kvs k b, Rd H a (.dT kvs) ∧ y = .ref b ∧ H b = some (.tup (k.map kV)) ∧ r = valV kvs k
def DPut (H : Hp) (a : Addr) (y v : V) (H' : Hp) : Prop :=
  (∃ kvs k, H a = some (.dK kvs) ∧ y = kV k ∧ kvs.length < sizeLine ∧ H' = upd H a (.dK (putK kvs k v))) ∨
  ∃ kvs k b, H a = some (.dT kvs) ∧ y = .ref b ∧ H b = some (.tup (k.map kV)) ∧ kvs.length < sizeLine ∧ H' = upd H a (.dT (putK kvs k v))
theorem DGet.k {H : Hp} {a : Addr} {kvs : List (Key × V)} {k : Key} (e : H a = some (.dK kvs)) : DGet H a (kV k) (valV kvs k) := .inl ⟨kvs, k, .inl e, rfl, rfl⟩
theorem DGet.t {H : Hp} {a b : Addr} {kvs : List (List Key × V)} {k : List Key} (e : H a = some (.dT kvs)) (eb : H b = some (.tup (k.map kV))) : DGet H a (.ref b) (valV kvs k) := .inr ⟨kvs, k, b, .inl e, rfl, eb, rfl⟩
theorem DPut.k {H : Hp} {a : Addr} {kvs : List (Key × V)} {k : Key} {v : V} (e : H a = some (.dK kvs)) (hl : kvs.length < sizeLine) : DPut H a (kV k) v (upd H a (.dK (putK kvs k v))) := .inl ⟨kvs, k, e, rfl, hl, rfl⟩
theorem DPut.t {H : Hp} {a b : Addr} {kvs : List (List Key × V)} {k : List Key} {v : V} (e : H a = some (.dT kvs)) (eb : H b = some (.tup (k.map kV))) (hl : kvs.length < sizeLine) :
    DPut H a (.ref b) v (upd H a (.dT (putK kvs k v))) := .inr ⟨kvs, k, b, e, rfl, eb, hl, rfl⟩
section
variable {X : Cx} {pins : List (Addr × Obj)} {σ : St} {H : Hp} {s : Shared} {a : Addr} {y v : V} {u r : Value} {o : Option V} {A : Around} {E : Value → Shared → Prop}
theorem Inv.big (I : Inv X pins σ H s) : sysModules < s.heap.objs.size := by
  have h : mainGlobals < s.heap.objs.size := (I.mod.glob.keeps I.bk).lt
  exact Nat.lt_trans (by decide) h
theorem d_getItem {Q : Value → Shared → Prop} (hu : A.units + 1 < cLine) (I : Inv X pins σ H s) (g : DGet H a y (some v)) (ry : RelV y u) (h : ∀ w' s', Inv X pins σ H s' → RelV v w' → Q w' s') :
    wpAny (model X.prog X.w) A (getItem (.ref a) u) Q E s := by
  rcases g with ⟨kvs, k, e, ey, l⟩ | ⟨kvs, k, b, e, ey, eb, l⟩
  · subst ey
    obtain ⟨z, hd, vs, rel, dd⟩ := dk_rd I.hok e
    obtain ⟨w', hw, rw'⟩ := RelO.some_of (v := v) (o := valueAt vs k) (by rw [l]; exact rel.val k)
    exact wpAny_getItem_of (kV_is ry) dd.mapOf hw (h w' _ (I.tok _) rw')
  · subst ey
    cases (show u = Value.ref b from ry)
    obtain ⟨z, hd, xs, rel, dd⟩ := dt_rd I.hok e
    obtain ⟨w', hw, rw'⟩ := RelO.some_of (v := v) (o := (atKey xs k).map (·.2)) (by rw [l]; exact rel.val k)
    obtain ⟨p, hp, hp2⟩ := Option.map_eq_some_iff.mp hw
    refine wpAny_getItem_heap (tupleKind_room_in1 hu) (key_of I.hok eb) dd hp ?_
    rw [hp2]
    exact h w' _ (I.tok _) rw'
theorem d_in {Q : Value → Shared → Prop} (hu : A.units + 1 < cLine) (I : Inv X pins σ H s) (g : DGet H a y o) (ry : RelV y u) (h : ∀ s', Inv X pins σ H s' → Q (.bool o.isSome) s') :
    wpAny (model X.prog X.w) A (compareOp .In u (.ref a)) Q E s := by
  rcases g with ⟨kvs, k, e, ey, l⟩ | ⟨kvs, k, b, e, ey, eb, l⟩
  · subst ey
    obtain ⟨z, hd, vs, rel, dd⟩ := dk_rd I.hok e
    refine wpAny_in_of (kV_is ry) hd dd.mapOf ?_
    rw [← (rel.val k).isSome_eq, ← l]
    exact h _ (I.tok _)
  · subst ey
    cases (show u = Value.ref b from ry)
    obtain ⟨z, hd, xs, rel, dd⟩ := dt_rd I.hok e
    refine wpAny_in_heap (tupleKind_room_in1 hu) (key_of I.hok eb) hd dd ?_
    have q := (rel.val k).isSome_eq
    rw [Option.isSome_map] at q
    rw [← q, ← l]
    exact h _ (I.tok _)
theorem d_notIn {Q : Value → Shared → Prop} (hu : A.units + 1 < cLine) (I : Inv X pins σ H s) (g : DGet H a y o) (ry : RelV y u) (h : ∀ s', Inv X pins σ H s' → Q (.bool (!o.isSome)) s') :
    wpAny (model X.prog X.w) A (compareOp .NotIn u (.ref a)) Q E s := by
  rcases g with ⟨kvs, k, e, ey, l⟩ | ⟨kvs, k, b, e, ey, eb, l⟩
  · subst ey
    obtain ⟨z, hd, vs, rel, dd⟩ := dk_rd I.hok e
    refine wpAny_notIn_of (kV_is ry) hd dd.mapOf ?_
    rw [← (rel.val k).isSome_eq, ← l]
    exact h _ (I.tok _)
  · subst ey
    cases (show u = Value.ref b from ry)
    obtain ⟨z, hd, xs, rel, dd⟩ := dt_rd I.hok e
    refine wpAny_notIn_heap (tupleKind_room_in1 hu) (key_of I.hok eb) hd dd ?_
    have q := (rel.val k).isSome_eq
    rw [Option.isSome_map] at q
    rw [← q, ← l]
    exact h _ (I.tok _)
theorem d_write {h' : Heap} {t' : Nat} {ob : HO} (I : Inv X pins σ H s) (mu : Mut (H a)) (hs : Heap.SameBut a s.heap h') (he : ∃ q, h'.get? a = some q) (new : ObjOk X.prog X.w (upd H a ob) h' a ob) :
    Inv X pins σ (upd H a ob) { s with heap := h', toks := t' } :=
  I.write (x := a) (e := a) mu (.inl rfl) (fun b q hb z => (hs.2 b hb).trans z) he new
theorem dk_new {P : Program} {w : World} {H' : Hp} {h' : Heap} {kvs : List (Key × V)} {vs : List (Key × Value)} (z : kvs.length ≤ sizeLine) (hd : (a == sysModules) = false) (rel : KV kvs vs) (dd : h'.DictOf (mixKind P w) a vs) :
    ObjOk P w H' h' a (.dK kvs) := ⟨z, hd, vs, rel, dd⟩
theorem d_setItem {H' : Hp} {Q : Unit → Shared → Prop} (hu : A.units + 1 < cLine) (I : Inv X pins σ H s) (g : DPut H a y v H') (ry : RelV y u) (rv : RelV v r) (h : ∀ s', Inv X pins σ H' s' → Q () s') :
    wpAny (model X.prog X.w) A (setItem (.ref a) u r) Q E s := by
  rcases g with ⟨kvs, k, e, ey, l, eH⟩ | ⟨kvs, k, b, e, ey, eb, l, eH⟩
  · subst ey eH
    obtain ⟨z, hd, vs, rel, dd⟩ := dk_of I.hok e
    have hz : vs.length ≤ sizeLine := by rw [← rel.length]; exact z
    have hl : (putK kvs k v).length ≤ sizeLine := by have := length_putK kvs k v; omega
    refine wpAny_setItem_pairs (hsz := hz) (kV_is ry) dd fun h' dd' hs => h _ ?_
    have he : ∃ q, h'.get? a = some q := let ⟨q, _, _, hq, _⟩ := dd'; ⟨q, hq⟩
    exact d_write I (by rw [e]; exact True.intro) hs he (dk_new hl hd (rel.put k rv) dd')
  · subst ey eH
    cases (show u = Value.ref b from ry)
    obtain ⟨z, hd, xs, rel, dd⟩ := dt_of I.hok e
    have hz : xs.length ≤ sizeLine := by rw [← Paired.length rel]; exact z
    have hl : (putK kvs k v).length ≤ sizeLine := by have := length_putK kvs k v; omega
    refine wpAny_setItem_heap (hsz := hz) (tupleKind_room_in1 hu) (key_of I.hok eb) dd fun h' dd' hs => h _ ?_
    obtain ⟨q, es, ep, hq, h2, h3, h4, _, h5⟩ := dd'
    refine d_write I (by rw [e]; exact True.intro) hs ⟨q, hq⟩ ⟨hl, hd, _, (rel.put k eb rv).keeps fun c ys ec => ?_, q, es, ep, hq, h2, h3, h4, h5⟩
    rw [upd_ne (ne_of ec e (fun z => nomatch z))]
    exact ec
end
section
variable {X : Cx} {pins : List (Addr × Obj)} {σ : St} {H : Hp} {s : Shared} {a : Addr} {kvs : List (Key × V)} {k : Key} {u : Value} {A : Around} {E : Value → Shared → Prop}
end
def NoSl (i : Expr) : Prop := ∀ ov iv, subscripted i false ov iv = operate [ov, iv] (getItem ov iv)
theorem subD_of {prog : Program} {w : World} {A : Around} {E : Value → Shared → Prop} {s : Shared} {env : Env} {value slice : Expr} {pos : Pos} {T id : String} {Q : Value → Shared → Prop}
    (hl : typeLookup (.type T) "__getitem__" = pure (some (.builtin id))) (hs : NoSl slice)
    (h : wpAny (model prog w) A (eval value env) (fun o s₁ => wpAny (model prog w) A (eval slice env) (fun i s₂ => s₂.TypeIs o T ∧ wpAny (model prog w) A (getItem o i) Q E s₂) E s₁) E s) :
    wpAny (model prog w) A (eval (.Subscript value slice pos) env) Q E s := by
  refine Subscript_ (wpAny_mono h (fun o s₁ h₁ => wpAny_mono h₁ (fun i s₂ h₂ => ?_) fun _ _ x => x) fun _ _ x => x)
  obtain ⟨hT, h₂⟩ := h₂
  unfold subscriptTail
  refine wpAny_bind ?_
  rw [getitemInPython_of_ne hT.not_modules]
  refine wpAny_bind (wpAny_specialOf hT hl ?_)
  have fin : wpAny (model prog w) A (subscripted slice false o i) (fun r s₃ => wpAny (model prog w) A (letTemporaryGo value o r >>= fun _ => pure r) Q E s₃) E s₂ := by
    rw [hs o i]
    exact wpAny_operating (wpAny_mono h₂ (fun r s₃ h₃ => wpAny_bind (wpAny_letTemporaryGo (wpAny_pure h₃))) fun _ _ x => x)
  first
    | exact wpAny_pure (wpAny_bind fin)
    | exact wpAny_bind (wpAny_pure (wpAny_bind fin))
    | exact wpAny_bind fin
theorem dict_typeIs {X : Cx} {pins : List (Addr × Obj)} {σ : St} {H : Hp} {s : Shared} {a : Addr} {y : V} {o : Option V} (I : Inv X pins σ H s) (g : DGet H a y o) : s.TypeIs (.ref a) "dict" := by
  rcases g with ⟨kvs, k, e, _, _⟩ | ⟨kvs, k, b, e, _, _, _⟩
  · obtain ⟨_, _, vs, _, dd⟩ := dk_rd I.hok e
    exact dd.typeIs
  · obtain ⟨_, _, xs, _, dd⟩ := dt_rd I.hok e
    exact dd.typeIs
def tDGet (td ty : TE) : TE := fun σ H Q => td σ H fun x H1 => ty σ H1 fun y H2 => ∃ a v, x = .ref a ∧ DGet H2 a y (some v) ∧ Q v H2
def tDIn (ty td : TE) : TE := fun σ H Q => ty σ H fun y H1 => td σ H1 fun x H2 => ∃ a o, x = .ref a ∧ DGet H2 a y o ∧ Q (.bl o.isSome) H2
def tDNotIn (ty td : TE) : TE := fun σ H Q => ty σ H fun y H1 => td σ H1 fun x H2 => ∃ a o, x = .ref a ∧ DGet H2 a y o ∧ Q (.bl (!o.isSome)) H2
def sDPut (td ty tv : TE) : TS := fun D σ H => tv σ H fun v H1 => td σ H1 fun x H2 => ty σ H2 fun y H3 => ∃ a H4, x = .ref a ∧ DPut H3 a y v H4 ∧ D.nx σ H4
section
variable {X : Cx} {o i e value : Expr} {pos pos' tpos : Pos} {td ty tv : TE}
theorem pe_dget (hu : X.A.units + 1 < cLine) (ho : PE X o td) (hi : PE X i ty) (hs : NoSl i) : PE X (.Subscript o i pos) (tDGet td ty) := by
  intro pins s σ H Q I h
  refine subD_of PySem.F.slot_dict_getitem.lookup hs (thn (ho pins s σ H _ I h) fun u s1 ⟨x, H1, I1, rx, q1⟩ => thn (hi pins s1 σ H1 _ I1 q1) fun iv s2 ⟨y, H2, I2, ry, a, v, ex, g, q2⟩ => ?_)
  subst ex
  obtain rfl : u = Value.ref a := rx
  exact ⟨dict_typeIs I2 g, d_getItem hu I2 g ry fun w' s3 I3 rw' => ⟨v, H2, I3, rw', q2⟩⟩
theorem pc_din (hu : X.A.units + 1 < cLine) (hi : PE X i ty) (ho : PE X o td) : PC X .In i o (tDIn ty td) := by
  intro pins s σ H Q I h
  refine thn (hi pins s σ H _ I h) fun iv s1 ⟨y, H1, I1, ry, q1⟩ => thn (ho pins s1 σ H1 _ I1 q1) fun u s2 ⟨x, H2, I2, rx, a, ov, ex, g, q2⟩ => ?_
  subst ex
  obtain rfl : u = Value.ref a := rx
  exact d_in hu I2 g ry fun s3 I3 => ⟨.bl ov.isSome, H2, I3, rfl, q2⟩
theorem pc_dnotin (hu : X.A.units + 1 < cLine) (hi : PE X i ty) (ho : PE X o td) : PC X .NotIn i o (tDNotIn ty td) := by
  intro pins s σ H Q I h
  refine thn (hi pins s σ H _ I h) fun iv s1 ⟨y, H1, I1, ry, q1⟩ => thn (ho pins s1 σ H1 _ I1 q1) fun u s2 ⟨x, H2, I2, rx, a, ov, ex, g, q2⟩ => ?_
  subst ex
  obtain rfl : u = Value.ref a := rx
  exact d_notIn hu I2 g ry fun s3 I3 => ⟨.bl (!ov.isSome), H2, I3, rfl, q2⟩
theorem ps_dput (hu : X.A.units + 1 < cLine) (ho : PE X o td) (hi : PE X i ty) (hv : PE X value tv) (hs : swapsWith value (some (.Subscript o i pos')) pos.line X.env = pure false) :
    PS X (.Assign [.Subscript o i pos'] value pos) (sDPut td ty tv) := by
  intro pins s σ H D I h
  refine wpAny_Assign_Subscript (thn (hv pins s σ H _ I h) fun r s1 ⟨v, H1, I1, rv, q1⟩ => thn (ho pins s1 σ H1 _ I1 q1) fun u s2 ⟨x, H2, I2, rx, q2⟩ => thn (hi pins s2 σ H2 _ I2 q2) fun iv s3 ⟨y, H3, I3, ry, a, H4, ex, g, q3⟩ => ?_) hs
  subst ex
  obtain rfl : u = Value.ref a := rx
  exact d_setItem hu I3 g ry rv fun s4 I4 => ⟨σ, H4, I4, q3⟩
end
theorem dt_empty {P : Program} {w : World} {H : Hp} (h : Heap) (hb : sysModules < h.objs.size) : ObjOk P w H (h.push { cls := .type "dict", data := .dict #[] }) h.objs.size (.dT []) :=
  ⟨Nat.zero_le _, beq_eq_false_iff_ne.mpr (Ne.symm (Nat.ne_of_lt hb)), [], .nil, _, #[], 0, Heap.get?_push_size _ rfl, ⟨rfl, rfl, rfl⟩, rfl, rfl, List.nodup_nil⟩
def tDNewT : TE := fun _ H Q => ∀ p, H p = none → Q (.ref p) (upd H p (.dT []))
section
variable {X : Cx} {pos : Pos}
theorem pe_dnewT : PE X (.Dict [] [] pos) tDNewT := fun pins s σ H Q I h =>
  wpAny_Dict_empty ⟨.ref s.heap.objs.size, _, I.laid (a := s.heap.objs.size) (o := .dT []) (t' := s.toks) (fun _ _ q => Heap.get?_push_of_some _ q) (Nat.le_refl _) (dt_empty s.heap I.big), rfl, h _ (I.hok.fresh (Nat.le_refl _))⟩
end
def mergeK (kvs more : List (Key × V)) : List (Key × V) := more.foldl (fun acc kv => putK acc kv.1 kv.2) kvs
theorem KV.merge : ∀ {more : List (Key × V)} {rs : List (Key × Value)} {kvs : List (Key × V)} {vs : List (Key × Value)}, KV more rs → KV kvs vs → KV (mergeK kvs more) (merged vs rs) := by
  intro more rs kvs vs r
  unfold KV at r
  induction r generalizing kvs vs with
  | nil => intro q; exact q
  | @cons p q ps qs h t ih =>
    intro r0
    have e : KV (putK kvs p.1 p.2) (stored vs q.1 q.2) := by
      have := r0.put p.1 h.2
      rw [← h.1]; exact this
    exact ih e
structure M1 (X : Cx) (o : Expr) (m : Str) (apos : Pos) (e : Expr) (cpos : Pos) : Prop where
  base : attributeBase o m X.env (eval o X.env) = eval o X.env
  few : ((backTo cpos (starEach [e] X.env)).all (fun x => !x.1) && (backToKw cpos (keywordEach [] X.env)).all (fun x => x.1.isSome)
    && decide (([e] : List Expr).length + ([] : List Keyword).length + (if ([] : List Keyword).isEmpty then 0 else 1) < 30)) = true
  line : (apos.endLine == cpos.line) = true
  trees : backTo cpos (starEach [e] X.env) = [(false, eval e X.env)]
structure M2 (X : Cx) (o : Expr) (m : Str) (apos : Pos) (e f : Expr) (cpos : Pos) : Prop where
  base : attributeBase o m X.env (eval o X.env) = eval o X.env
  few : ((backTo cpos (starEach [e, f] X.env)).all (fun x => !x.1) && (backToKw cpos (keywordEach [] X.env)).all (fun x => x.1.isSome)
    && decide (([e, f] : List Expr).length + ([] : List Keyword).length + (if ([] : List Keyword).isEmpty then 0 else 1) < 30)) = true
  line : (apos.endLine == cpos.line) = true
  trees : backTo cpos (starEach [e, f] X.env) = [(false, eval e X.env), (false, eval f X.env)]
section
variable {X : Cx} {pins : List (Addr × Obj)} {σ : St} {H : Hp} {s : Shared} {a : Addr} {y d : V} {u r : Value} {o : Option V} {A : Around} {E : Value → Shared → Prop}
end
section
variable {X : Cx} {o e f : Expr} {apos cpos : Pos} {td ty tx : TE}
end
section
variable {X : Cx} {pins : List (Addr × Obj)} {σ : St} {H : Hp} {s : Shared} {a : Addr} {kvs : List (Key × V)} {A : Around} {E : Value → Shared → Prop}
theorem d_copyOf {Q : Value → Shared → Prop} (I : Inv X pins σ H s) (e : Rd H a (.dK kvs)) (h : ∀ p s', H p = none → Inv X pins σ (upd H p (.dK kvs)) s' → Q (.ref p) s') : wpAny (model X.prog X.w) A (call (.type "dict") [.ref a]) Q E s := by
  obtain ⟨z, hd, vs, rel, dd⟩ := dk_rd I.hok e
  refine kt_call_dict hd dd (by rw [← rel.length]; exact z) fun h' dd' hs => ?_
  refine h _ _ (I.hok.fresh (Nat.le_refl _)) (I.laid (a := s.heap.objs.size) (o := .dK kvs) (t' := s.toks) (fun b q hq => ?_) (Nat.le_refl _) (dk_new z (beq_eq_false_iff_ne.mpr (Ne.symm (Nat.ne_of_lt I.big))) rel dd'))
  exact (hs.2 b (Nat.ne_of_lt (Heap.lt_size hq))).trans (Heap.get?_push_of_some _ hq)
end
section
variable {X : Cx} {pins : List (Addr × Obj)} {σ : St} {H : Hp} {s : Shared} {a : Addr} {y : V} {u : Value} {A : Around} {E : Value → Shared → Prop}
end
end L2
namespace Att
open PySem PySem.W PySem.Calls PyProof.Rows
theorem ints_of_wellAll {P : Params} {h : Heap} : ∀ (ns : List Int) (vs : List Value), WellAll P h vs (ns.map WData.int) → IntsAre vs ns := by
  intro ns
  induction ns with
  | nil =>
    intro vs w
    rw [List.map_nil] at w
    cases w
    exact .nil
  | cons n ns ih =>
    intro vs w
    rw [List.map_cons] at w
    cases w with
    | cons a b =>
      cases a
      exact .cons _ _ (ih _ b)
theorem script_of {l : OpenLaw} {n : Nat} (hn : l.most = some n) {P : Params} {h : Heap} {args : List WData} {vals : List Value}
    (hpre : l.row.toRowW.claim.pre args = true) (hwl : WellAll P h vals args) :
    ∃ a vs ns, vals = [Value.ref a] ∧ args = [WData.list (ns.map WData.int)] ∧ h.get? a = some { cls := .type "list", data := .seq vs.toArray } ∧ IntsAre vs ns ∧ ns.length ≤ n := by
  have hsh : WShape.hasAll [] args [.list .int] = true := (pre_splitW hpre).1
  have hc : l.pre.holds [] { args := args } = true := (pre_splitW hpre).2
  obtain ⟨d, r, rfl, h1, h2⟩ := hasAllW_cons hsh
  obtain rfl := hasAllW_nil h2
  obtain ⟨xs, rfl, h3⟩ := hasW_list h1
  obtain ⟨ns, rfl⟩ := items_int h3
  have hlen : ns.length ≤ n := by
    unfold OpenLaw.pre at hc
    have h4 : (WTm.not (.lt (.lit (.int (n : Int))) (.len (.arg 0)))).holds [] { args := [.list (ns.map .int)] } = true := by
      have h4 := (holds_andW hc).1
      rw [hn] at h4
      exact h4
    have h5 := condW_of h4 (w_not (w_lt w_lit (w_len_list (w_arg rfl))))
    rw [List.length_map] at h5
    refine Nat.le_of_not_lt fun q => ?_
    have q' : (n : Int) < ((ns.length : Nat) : Int) := by omega
    first
      | (rw [decide_eq_true q'] at h5; exact absurd h5 (by decide))
      | (simp at h5; omega)
  cases hwl with
  | cons w1 w2 =>
    cases w2
    cases w1 with
    | list ho hall => exact ⟨_, _, ns, rfl, rfl, ho, ints_of_wellAll ns _ hall, hlen⟩
theorem post_true (l : OpenLaw) (args : List WData) : l.row.toRowW.claim.post args (.bool true) args = true :=
  postW_of (r := l.row.toRowW) (X := (true == true))
    (show WShape.has [] (.bool true) .bool = true by first | rfl | decide | simp [WShape.has, WShape.arms, WShape.armsAll])
    (show (WTm.eq .res (.lit (.bool true))).value [] { args := args, res := some (.bool true), after := args } = some (.bool (true == true)) from w_eq_bool (w_res rfl) w_lit) rfl
theorem attach_call {l : OpenLaw} {n : Nat} {q : Program} {loose : List Str} {XP : (Str → Option Value) → Heap → Prop} {YP : World → Heap → Prop} {d : DefRec}
    (hn : l.most = some n) (hdf : d.params.defaults = [])
    (call : ∀ (w : World) (s₀ s₁ : Shared) (mg mb : Str → Option Value) (fa : Addr) (o : Obj) (pm cd doc : Value) (a : Addr) (vs : List Value) (ns : List Int),
      Ground q loose [] XP w s₀ mg mb s₁.heap → YP w s₁.heap →
      s₁.heap.get? fa = some o → o.data = .func (docDef d.name d.params d.body d.scope pm cd doc) → s₁.heap.CodeRec cd d.name → mg d.name = some (.ref fa) →
      s₁.heap.get? a = some { cls := .type "list", data := .seq vs.toArray } → IntsAre vs ns → ns.length ≤ n → s₁.gens = #[] →
      codeAny (model l.prog w) callerA (.call (.ref fa) ⟨[.ref a], []⟩) (fun r s' => r = .ok (.ret (.bool true)) ∧ OldK s₁.heap s'.heap ∧ s'.os = s₁.os ∧ AllBare s'.gens) s₁) :
    WalkO q loose XP YP l.row.toRowW d [] (fun f vs => PySem.call f vs) := by
  intro w s₀ s₁ mg mb G Y fa o pm cd doc dV kV ho hd hcd hD hmg hg args vals as hpre hlay hrd hwl hlo
  obtain rfl : dV = .none := Dflts.none hD hdf
  obtain rfl : kV = .none := Dflts.noKw hD
  obtain ⟨a, vs, ns, rfl, rfl, hobj, hints, hlen⟩ := script_of hn hpre hwl
  refine enter_call (codeAny_mono (call w s₀ s₁ mg mb fa o pm cd doc a vs ns G Y ho (fd_plain hd) hcd hmg hobj hints hlen hg) fun r s' hq => ?_)
  obtain ⟨rfl, h2, h3, h4⟩ := hq
  exact ⟨.inl ⟨.bool true, .bool true, [], rfl, fun _ => rfl, .bool true, post_true l _, fun _ => ⟨List.Pairwise.nil, fun _ hm => (nomatch hm)⟩⟩, h2, h3, h4⟩
section
variable {prog : Program} {w : World} {A : Around} {E : Value → Shared → Prop} {s : Shared} {K : Frag}
end
end Att
namespace L2
open PySem PySem.Spec PyProof.Rows
theorem vals_ints : ∀ {vs : List Value} {ns : List Int}, IntsAre vs ns → Vals (ns.map V.int) vs
  | _, _, .nil => .nil
  | _, _, .cons n t h => .cons ⟨t, rfl⟩ (vals_ints h)
end L2
namespace L2
open PySem PySem.Spec PyProof.Rows
end L2
namespace L2
open PySem PySem.Spec PyProof.Rows
def defArgs (s : Stmt) : Arguments := match s with
  | .FunctionDef _ a _ _ _ _ _ _ _ _ => a
  | _ => { posonlyargs := [], args := [], vararg := none, kwonlyargs := [], kw_defaults := [], kwarg := none, defaults := [] }
def defBody (s : Stmt) : List Stmt := match s with
  | .FunctionDef _ _ b _ _ _ _ _ _ _ => b
  | _ => []
def defScope (s : Stmt) : Scope := match s with
  | .FunctionDef _ _ _ _ _ _ sc _ _ _ => sc
  | _ => { kind := .function, names := [], isGenerator := false, isCoroutine := false }
abbrev CX0 : CXT := fun _ _ _ _ _ _ => False
abbrev E0 : XK := fun _ _ _ => False
theorem pass0 {X : Cx} : Passes CX0 X E0 := fun _ _ _ _ _ _ _ h => h.elim
structure Fun (K : PySem.W.Frag) (x qual : Str) (st : Stmt) (f : Addr) (fd : FuncData) : Prop where
  ex : ∃ (oc : Value) (od : Option Addr) (kV doc pm : Value) (an : Option Addr) (cdv ct : Value) (osl : Array (Option Value)),
    fd = PySem.W.fnOf x qual (defArgs st) (defBody st) (defScope st) .none kV doc pm an cdv ct ∧ K.lookup f = some ⟨oc, od, .func fd, osl⟩ ∧ PySem.W.codeIn K cdv qual = true
  kp : PySem.W.keepIn K (.ref f) = true
section
variable {P : Program} {w : World} {K : PySem.W.Frag} {mg : Str → Option Value} {base : Heap}
theorem Fun.ok {x qual : Str} {st : Stmt} {f : Addr} {fd : FuncData} {N ps : List Str} {k : Nat} {sp : Sp} (F : Fun K x qual st f fd) (S : FnScope N ps (defScope st)) (len : ∀ vs H Q E, sp vs H Q E → vs.length = ps.length)
    (hbody : ∀ (cdv : Value) (A : Around) (outer : List Env) (s : Shared) (H : Hp) (vs : List V) (Q : VK) (E : XK), Room k (A.deeper (envOfC qual (defScope st) s.heap.objs.size f cdv)) → sp vs H Q E →
      ∃ t, PSs (cxOf CX0 P w K mg base N qual (defScope st) f cdv A outer s H E).nox (defBody st) t ∧ t { nx := fun _ H' => Q .non H', rt := Q } (start N vs) H) : FnOk P w K mg base CX0 (k + 1) f fd ps sp := by
  obtain ⟨oc, od, kV, doc, pm, an, cdv, ct, osl, rfl, lk, hcd⟩ := F.ex
  refine fn_of lk hcd S len fun A outer s H vs Q E hr hsp => ?_
  obtain ⟨t, h, q⟩ := hbody cdv A outer s H vs Q E hr hsp
  exact ⟨t, h.nox, q⟩
theorem Fun.binds {x qual : Str} {st : Stmt} {f : Addr} {fd : FuncData} {ps : List Str} (F : Fun K x qual st f fd)
    (h : ∀ (kV doc pm : Value) (an : Option Addr) (cdv ct : Value) (us : List Value), us.length = ps.length → bindArgs (PySem.W.fnOf x qual (defArgs st) (defBody st) (defScope st) .none kV doc pm an cdv ct) ⟨us, []⟩ = pure (ps.zip us)) : Binds K fd ps [] := by
  obtain ⟨oc, od, kV, doc, pm, an, cdv, ct, osl, rfl, lk, hcd⟩ := F.ex
  exact .all (h kV doc pm an cdv ct)
theorem fun_mk {x qual : Str} {st : Stmt} {f : Addr} {oc : Value} {od an : Option Addr} {osl : Array (Option Value)} {kV doc pm cdv ct : Value} (l : K.lookup f = some ⟨oc, od, .func (PySem.W.fnOf x qual (defArgs st) (defBody st) (defScope st) .none kV doc pm an cdv ct), osl⟩)
    (c : PySem.W.codeIn K cdv qual = true) (k : PySem.W.keepIn K (.ref f) = true) : Fun K x qual st f (PySem.W.fnOf x qual (defArgs st) (defBody st) (defScope st) .none kV doc pm an cdv ct) := ⟨⟨oc, od, kV, doc, pm, an, cdv, ct, osl, rfl, l, c⟩, k⟩
end
theorem small1000 {n : Nat} (h : n ≤ 1000) : n < sizeLine := Nat.lt_of_le_of_lt h (by decide)
section
variable {X : Cx}
theorem pv (i : Nat) {x : Str} {pos : Pos} (hN : X.N[i]? = some x := by rfl) (hv : Vis X.env.scope x := by first | exact Or.inl rfl | exact Or.inr (Or.inl rfl) | exact Or.inr (Or.inr rfl)) (hd : (x == ("__debug__" : Str)) = false := by decide)
    (hcd : (x == ("__classdict__" : Str)) = false := by decide) : PE X (.Name x pos) (tVar i) := pe_var hN hv hd hcd
end
theorem iteF {A B : Prop} (h : B) : if false = true then A else B := by
  rw [if_neg Bool.false_ne_true]
  exact h
theorem iteT {A B : Prop} (h : A) : if true = true then A else B := by
  rw [if_pos rfl]
  exact h
def Same (H H' : Hp) : Prop := ∀ b o, H b = some o → H' b = some o
theorem Same.refl (H : Hp) : Same H H := fun _ _ h => h
theorem Same.trans {H H1 H2 : Hp} (a : Same H H1) (b : Same H1 H2) : Same H H2 := fun c o h => b c o (a c o h)
theorem Same.free {H H' : Hp} (e : Same H H') {l : Addr} (h : H' l = Option.none) : H l = Option.none := by
  cases q : H l with
  | none => rfl
  | some o =>
    rw [e l o q] at h
    cases h
theorem Same.seq {K : PySem.W.Frag} {H H' : Hp} {a : Addr} {xs : List V} (e : Same H H') (h : SqL K H a xs) : SqL K H' a xs := by
  rcases h with (h | ⟨o, h⟩) | h
  · exact .inl (.inl (e _ _ h))
  · exact .inl (.inr ⟨o, e _ _ h⟩)
  · exact .inr h
section
variable {κ : Type} [DecidableEq κ]
theorem valV_not {kvs : List (κ × V)} {k : κ} (h : valV kvs k = none) : ¬ k ∈ kvs.map (·.1) := by
  intro m
  obtain ⟨p, hp, e⟩ := List.mem_map.mp m
  have q : (kvs.any fun kv => decide (kv.1 = k)) = true := List.any_eq_true.mpr ⟨p, hp, decide_eq_true e⟩
  rw [valV_any, h] at q
  exact absurd q (by simp)
theorem nd_snoc : ∀ {l : List κ} {k : κ}, l.Nodup → ¬ k ∈ l → (l ++ [k]).Nodup
  | [], k, _, _ => by simp
  | a :: r, k, h, hk => by
    obtain ⟨h1, h2⟩ := List.nodup_cons.mp h
    show (a :: (r ++ [k])).Nodup
    refine List.nodup_cons.mpr ⟨fun m => ?_, nd_snoc h2 fun m => hk (List.mem_cons.mpr (Or.inr m))⟩
    rcases List.mem_append.mp m with q | q
    · exact h1 q
    · exact hk (List.mem_cons.mpr (Or.inl (List.mem_singleton.mp q).symm))
theorem nd_putK {kvs : List (κ × V)} {k : κ} (v : V) (hn : (kvs.map (·.1)).Nodup) (h : valV kvs k = none) : ((putK kvs k v).map (·.1)).Nodup := by
  rw [putK_new v h, List.map_append]
  exact nd_snoc hn (valV_not h)
end
end L2
namespace L2
open PySem PySem.Spec PyProof.Rows
section
variable {X : Cx}
def CDivB (_ j : Int) : Prop := 0 < j ∧ j < 2 ^ 200
theorem noPy {i j : Int} (h : CDivB i j) : Builtin.divisionGoesByPylong i j = false := by
  refine PyProof.noPylong_of_log2 ?_
  obtain ⟨h1, h2⟩ := h
  have h0 : j.natAbs ≠ 0 := by omega
  have h3 : j.natAbs < 2 ^ 200 := by omega
  have := (Nat.log2_lt h0).mpr h3
  omega
theorem op_fdivB : OpR X (binaryOp .FloorDiv) (rI CDivB fun i j => .int (i / j)) := opI fun i j _ _ _ _ _ hc q => by
  have h1 : (0 : Int) < j := hc.1
  exact floordiv_int (by omega) (by rw [Int.fdiv_eq_ediv_of_nonneg i (by omega)]; exact q) (.inl (noPy hc))
inductive ClsV : V → Value → Prop where
  | ty (n : String) : ClsV (.ty n) (.type n)
  | ref (C : Addr) : ClsV (.ref C) (.ref C)
theorem call_isinst : CallR X (.builtin "isinstance") (fun xs H Q => ∃ x y c t b, xs = [x, y] ∧ ClsV y c ∧ TyOf X.K H x t ∧ PySem.W.kitOne X.K t c = some b ∧ Q (.bl b) H) := by
  intro pins s σ H xs us Q I r h
  obtain ⟨x, y, c, t, b, rfl, hy, ty, e, q⟩ := h
  obtain ⟨u, w', rfl, rx, ry⟩ := vals2 r
  cases hy with
  | ty n =>
    cases (show w' = Value.type n from ry)
    exact isinst_ok I rx ty e fun tk => ⟨.bl b, H, I.tok _, rfl, q⟩
  | ref C =>
    cases (show w' = Value.ref C from ry)
    exact isinst_ok I rx ty e fun tk => ⟨.bl b, H, I.tok _, rfl, q⟩
end
theorem compLoop_go {prog : Program} {w : World} {A : Around} {R : Result → Shared → Prop} {s : Shared} {elt target iter : Expr} {ifs : List Expr} {scope : Scope} {pos : Pos} {it acc : Value} {env : Env} (I : Nat → Shared → Prop) (E : Value → Shared → Prop)
    (hE : ∀ e s', E e s' → notedBy (model prog w) A env (fun e s' => R (.error e) s') e s')
    (turn : ∀ n s, I n s → wpAny (model prog w) A (pyNext it) (fun r s₁ => match r with
      | none => R (.ok .next) s₁
      | some v => wpAny (model prog w) A (letOwnedTupleGo target it v) (fun _ s₁' => wpAny (model prog w) A (assign target env v) (fun _ s₂ =>
          wpAny (model prog w) A (forIn ifs true fun c r => if r = true then do let ok ← isTrue c env (eval c env); pure (ForInStep.yield ok) else pure (ForInStep.yield r)) (fun ok s₃ =>
            if ok = true then wpAny (model prog w) A (eval elt env) (fun x s₄ =>
              wpAny (model prog w) A (call (.builtin "list.append") [acc, x]) (fun _ s₅ => ∃ m, m < n ∧ I m s₅) E s₄) E s₃
            else ∃ m, m < n ∧ I m s₃) E s₂) E s₁') E s₁) E s)
    (n : Nat) (h : I n s) : codeAny (model prog w) A (.compLoop (.ListComp elt [⟨target, iter, ifs, 0⟩] scope pos) 0 it acc env) R s := by
  refine codeAny_loop rfl I (fun n s hI => ?_) n h
  show wpAny _ A ((compTurn (.ListComp elt [⟨target, iter, ifs, 0⟩] scope pos) 0 it acc env).onRaise (fun x => do noteFrame x env; theTreesLotGoes x)) _ _ s
  refine wpAny_noted ?_
  rw [compTurn_list]
  refine wpAny_bind (wpAny_standAt (wpAny_bind (wpAny_mono (turn n s hI) (fun r s₁ h₁ => ?_) hE)))
  cases r with
  | none => exact wpAny_pure h₁
  | some v =>
    refine wpAny_bind (wpAny_mono h₁ (fun _ s₁' h₁' => ?_) hE)
    refine wpAny_bind (wpAny_mono h₁' (fun _ s₂ h₂ => wpAny_bind (wpAny_mono h₂ (fun ok s₃ h₃ => ?_) hE)) hE)
    cases ok with
    | false => exact wpAny_pure ⟨rfl, h₃⟩
    | true =>
      exact wpAny_bind (wpAny_bind (wpAny_mono h₃ (fun x s₄ h₄ => wpAny_bind (wpAny_mono h₄ (fun _ s₅ h₅ => wpAny_pure (wpAny_pure ⟨rfl, h₅⟩)) hE)) hE))
theorem closure_key {env : Env} : ∀ (names : List (Str × NameKind)) (acc : List (Str × Addr)), (∀ y ∈ names, y.2 = .free → ∃ c, env.cells.lookup y.1 = some c) → (∀ x c, acc.lookup x = some c → env.cells.lookup x = some c) →
    ∃ cl, (forIn names acc (fun (x : Str × NameKind) (r : List (Str × Addr)) => (if (x.2 == NameKind.free) = true then (do let a ← cellOf env x.1; pure (ForInStep.yield ((x.1, a) :: r))) else pure (ForInStep.yield r) : Sem (ForInStep (List (Str × Addr)))))) = (pure cl : Sem (List (Str × Addr))) ∧
      (∀ x c, cl.lookup x = some c → env.cells.lookup x = some c) ∧ (∀ x c, acc.lookup x = some c → ∃ c', cl.lookup x = some c') ∧ ∀ y ∈ names, y.2 = .free → ∃ c, cl.lookup y.1 = some c
  | [], acc, _, ha => ⟨acc, rfl, ha, fun x c e => ⟨c, e⟩, fun _ h => nomatch h⟩
  | (n, k) :: r, acc, hf, ha => by
    have hf' : ∀ y ∈ r, y.2 = .free → ∃ c, env.cells.lookup y.1 = some c := fun y hy => hf y (List.mem_cons_of_mem _ hy)
    by_cases hk : k = .free
    · subst hk
      obtain ⟨c, hc⟩ := hf (n, .free) List.mem_cons_self rfl
      have hc' : env.cells.lookup n = some c := hc
      have ha' : ∀ x d, ((n, c) :: acc).lookup x = some d → env.cells.lookup x = some d := fun x d e => by
        rw [List.lookup_cons] at e
        cases hx : x == n with
        | true => rw [hx] at e; cases e; rw [beq_iff_eq.mp hx]; exact hc'
        | false => rw [hx] at e; exact ha x d e
      obtain ⟨cl, e, h1, h2, h3⟩ := closure_key r ((n, c) :: acc) hf' ha'
      have hself : ((n, c) :: acc).lookup n = some c := by rw [List.lookup_cons, beq_self_eq_true]
      refine ⟨cl, ?_, h1, fun x d ex => ?_, fun y hy hyf => ?_⟩
      · rw [List.forIn_cons]
        have ec : cellOf env n = pure c := by unfold cellOf; rw [hc']
        show ((if (NameKind.free == NameKind.free) = true then (do let a ← cellOf env n; pure (ForInStep.yield ((n, a) :: acc))) else pure (ForInStep.yield acc) : Sem _) >>= _) = _
        rw [if_pos (by decide), ec]
        exact e
      · cases hx : x == n with
        | true => rw [beq_iff_eq.mp hx]; exact h2 n c hself
        | false => exact h2 x d (by rw [List.lookup_cons, hx]; exact ex)
      · rcases List.mem_cons.mp hy with rfl | hy
        · exact h2 n c hself
        · exact h3 y hy hyf
    · obtain ⟨cl, e, h1, h2, h3⟩ := closure_key r acc hf' ha
      refine ⟨cl, ?_, h1, h2, fun y hy hyf => ?_⟩
      · rw [List.forIn_cons]
        show ((if (k == NameKind.free) = true then (do let a ← cellOf env n; pure (ForInStep.yield ((n, a) :: acc))) else pure (ForInStep.yield acc) : Sem _) >>= _) = _
        rw [if_neg (by simpa using hk)]
        exact e
      · rcases List.mem_cons.mp hy with rfl | hy
        · exact absurd hyf hk
        · exact h3 y hy hyf
theorem closure_ok {scope : Scope} {env : Env} (h : ∀ y ∈ scope.names, y.2 = .free → ∃ c, env.cells.lookup y.1 = some c) :
    ∃ cl, closureFor scope env = pure cl ∧ (∀ x c, cl.lookup x = some c → env.cells.lookup x = some c) ∧ ∀ y ∈ scope.names, y.2 = .free → ∃ c, cl.lookup y.1 = some c := by
  obtain ⟨cl, e, h1, _, h3⟩ := closure_key (env := env) scope.names [] h (fun x c e => nomatch e)
  refine ⟨cl, ?_, h1, h3⟩
  have e0 : closureFor scope env = ((forIn scope.names [] (fun (x : Str × NameKind) (r : List (Str × Addr)) => (if (x.2 == NameKind.free) = true then (do let a ← cellOf env x.1; pure (ForInStep.yield ((x.1, a) :: r))) else pure (ForInStep.yield r) : Sem (ForInStep (List (Str × Addr)))))) >>= fun r => pure r) := rfl
  rw [e0, e]
  rfl
theorem relabel_free {env : Env} (hf : env.scope.kind = .function) : ∀ {names : List (Str × NameKind)} {x : Str}, names.lookup x = some .free → env.kindOf x = some .cell →
    (names.map fun (n, k) => if (k == NameKind.free && env.scope.kind == .function && env.kindOf n == some .cell) then (n, NameKind.cell) else (n, k)).lookup x = some .cell
  | [], _, h, _ => by simp at h
  | (n, k) :: r, x, h, hc => by
    have ih := @relabel_free env hf r x
    show List.lookup x ((if (k == NameKind.free && env.scope.kind == .function && env.kindOf n == some .cell) = true then (n, NameKind.cell) else (n, k)) :: _) = _
    cases hx : x == n with
    | true =>
      simp only [List.lookup_cons, hx] at h
      cases h
      have e : x = n := beq_iff_eq.mp hx
      subst e
      rw [if_pos (by rw [hf, hc]; decide)]
      simp only [List.lookup_cons, hx]
    | false =>
      simp only [List.lookup_cons, hx] at h
      by_cases hq : (k == NameKind.free && env.scope.kind == .function && env.kindOf n == some .cell) = true
      · rw [if_pos hq]; simp only [List.lookup_cons, hx]; exact ih h hc
      · rw [if_neg hq]; simp only [List.lookup_cons, hx]; exact ih h hc
theorem relabel_back {env : Env} : ∀ {names : List (Str × NameKind)} {x : Str} {k : NameKind},
    (names.map fun (n, k) => if (k == NameKind.free && env.scope.kind == .function && env.kindOf n == some .cell) then (n, NameKind.cell) else (n, k)).lookup x = some k → ∃ k0, names.lookup x = some k0 ∧ (k = k0 ∨ k0 = .free)
  | [], _, _, h => by simp at h
  | (n, k1) :: r, x, k, h => by
    have h : List.lookup x ((if (k1 == NameKind.free && env.scope.kind == .function && env.kindOf n == some .cell) = true then (n, NameKind.cell) else (n, k1)) :: (r.map fun (n, k) => if (k == NameKind.free && env.scope.kind == .function && env.kindOf n == some .cell) then (n, NameKind.cell) else (n, k))) = some k := h
    cases hx : x == n with
    | true =>
      by_cases hq : (k1 == NameKind.free && env.scope.kind == .function && env.kindOf n == some .cell) = true
      · have : k1 = .free := by
          rw [Bool.and_eq_true, Bool.and_eq_true] at hq
          simpa using hq.1.1
        exact ⟨k1, by simp only [List.lookup_cons, hx], .inr this⟩
      · rw [if_neg hq] at h
        simp only [List.lookup_cons, hx] at h
        exact ⟨k1, by simp only [List.lookup_cons, hx], .inl (Option.some.inj h).symm⟩
    | false =>
      have h' : (r.map fun (n, k) => if (k == NameKind.free && env.scope.kind == .function && env.kindOf n == some .cell) then (n, NameKind.cell) else (n, k)).lookup x = some k := by
        by_cases hq : (k1 == NameKind.free && env.scope.kind == .function && env.kindOf n == some .cell) = true
        · rw [if_pos hq] at h; simp only [List.lookup_cons, hx] at h; exact h
        · rw [if_neg hq] at h; simp only [List.lookup_cons, hx] at h; exact h
      obtain ⟨k0, e, z⟩ := relabel_back h'
      exact ⟨k0, by simp only [List.lookup_cons, hx]; exact e, z⟩
def cxComp (X : Cx) (N : List Str) (scope : Scope) (cl : List (Str × Addr)) (C : Addr) (s : Shared) (H : Hp) (fp : List Addr) : Cx :=
  { X with N := N, s₀ := s, H₀ := H, env := compEnvC scope cl C X.env, outer := X.stack, ex := fp, fn := fun _ => false, pn := [], xe := fun _ _ => False }
structure CompOk (X : Cx) (scope : Scope) (ls ys : List Str) (ix : List Nat) : Prop where
  kind : scope.kind = .function
  nocellB : (scope.names.all fun y => y.2 != .cell) = true
  locB : (scope.names.all fun y => y.2 != .local || scope.names.lookup y.1 == some .local) = true
  freeB : (scope.names.all fun y => y.2 != .free || X.env.kindOf y.1 == some .cell) = true
  ylkB : (ys.all fun y => scope.names.lookup y == some .free) = true
  yix : ix.map (fun j => X.N[j]?) = ys.map some
section
variable {X : Cx} {scope : Scope} {ls ys : List Str} {ix : List Nat}
theorem CompOk.nocell (ok : CompOk X scope ls ys ix) : ∀ y ∈ scope.names, y.2 ≠ .cell := fun y hy => by
  simpa using List.all_eq_true.mp ok.nocellB y hy
theorem CompOk.loc (ok : CompOk X scope ls ys ix) : ∀ y ∈ scope.names, y.2 = .local → scope.names.lookup y.1 = some .local := fun y hy e => by
  have h := List.all_eq_true.mp ok.locB y hy
  rw [e] at h
  simpa using h
theorem CompOk.free (ok : CompOk X scope ls ys ix) : ∀ y ∈ scope.names, y.2 = .free → X.env.kindOf y.1 = some .cell := fun y hy e => by
  have h := List.all_eq_true.mp ok.freeB y hy
  rw [e] at h
  simpa using h
theorem CompOk.ylk (ok : CompOk X scope ls ys ix) : ∀ y ∈ ys, scope.names.lookup y = some .free := fun y hy => by
  simpa using List.all_eq_true.mp ok.ylkB y hy
end
def inSt (n : Nat) (ix : List Nat) (σ : St) : St := List.replicate n none ++ ix.map fun j => (σ[j]?).join
section
variable {X : Cx} {pins : List (Addr × Obj)} {σ : St} {H : Hp} {s : Shared} {scope : Scope} {ls ys : List Str} {ix : List Nat} {cl : List (Str × Addr)} {fp : List Addr}
theorem comp_in {h₁ : Heap} {tk : Nat} {m : Str → Option Value} (I : Inv X pins σ H s) (ok : CompOk X scope ls ys ix) (hcl1 : ∀ x c, cl.lookup x = some c → X.env.cells.lookup x = some c)
    (hcl2 : ∀ y ∈ scope.names, y.2 = .free → ∃ c, cl.lookup y.1 = some c) (f3 : ∀ b ∈ fp, FpOk X pins H b) (hob : ∀ b ∈ fp, b < s.heap.objs.size)
    (hns : h₁.Ns s.heap.objs.size m) (hk : ∀ b o, s.heap.get? b = some o → h₁.get? b = some o) :
    Inv (cxComp X (ls ++ ys) scope cl s.heap.objs.size s H fp) [] (inSt ls.length ix σ) H { s with heap := h₁, toks := tk } := by
  have hfree : ∀ x, scope.names.lookup x = some .free → X.env.kindOf x = some .cell := fun x e => ok.free (x, .free) (PySem.mem_of_lookup e) rfl
  refine ⟨⟨I.ok.mod, ok.kind, I.ok.glob, I.ok.blt, Nat.le_refl _, fun x y c h1 h2 => I.ok.inj x y c (hcl1 x c h1) (hcl1 y c h2), fun x hx => ?_, fun x c hx _ => absurd hx Bool.false_ne_true, I.ok.hd, I.ok.frames, .inl rfl,
    fun b hb => ⟨Nat.ne_of_lt (hob b hb), fun x c e => (f3 b hb).2.2.2.2.1 x c (hcl1 x c e)⟩, I.bs, Nat.le_trans I.ok.bsz I.sz, fun b o e hb => ?_, fun b hb z => ?_, I.stack, I.stkFree⟩,
    rfl, I.bare, Un.kept hk, ⟨m, hns, fun i x v h1 h2 h3 => ?_⟩, fun x c e => ?_, I.fresh, fun x c e => I.freeC x c (hcl1 x c e), fun p hp => absurd (show p ∈ ([] : List (Addr × Obj)) from hp) (by simp), I.hok.kept hk, ?_⟩
  · have e : ∃ k, (relabel scope X.env).names.lookup x = some k ∧ (k = .cell ∨ k = .free) := by
      rcases hx with hx | hx
      · exact ⟨_, hx, .inl rfl⟩
      · exact ⟨_, hx, .inr rfl⟩
    obtain ⟨k, e, hkk⟩ := e
    obtain ⟨k0, e0, z⟩ := relabel_back e
    have hm := PySem.mem_of_lookup e0
    have hk0 : k0 = .free := by
      rcases z with z | z
      · rcases hkk with q | q
        · exact absurd (z.symm.trans q) (ok.nocell _ hm)
        · exact z.symm.trans q
      · exact z
    exact hcl2 _ hm hk0
  · obtain ⟨q1, q2, q3, q4, _⟩ := f3 b hb
    rcases q4 with q4 | q4
    · exact I.ok.noex b o e q4
    · exact absurd (Nat.lt_of_lt_of_le (Heap.lt_size e) (Nat.le_trans I.ok.bsz q4)) (Nat.lt_irrefl _)
  · rcases List.mem_cons.mp (I.stkSub b z) with q | q
    · exact (f3 b hb).2.1 q
    · exact (f3 b hb).2.2.1 q
  · have h1 : (ls ++ ys)[i]? = some x := h1
    have h2 : (List.replicate ls.length none ++ ix.map fun j => (σ[j]?).join)[i]? = some (some v) := h2
    by_cases hi : i < ls.length
    · rw [List.getElem?_append_left (by rw [List.length_replicate]; exact hi), List.getElem?_replicate, if_pos hi] at h2
      cases h2
    · rw [List.getElem?_append_right (by rw [List.length_replicate]; omega), List.length_replicate, List.getElem?_map] at h2
      rw [List.getElem?_append_right (by omega)] at h1
      cases e : ix[i - ls.length]? with
      | none => rw [e] at h2; cases h2
      | some j =>
        rw [e] at h2
        have h2 : (σ[j]?).join = some v := Option.some.inj h2
        have hσ : σ[j]? = some (some v) := by
          cases q : σ[j]? with
          | none => rw [q] at h2; cases h2
          | some z => rw [q] at h2; exact congrArg some h2
        have hN : X.N[j]? = some x := by
          have q := congrArg (fun l => l[i - ls.length]?) ok.yix
          simp only [List.getElem?_map, e, h1, Option.map_some] at q
          exact Option.some.inj q
        have hl := ok.ylk x (List.mem_of_getElem? h1)
        have hc := hfree x hl
        obtain ⟨m', hn', hl'⟩ := I.loc
        obtain ⟨u, r, lk⟩ := hl' j x v hN hσ (.inr (.inl hc))
        refine ⟨u, r, ?_⟩
        rcases lk with ⟨lk, _⟩ | ⟨_, c, ec, z⟩
        · rw [hc] at lk; cases lk
        · obtain ⟨c', ec'⟩ := hcl2 _ (PySem.mem_of_lookup hl) rfl
          have ec2 : X.env.cells.lookup x = some c' := hcl1 x c' ec'
          rw [ec] at ec2
          cases ec2
          exact .inr ⟨.inl (relabel_free I.ok.kind hl hc), c, ec', z.keeps hk⟩
  · obtain ⟨v, z⟩ := I.cell x c (hcl1 x c e)
    exact ⟨v, z.keeps hk⟩
  · show (List.replicate ls.length none ++ ix.map fun j => (σ[j]?).join).length = (ls ++ ys).length
    have q := congrArg List.length ok.yix
    rw [List.length_map, List.length_map] at q
    rw [List.length_append, List.length_append, List.length_replicate, List.length_map, q]
end
def PF (X : Cx) (ifs : List Expr) (t : TT) : Prop :=
  ∀ (pins : List (Addr × Obj)) (s : Shared) (σ : St) (H : Hp) (Q : Bool → Hp → Prop), Inv X pins σ H s → t σ H Q →
    wpAny (model X.prog X.w) X.A (forIn ifs true fun c r => if r = true then do let ok ← isTrue c X.env (eval c X.env); pure (ForInStep.yield ok) else pure (ForInStep.yield r)) (TP X pins σ Q) X.xe s
def tYes : TT := fun _ H Q => Q true H
theorem pf_nil {X : Cx} : PF X [] tYes := fun _ _ _ H _ I h => wpAny_tests_nil ⟨H, I, h⟩
theorem pf_one {X : Cx} {c : Expr} {t : TT} (h : PT X c t) : PF X [c] t := fun pins s σ H Q I hw => wpAny_tests_one (h pins s σ H Q I hw)
def lcW (σ0 : St) (g : TG) (tt : TT) (te : TE) (J : It) (H1 : Hp) (D : Addr) (Q : Hp → Prop) : Prop :=
  ∃ W : Nat → Nat → St → Hp → Prop, (∃ m, W 0 m σ0 (upd H1 D (.lst []))) ∧ ∀ i m τ H, W i m τ H →
    (J.stop i H ∧ Q H) ∨ (J.go i H ∧ ∃ N : St → Hp → Prop, (∀ τ' H', N τ' H' → ∃ m', m' < m ∧ W (i + 1) m' τ' H') ∧ ∀ x H', J.yld i H x H' → g x τ H' fun τ2 H2 => tt τ2 H2 fun b H3 =>
      if b = true then te τ2 H3 fun v H4 => ∃ acc, H4 D = some (.lst acc) ∧ acc.length < sizeLine ∧ N τ2 (upd H4 D (.lst (acc ++ [v]))) else N τ2 H3)
def tLc (wi : TI) (n : Nat) (ix : List Nat) (g : TG) (tt : TT) (te : TE) : TE := fun σ H Q => wi σ H fun J H1 => ∀ D, H1 D = none → lcW (inSt n ix σ) g tt te J H1 D fun H' => Q (.ref D) H'
def tLcSet (wi : TI) (n : Nat) (ix : List Nat) (g : TG) (tt : TT) (te : TE) (i : Nat) : TS := fun D σ H => tLc wi n ix g tt te σ H fun x H1 => D.nx (σ.set i (some x)) H1
section
variable {X : Cx} {scope : Scope} {ls ys : List Str} {ix : List Nat} {tg iter elt : Expr} {ifs : List Expr} {pos : Pos} {wi : TI} {g : TG} {tt : TT} {te : TE}
theorem comp_run {pins : List (Addr × Obj)} {σ : St} {H1 : Hp} {s : Shared} {J : It} {it : Addr} {fp : List Addr} {tn : Nat → Heap → Prop} {cl : List (Str × Addr)} {Q : Addr → Hp → Prop} {R : Value → Addr → Result → Shared → Prop} {E : Value → Shared → Prop} (hc : X.calm = true)
    (ok : CompOk X scope ls ys ix) (I : Inv X pins σ H1 s) (T : Turn X.prog X.w X.K tg J fp it tn) (st : tn 0 s.heap) (f2 : ∀ b ∈ fp, FpOk X pins H1 b)
    (hcl1 : ∀ x c, cl.lookup x = some c → X.env.cells.lookup x = some c) (hcl2 : ∀ y ∈ scope.names, y.2 = .free → ∃ c, cl.lookup y.1 = some c)
    (hg : ∀ cl C s H fp, PG (cxComp X (ls ++ ys) scope cl C s H fp) tg g) (ht : ∀ cl C s H fp, PF (cxComp X (ls ++ ys) scope cl C s H fp) ifs tt) (he : ∀ cl C s H fp, PE (cxComp X (ls ++ ys) scope cl C s H fp) elt te)
    (hJ : ∀ D, H1 D = none → lcW (inSt ls.length ix σ) g tt te J H1 D (Q D))
    (hR : ∀ D C H' s', Q D H' → Inv X pins σ H' s' → H' C = none → FpOk X pins H' C → (∃ m, s'.heap.Ns C m) → R (.ref D) C (.ok .next) s') :
    wpAny (model X.prog X.w) X.A (newList []) (fun acc s₃ => wpAny (model X.prog X.w) X.A (newFunctionEnv scope X.env.globals cl [] X.env.qual none .none (some X.env)) (fun cenv s₄ =>
      codeAny (model X.prog X.w) X.A (.compStart (.ListComp elt [⟨tg, iter, ifs, 0⟩] scope pos) 0 (.ref it) acc { cenv with scope := relabel scope X.env }) (R acc cenv.locals) s₄) E s₃) E s := by
  have hfp : ∀ b ∈ fp, b < s.heap.objs.size := fun b hb => by
    obtain ⟨o, e, _⟩ := T.obj _ _ st b hb
    exact Heap.lt_size e
  have I3 := I.lnew (ys := []) (its := []) (t' := s.toks) .nil (Nat.zero_le _)
  have hD : H1 s.heap.objs.size = none := I.fresh
  obtain ⟨W, ⟨m0, w0⟩, turn⟩ := hJ s.heap.objs.size hD
  refine wpAny_newObj_type (wpAny_newFunctionEnv ok.nocell (by intro y hy; simp at hy) (fun h₁ hns hsb => ?_) ok.kind)
  generalize hs3 : ({ s with heap := s.heap.push { cls := .type "list", data := .seq ([] : List Value).toArray }, toks := s.toks } : Shared) = s3 at I3
  have e3 : s.heap.push { cls := .type "list", dict := none, data := .seq ([] : List Value).toArray } = s3.heap := by rw [← hs3]
  have e3' : ({ s with heap := s.heap.push { cls := .type "list", dict := none, data := .seq ([] : List Value).toArray } } : Shared) = s3 := by rw [← hs3]
  generalize hH3 : upd H1 s.heap.objs.size (.lst []) = H3 at I3 w0
  have hsz : s3.heap.objs.size = s.heap.objs.size + 1 := by rw [← e3, Heap.size_push]
  have up3 : ∀ b o, s.heap.get? b = some o → s3.heap.get? b = some o := fun b o e => by rw [← e3]; exact Heap.get?_push_of_some _ e
  have f3 : ∀ b ∈ fp, FpOk X pins H3 b := fun b hb => by
    refine ⟨?_, (f2 b hb).2⟩
    rw [← hH3, upd_ne (Nat.ne_of_lt (hfp b hb))]
    exact (f2 b hb).1
  have hns : h₁.Ns s3.heap.objs.size (fun x => ([] : List (Str × Value)).reverse.lookup x) := by rw [← e3]; exact hns
  have hsb : Heap.SameBut s3.heap.objs.size (s3.heap.push { cls := .type (if (some X.env).isSome then "dict" else "frame"), data := .dict #[] }) h₁ := by rw [← e3]; exact hsb
  have up4 : ∀ b o, s3.heap.get? b = some o → h₁.get? b = some o := fun b o e => hsb.extBut b o (Nat.ne_of_lt (Heap.lt_size e)) (Heap.get?_push_of_some _ e)
  have Ic := comp_in (tk := s3.toks) I3 ok hcl1 hcl2 f3 (fun b hb => by rw [hsz]; exact Nat.lt_succ_of_lt (hfp b hb)) hns up4
  have stat : ∀ {H' : Hp} {pl : List (Addr × Obj)}, (∀ b ∈ fp, H' b = none) → pl = [] → ∀ b ∈ fp, FpOk (cxComp X (ls ++ ys) scope cl s3.heap.objs.size s3 H3 fp) pl H' b := fun {H' pl} hn hpl b hb => by
    subst hpl
    refine ⟨hn b hb, Nat.ne_of_lt (by rw [show (cxComp X (ls ++ ys) scope cl s3.heap.objs.size s3 H3 fp).env.locals = s3.heap.objs.size from rfl, hsz]; exact Nat.lt_succ_of_lt (hfp b hb)), Ic.ok.exfs b hb, .inl hb, fun x c e => (f3 b hb).2.2.2.2.1 x c (hcl1 x c e), fun p hp => absurd (show p ∈ ([] : List (Addr × Obj)) from hp) (by simp)⟩
  have loop : codeAny (model X.prog X.w) X.A (.compLoop (.ListComp elt [⟨tg, iter, ifs, 0⟩] scope pos) 0 (.ref it) (.ref s.heap.objs.size) (compEnvC scope cl s3.heap.objs.size X.env)) (R (.ref s.heap.objs.size) s3.heap.objs.size) { s3 with heap := h₁, toks := s3.toks } := by
    refine compLoop_go (fun n s' => ∃ i τ H', Inv (cxComp X (ls ++ ys) scope cl s3.heap.objs.size s3 H3 fp) [] τ H' s' ∧ tn i s'.heap ∧ (∀ b ∈ fp, H' b = none) ∧ W i n τ H') (fun _ _ => False) (fun _ _ h => h.elim) ?_ m0
      ⟨0, inSt ls.length ix σ, H3, Ic, T.keep _ _ _ st (fun b _ o e => up4 b o (up3 b o e)), fun b hb => (f3 b hb).1, w0⟩
    rintro n s4 ⟨i, τ, H4, I4, st4, fr4, w4⟩
    rcases turn i n τ H4 w4 with ⟨stop, qn⟩ | ⟨go, N, hN, step⟩
    · refine thn (T.done (cxComp X (ls ++ ys) scope cl s3.heap.objs.size s3 H3 fp) rfl rfl rfl hc i [] s4 τ H4 (fun _ _ => False) I4 (stat fr4 rfl) st4 stop) fun r s5 ⟨hr, I5⟩ => ?_
      subst hr
      have Io : Inv X pins σ H4 s5 := I3.call' (ch := fp) I5.os I5.base I5.hok I5.bare fun b hb => ⟨(f3 b hb).2.2.2.1, (f3 b hb).2.1, (f3 b hb).2.2.2.2.1, (f3 b hb).2.2.2.2.2⟩
      obtain ⟨m5, n5, _⟩ := I5.loc
      have hC : H4 s3.heap.objs.size = none := I5.free
      exact hR _ _ H4 s5 qn Io hC (I3.fpOk (Nat.le_refl _) hC) ⟨m5, n5⟩
    · refine thn (T.item (cxComp X (ls ++ ys) scope cl s3.heap.objs.size s3 H3 fp) rfl rfl rfl hc i [] s4 τ H4 (fun _ _ => False) I4 (stat fr4 rfl) st4 go) fun r s5 ⟨u, hr, h5⟩ => ?_
      subst hr
      refine thn h5 fun _ s6 ⟨x, H6, I6, r6, y6, st6, fr6⟩ => ?_
      have I6' := I6.pinned (stat fr6 rfl) (T.obj _ _ st6)
      have fin : ∀ {τ7 : St} {H7 : Hp} {s7 : Shared}, Inv (cxComp X (ls ++ ys) scope cl s3.heap.objs.size s3 H3 fp) ([] ++ pinsAt fp s6.heap) τ7 H7 s7 → N τ7 H7 → ∃ m, m < n ∧ ∃ i τ H', Inv (cxComp X (ls ++ ys) scope cl s3.heap.objs.size s3 H3 fp) [] τ H' s7 ∧ tn i s7.heap ∧ (∀ b ∈ fp, H' b = none) ∧ W i m τ H' := fun {τ7 H7 s7} I7 n7 => by
        obtain ⟨m', hm, w7⟩ := hN τ7 H7 n7
        refine ⟨m', hm, i + 1, τ7, H7, I7.unpinned, T.keep _ _ _ st6 fun b hb o e => (I7.pin (b, o) (List.mem_append_right _ (List.mem_append_right _ (mem_pinsAt hb e)))).1, fun b hb => ?_, w7⟩
        obtain ⟨o, e, d⟩ := T.obj _ _ st6 b hb
        exact (I7.pin (b, o) (List.mem_append_right _ (List.mem_append_right _ (mem_pinsAt hb e)))).2.1
      refine thn (hg _ _ _ _ _ _ s6 τ H6 x u _ I6' r6 (step x H6 y6)) fun _ s7 ⟨τ7, H7, I7, q7⟩ => ?_
      refine thn (ht _ _ _ _ _ _ s7 τ7 H7 _ I7 q7) fun b s8 ⟨H8, I8, q8⟩ => ?_
      cases b with
      | false =>
        rw [if_neg Bool.false_ne_true] at q8 ⊢
        exact fin I8 q8
      | true =>
        rw [if_pos rfl] at q8 ⊢
        refine thn (he _ _ _ _ _ _ s8 τ7 H8 _ I8 q8) fun y s9 ⟨v, H9, I9, r9, acc, hacc, hlen, n9⟩ => ?_
        exact thn (mt_append _ s9 τ7 H9 (.ref s.heap.objs.size) [v] (.ref s.heap.objs.size) [y] (fun _ H' => N τ7 H') I9 rfl (.cons r9 .nil) ⟨_, acc, v, rfl, rfl, hacc, hlen, n9⟩) fun _ s10 ⟨_, H10, I10, _, n10⟩ => fin I10 n10
  exact codeAny_compStart_list loop (T.self _ 0 _ _ _ (T.keep _ _ _ st (fun b _ o e => up4 b o (up3 b o e))) loop)
theorem pe_lc (hc : X.calm = true) (ok : CompOk X scope ls ys ix) (hi : PI X tg iter wi)
    (hg : ∀ cl C s H fp, PG (cxComp X (ls ++ ys) scope cl C s H fp) tg g) (ht : ∀ cl C s H fp, PF (cxComp X (ls ++ ys) scope cl C s H fp) ifs tt) (he : ∀ cl C s H fp, PE (cxComp X (ls ++ ys) scope cl C s H fp) elt te)
    (hs : ∀ x, foldedSetIterable iter X.env x = pure x := by intro _; rfl) : PE X (.ListComp elt [⟨tg, iter, ifs, 0⟩] scope pos) (tLc wi ls.length ix g tt te) := by
  intro pins s σ H Q I h
  obtain ⟨cl, hclos, hcl1, hcl2⟩ := closure_ok (scope := scope) (env := X.env) fun y hy hf => I.ok.has y.1 (.inl (ok.free y hy hf))
  rw [eval_ListComp]
  refine wpAny_comprehension_free (use := none) rfl hs hclos ok.kind ok.loc (thn (hi pins s σ H _ I h) fun v s1 h1 => thn h1 fun itv s2 h2 => ?_)
  obtain ⟨it, fp, tn, J, H2, rfl, I2, T, st2, f2, hJ⟩ := h2
  refine comp_run (R := fun acc C => compPost (model X.prog X.w) X.A X.xe none (EP X pins σ Q) acc C) hc ok I2 T st2 f2 hcl1 hcl2 hg ht he hJ fun D C H' s' q I' hC fC hm => ?_
  obtain ⟨m, hn⟩ := hm
  refine ⟨m, hn, fun h' hsb => ⟨.ref D, H', ?_, rfl, q⟩⟩
  exact I'.turned (t' := s'.toks) (fun b o hb e => (hsb.2 b hb).trans e) hC fC.2.1 fC.2.2.2.1 fC.2.2.2.2.1 fC.2.2.2.2.2
theorem ps_lcset {i : Nat} {x : Str} {spos px : Pos} (hc : X.calm = true) (hN : X.N.Nodup) (hxi : X.N[i]? = some x) (hx : Loc X.env.scope x) (ok : CompOk X scope ls ys ix) (hi : PI X tg iter wi)
    (hg : ∀ cl C s H fp, PG (cxComp X (ls ++ ys) scope cl C s H fp) tg g) (ht : ∀ cl C s H fp, PF (cxComp X (ls ++ ys) scope cl C s H fp) ifs tt) (he : ∀ cl C s H fp, PE (cxComp X (ls ++ ys) scope cl C s H fp) elt te)
    (hs : ∀ x, foldedSetIterable iter X.env x = pure x := by intro _; rfl) (hsw : swapsWith (.ListComp elt [⟨tg, iter, ifs, 0⟩] scope pos) (some (.Name x px)) spos.line X.env = pure true := by rfl)
    (hf : X.fn x = true ∨ X.env.scope.names.lookup x = some .local := by first | exact .inl rfl | exact .inr rfl | assumption) :
    PS X (.Assign [.Name x px] (.ListComp elt [⟨tg, iter, ifs, 0⟩] scope pos) spos) (tLcSet wi ls.length ix g tt te i) := by
  intro pins s σ H D I h
  obtain ⟨cl, hclos, hcl1, hcl2⟩ := closure_ok (scope := scope) (env := X.env) fun y hy hf => I.ok.has y.1 (.inl (ok.free y hy hf))
  rw [exec_Assign_Name_used _ _ _ _ hsw]
  refine wpAny_bind (wpAny_standAt (wpAny_bind ?_))
  show wpAny _ X.A (do let _ ← comprehension (.ListComp elt [⟨tg, iter, ifs, 0⟩] scope pos) scope X.env _ (newList []) false (eval iter X.env) (some (assign (.Name x px) X.env))) _ _ s
  refine wpAny_bind (wpAny_mono (wpAny_comprehension_free (use := some (assign (.Name x px) X.env)) (Q := fun _ s' => ∃ σ' H', Inv X pins σ' H' s' ∧ D.nx σ' H') rfl hs hclos ok.kind ok.loc
    (thn (hi pins s σ H _ I h) fun v s1 h1 => thn h1 fun itv s2 h2 => ?_)) (fun _ s' hq => wpAny_pure (wpAny_pure hq)) fun _ _ e => e)
  obtain ⟨it, fp, tn, J, H2, rfl, I2, T, st2, f2, hJ⟩ := h2
  refine comp_run (R := fun acc C => compPost (model X.prog X.w) X.A X.xe (some (assign (.Name x px) X.env)) (fun _ s' => ∃ σ' H', Inv X pins σ' H' s' ∧ D.nx σ' H') acc C) hc ok I2 T st2 f2 hcl1 hcl2 hg ht he hJ fun Da C H' s' q I' hC fC hm => ?_
  obtain ⟨m, hn⟩ := hm
  show wpAny _ X.A (assign (.Name x px) X.env (.ref Da)) _ _ s'
  refine wpAny_assign_Name (store_ok2 (v := .ref Da) I' hN hxi hx rfl (fun s2 I3 hz => ?_) hf)
  obtain ⟨a, sb, ha⟩ := hz
  have hCa : C ≠ a := by
    rcases ha with ha | ha
    · rw [ha]; exact fC.2.1
    · exact Ne.symm (fC.2.2.2.2.1 x a ha)
  refine ⟨m, hn.sameBut sb hCa, fun h' hsb => ⟨_, H', ?_, q⟩⟩
  exact I3.turned (t' := s2.toks) (fun b o hb e => (hsb.2 b hb).trans e) hC fC.2.1 fC.2.2.2.1 fC.2.2.2.2.1 fC.2.2.2.2.2
end
end L2
namespace L2
open PySem PySem.Spec PyProof.Rows
def Ev (t : TE) (σ : St) (H : Hp) (v : V) : Prop := ∀ Q : VK, Q v H → t σ H Q
def EvT (t : TT) (σ : St) (H : Hp) (b : Bool) : Prop := ∀ Q : Bool → Hp → Prop, Q b H → t σ H Q
def EvA (t : TA) (σ : St) (H : Hp) (vs : List V) : Prop := ∀ Q : List V → Hp → Prop, Q vs H → t σ H Q
section
variable {σ : St} {H : Hp} {ta tb tc te : TE} {t u : TT} {i j k : Int} {a b c : Bool} {v x y : V} {K : PySem.W.Frag}
theorem ev_c : Ev (tC v) σ H v := fun _ q => q
theorem ev_var {n : Nat} (h : σ[n]? = some (some v)) : Ev (tVar n) σ H v := fun _ q => ⟨v, h, q⟩
theorem ev_I0 {g : Int → Int → V} (ha : Ev ta σ H (.int i)) (hb : Ev tb σ H (.int j)) : Ev (tOp (rI0 g) ta tb) σ H (g i j) := fun _ q => ha _ (hb _ ⟨i, j, rfl, rfl, q⟩)
theorem ev_I {C : Int → Int → Prop} {g : Int → Int → V} (ha : Ev ta σ H (.int i)) (hb : Ev tb σ H (.int j)) (hc : C i j) : Ev (tOp (rI C g) ta tb) σ H (g i j) := fun _ q => ha _ (hb _ ⟨i, j, rfl, rfl, hc, q⟩)
theorem ev_eqI (ha : Ev ta σ H (.int i)) (hb : Ev tb σ H (.int j)) : Ev (tOp rEq ta tb) σ H (.bl (decide (i = j))) := fun Q q => ha _ (hb _ ⟨rfl, by
  have e : decide (V.int i = V.int j) = decide (i = j) := by rw [dec_int]; rfl
  rw [e]; exact q⟩)
theorem ev_neI (ha : Ev ta σ H (.int i)) (hb : Ev tb σ H (.int j)) : Ev (tOp rNe ta tb) σ H (.bl (!decide (i = j))) := fun Q q => ha _ (hb _ ⟨rfl, by
  have e : decide (V.int i = V.int j) = decide (i = j) := by rw [dec_int]; rfl
  rw [e]; exact q⟩)
theorem ev_and (ha : Ev ta σ H (.bl a)) (hb : a = true → Ev tb σ H (.bl b)) : Ev (tAndV ta tb) σ H (.bl (a && b)) := fun Q z => by
  refine ha _ ⟨a, rfl, ?_⟩
  cases a with
  | true => rw [if_pos rfl]; exact hb rfl _ z
  | false => rw [if_neg Bool.false_ne_true]; exact z
theorem ev_ixT {p : Addr} {xs : List V} (ha : Ev ta σ H (.ref p)) (hb : Ev tb σ H (.int i)) (hs : SqT K H p xs) (he : atI xs i = some v) : Ev (tOp (rIxT K) ta tb) σ H v := fun _ q => ha _ (hb _ ⟨p, xs, i, v, rfl, rfl, hs, he, q⟩)
theorem ev_ixL {p : Addr} {xs : List V} (ha : Ev ta σ H (.ref p)) (hb : Ev tb σ H (.int i)) (hs : SqL K H p xs) (he : atI xs i = some v) : Ev (tOp (rIxL K) ta tb) σ H v := fun _ q => ha _ (hb _ ⟨p, xs, i, v, rfl, rfl, hs, he, q⟩)
theorem ev_isN (ha : Ev ta σ H x) (hb : Ev tb σ H .non) : Ev (tOp (fun x y H Q => y = .non ∧ Q (.bl (decide (x = .non))) H) ta tb) σ H (.bl (decide (x = .non))) := fun _ z => ha _ (hb _ ⟨rfl, z⟩)
theorem ev_cb {r : List V → Hp → VK → Prop} {vs : List V} {t : TA} (ha : EvA t σ H vs) (hs : ∀ Q : VK, Q v H → r vs H Q) : Ev (tCB r t) σ H v := fun Q q => ha _ (hs Q q)
theorem ea_nil : EvA tNil σ H [] := fun _ q => q
theorem ea_cons {t : TA} {vs : List V} (ha : Ev ta σ H v) (hr : EvA t σ H vs) : EvA (tCons ta t) σ H (v :: vs) := fun _ q => ha _ (hr _ q)
theorem et_test (h : Ev te σ H (.bl b)) : EvT (tTest te) σ H b := fun _ q => h _ ⟨b, rfl, q⟩
theorem et_B (h : Ev te σ H (.bl b)) : EvT (tB te) σ H b := fun _ q => h _ ⟨b, rfl, q⟩
theorem et_not (h : EvT t σ H b) : EvT (tNot t) σ H (!b) := fun _ q => h _ q
theorem et_and (ha : EvT t σ H a) (hb : a = true → EvT u σ H b) : EvT (tAnd t u) σ H (a && b) := fun Q z => by
  refine ha _ ?_
  cases a with
  | true => rw [if_pos rfl]; exact hb rfl _ z
  | false => rw [if_neg Bool.false_ne_true]; exact z
theorem et_or (ha : EvT t σ H a) (hb : a = false → EvT u σ H b) : EvT (tOr t u) σ H (a || b) := fun Q z => by
  refine ha _ ?_
  cases a with
  | true => rw [if_pos rfl]; exact z
  | false => rw [if_neg Bool.false_ne_true]; exact hb rfl _ z
theorem rd_if {tc : TT} {t u : TS} {D : Ends} (h : EvT tc σ H b) (h1 : b = true → t D σ H) (h2 : b = false → u D σ H) : tIfS tc t u D σ H := by
  refine h _ ?_
  cases b with
  | true => rw [if_pos rfl]; exact h1 rfl
  | false => rw [if_neg Bool.false_ne_true]; exact h2 rfl
theorem rd_ret {D : Ends} (h : Ev te σ H v) (q : D.rt v H) : tRet te D σ H := h _ q
end
theorem cmR {i j : Int} (h1 : -(2 ^ 64) < j) (h2 : j < 2 ^ 64) : CMul i j := .inr ⟨h1, h2⟩
theorem cmL {i j : Int} (h1 : -(2 ^ 64) < i) (h2 : i < 2 ^ 64) : CMul i j := .inl ⟨h1, h2⟩
theorem bt_len : bootBuiltins "len" = some (.builtin "len") := by decide +kernel
theorem bt_isinstance : bootBuiltins "isinstance" = some (.builtin "isinstance") := by decide +kernel
theorem bt_int : bootBuiltins "int" = some (.type "int") := by decide +kernel
theorem bt_bool : bootBuiltins "bool" = some (.type "bool") := by decide +kernel
theorem bt_tuple : bootBuiltins "tuple" = some (.type "tuple") := by decide +kernel
theorem bt_list : bootBuiltins "list" = some (.type "list") := by decide +kernel
theorem bt_dict : bootBuiltins "dict" = some (.type "dict") := by decide +kernel
theorem st {t : TS} {D : Ends} {σ : St} {H : Hp} {r : VK} {b c : St → Hp → Prop} (h : t D σ H) : ({ nx := t D, rt := r, bk := b, ct := c } : Ends).nx σ H := h
section
variable {σ : St} {H : Hp} {te : TE} {tc : TT} {t u : TS} {ta : TA} {D : Ends} {b : Bool} {v : V} {vs : List V} {n : Nat} {K : PySem.W.Frag}
theorem sq_set (h : Ev te σ H v) (q : u D (σ.set n (some v)) H) : tSeq (tAsg te (gName n)) u D σ H := h _ q
theorem sq_if (h : EvT tc σ H b) (h1 : b = true → t { D with nx := u D } σ H) (h2 : b = false → u D σ H) : tSeq (tIfS tc t tNext) u D σ H := rd_if (D := { D with nx := u D }) h h1 h2
theorem sq_cal {sp : Sp} (h : EvA ta σ H vs) (q : sp vs H (fun v H1 => u D (σ.set n (some v)) H1) E0) : tSeq (tAsg (tCall sp [] E0 ta) (gName n)) u D σ H := h _ (by rw [List.append_nil]; exact q)
theorem gn {Q : St → Hp → Prop} (q : Q (σ.set n (some v)) H) : gName n v σ H Q := q
end
structure Callee (P : Program) (w : World) (K : PySem.W.Frag) (mg : Str → Option Value) (base : Heap) (x : Str) (k : Nat) (ps : List Str) (sp : Sp) : Prop where
  ex : ∃ f fd, FnOk P w K mg base CX0 k f fd ps sp ∧ mg x = some (.ref f) ∧ PySem.W.keepIn K (.ref f) = true ∧ Binds K fd ps []
theorem pe_cal {X : Cx} {x : Str} {k : Nat} {ps : List Str} {sp : Sp} {p pos : Pos} {e : Expr} {es : List Expr} {t : TA} (C : Callee X.prog X.w X.K X.mg X.base x k ps sp) (hr : Room k X.A) (hg : Gl X x) (ha : PA X (e :: es) t)
    (hdb : (x == ("__debug__" : Str)) = false := by decide) (he : starEach (e :: es) X.env = (false, eval e X.env) :: starEach es X.env := by rfl) (hpl : (backTo pos (starEach es X.env)).any (·.1) = false := by rfl) :
    PE X (.Call (.Name x p) (e :: es) [] pos) (tCall sp [] E0 t) := by
  obtain ⟨f, fd, G, hm, hk, hb⟩ := C.ex
  exact pe_call G hr hg hm hk hb .nil pass0 ha hdb he hpl
theorem SqT.same {K : PySem.W.Frag} {H H' : Hp} {a : Addr} {xs : List V} (e : Same H H') (h : SqT K H a xs) : SqT K H' a xs := by
  rcases h with (h | ⟨o, h⟩) | h
  · exact .inl (.inl (e _ _ h))
  · exact .inl (.inr ⟨o, e _ _ h⟩)
  · exact .inr h
theorem Same.upd {H H' : Hp} (e : Same H H') {p : Addr} {o : HO} (hp : H' p = none) : Same H (upd H' p o) := fun b u h => by
  rw [upd_ne (ne_of_none (e b u h) hp)]
  exact e b u h
end L2
namespace L2
open PySem PySem.Spec PyProof.Rows
section
variable {X : Cx} {tg : Expr}
end
theorem lc_range {lo : Int} {n : Nat} {σ0 : St} {g : TG} {tt : TT} {te : TE} {H1 : Hp} {D : Addr} {Q : Hp → Prop} (Pv : Nat → St → Hp → Prop) (h0 : Pv 0 σ0 (upd H1 D (.lst [])))
    (hs : ∀ i τ H, i < n → Pv i τ H → g (.int (lo + i)) τ H fun τ2 H2 => tt τ2 H2 fun b H3 =>
      if b = true then te τ2 H3 fun v H4 => ∃ acc, H4 D = some (.lst acc) ∧ acc.length < sizeLine ∧ Pv (i + 1) τ2 (upd H4 D (.lst (acc ++ [v]))) else Pv (i + 1) τ2 H3)
    (hd : ∀ τ H, Pv n τ H → Q H) : lcW σ0 g tt te (Itr lo n) H1 D Q := by
  refine ⟨fun i m τ H => m = n - i ∧ i ≤ n ∧ Pv i τ H, ⟨n, by simp, Nat.zero_le _, h0⟩, ?_⟩
  rintro i m τ H ⟨rfl, hi, p⟩
  by_cases hlt : i < n
  · refine .inr ⟨hlt, Pv (i + 1), fun τ' H' p' => ⟨n - (i + 1), by omega, rfl, hlt, p'⟩, fun x H' y => ?_⟩
    obtain ⟨e, y⟩ := y
    subst e y
    exact hs i τ _ hlt p
  · have e : i = n := by omega
    subst e
    exact .inl ⟨Nat.le_refl _, hd τ H p⟩
theorem lc_listG {K : PySem.W.Frag} {a : Addr} {xs : List V} {σ0 : St} {g : TG} {tt : TT} {te : TE} {H1 : Hp} {D : Addr} {Q : Hp → Prop} (Pv : Nat → St → Hp → Prop) (h0 : Pv 0 σ0 (upd H1 D (.lst [])))
    (hl : ∀ i τ H, i ≤ xs.length → Pv i τ H → SqL K H a xs)
    (hs : ∀ i x τ H, xs[i]? = some x → Pv i τ H → g x τ H fun τ2 H2 => tt τ2 H2 fun b H3 =>
      if b = true then te τ2 H3 fun v H4 => ∃ acc, H4 D = some (.lst acc) ∧ acc.length < sizeLine ∧ Pv (i + 1) τ2 (upd H4 D (.lst (acc ++ [v]))) else Pv (i + 1) τ2 H3)
    (hd : ∀ τ H, Pv xs.length τ H → Q H) : lcW σ0 g tt te (Itl K a) H1 D Q := by
  refine ⟨fun i m τ H => m = xs.length - i ∧ i ≤ xs.length ∧ Pv i τ H, ⟨xs.length, by simp, Nat.zero_le _, h0⟩, ?_⟩
  rintro i m τ H ⟨rfl, hi, p⟩
  have q := hl i τ H hi p
  by_cases hlt : i < xs.length
  · refine .inr ⟨⟨xs, xs[i], q, by simp [hlt]⟩, Pv (i + 1), fun τ' H' p' => ⟨xs.length - (i + 1), by omega, rfl, hlt, p'⟩, fun x H' y => ?_⟩
    obtain ⟨e, y⟩ := y
    subst e
    exact hs i x τ _ (y xs q) p
  · have e : i = xs.length := by omega
    subst e
    exact .inl ⟨⟨xs, q, Nat.le_refl _⟩, hd τ H p⟩
end L2
namespace L2
open PySem PySem.Spec PyProof.Rows
structure FlyT (h : Heap) (a T : Addr) (cls : Value) : Prop where
  ex : ∃ (oe : Obj) (vs : Array Value) (oT : Obj) (ts : Array Value) (a0 : Value), h.get? a = some oe ∧ oe.cls = cls ∧ vs[0]? = some a0 ∧ oe.data = .fields vs ∧ vs[1]? = some (.ref T) ∧ T ≠ a ∧ h.get? T = some oT ∧ oT.data = .fields ts ∧ ts[3]? = some .none
def CX1 (P : Program) (w : World) : CXT := fun outer H s E e s' => ∃ (a T : Addr) (C : Value) (H' : Hp), e = .ref a ∧ s'.os = s.os ∧ AllBare s'.gens ∧ Un (frs outer) [] H H' s.heap s'.heap ∧ HOk P w H' s'.heap ∧
  H' a = none ∧ H' T = none ∧ s.heap.get? a = none ∧ s.heap.get? T = none ∧ FlyT s'.heap a T C ∧ E C none H'
theorem ObjOk.there {P : Program} {w : World} {H : Hp} {h : Heap} {a : Addr} {o : HO} (x : ObjOk P w H h a o) : ∃ ob, h.get? a = some ob := by
  cases o with
  | lst xs => obtain ⟨_, _, _, _, e⟩ := x; exact ⟨_, e⟩
  | tup xs => obtain ⟨_, _, _, ob, e, _⟩ := x; exact ⟨_, e⟩
  | dK kvs => obtain ⟨_, _, _, _, o, _, _, e, _⟩ := x; exact ⟨_, e⟩
  | dT kvs => obtain ⟨_, _, _, _, o, _, _, e, _⟩ := x; exact ⟨_, e⟩
  | set S n => obtain ⟨o, _, _, _, e, _⟩ := x; exact ⟨_, e⟩
  | ins C dx fs => obtain ⟨_, _, _, e, _⟩ := x; exact ⟨_, e⟩
  | own y => exact x
  | xd fs => obtain ⟨_, ⟨_, _, _, e, _⟩, _⟩ := x; exact ⟨_, e⟩
  | rng lo hi => obtain ⟨_, _, _, e⟩ := x; exact ⟨_, e⟩
  | frz ob u => obtain ⟨e, _⟩ := x; exact ⟨_, e⟩
  | tbl ps => exact ⟨_, (show h.get? a = some _ from x)⟩
  | met f y => exact ⟨_, (show h.get? a = some _ from x)⟩
  | ext φ => exact x.2.1
theorem HOk.none_of {P : Program} {w : World} {H : Hp} {h : Heap} {a : Addr} (x : HOk P w H h) (e : h.get? a = none) : H a = none := by
  cases q : H a with
  | none => rfl
  | some u =>
    obtain ⟨o, z⟩ := (x a u q).there
    rw [e] at z; cases z
section
variable {P : Program} {w : World} {K : PySem.W.Frag} {mg : Str → Option Value} {base : Heap} {N : List Str} {qual : Str} {scope : Scope} {f : Addr} {cd : Value} {A : Around} {outer : List Env} {s₀ : Shared} {H₀ : Hp} {E : XK}
end
section
variable {X : Cx}
structure CalleeX (P : Program) (w : World) (K : PySem.W.Frag) (mg : Str → Option Value) (base : Heap) (x : Str) (k : Nat) (ps : List Str) (sp : Sp) : Prop where
  ex : ∃ f fd, FnOk P w K mg base (CX1 P w) k f fd ps sp ∧ mg x = some (.ref f) ∧ PySem.W.keepIn K (.ref f) = true ∧ Binds K fd ps []
end
section
variable {P : Program} {w : World} {K : PySem.W.Frag} {mg : Str → Option Value} {base : Heap} {N : List Str} {qual : Str} {scope : Scope} {f : Addr} {cd : Value} {A : Around} {outer : List Env} {s₀ : Shared} {H₀ : Hp} {E : XK}
end
end L2
namespace L2
open PySem PySem.Spec PyProof.Rows
section
variable {P : Program} {w : World} {K : PySem.W.Frag} {mg : Str → Option Value} {base : Heap}
end
section
variable {X : Cx} {pins : List (Addr × Obj)} {σ : St} {H : Hp} {s : Shared}
end
section
variable {X : Cx}
end
end L2
namespace L2
open PySem PySem.Spec PyProof.Rows
open PySem.W (Looks)
open Builtin Builtin.ObjectAttr Builtin.Getset_descriptor
structure ExcCls (K : PySem.W.Frag) (C : Addr) : Prop where
  ga : PySem.W.findIn K (.ref C) "__getattribute__" = some (some (.builtin "BaseException.__getattribute__"))
  gt : PySem.W.findIn K (.ref C) "__getattr__" = some none
  cl : PySem.W.findIn K (.ref C) "__class__" = some (some (.builtin "object.__class__"))
  gg : PySem.W.specialIn K (.builtin "object.__class__") "__get__" = some (some (.builtin "getset_descriptor.__get__"))
  tk : PySem.W.takesIn K (.builtin "object.__class__") = some true
  ob : PySem.W.mroIn K C (.type "object") = some true
  be : PySem.W.mroIn K C (.type "BaseException") = some true
section
variable {prog : Program} {w : World} {A : Around} {E : Value → Shared → Prop} {K : PySem.W.Frag} {C a : Addr} {h : Heap} {g : Array GenState} {d : Drawn} {t : Nat} {os : OsState} {o : Obj}
end
section
variable {X : Cx}
end
end L2
namespace L2
open PySem PySem.Spec PyProof.Rows
section
variable {X : Cx}
theorem vals_refs : ∀ {cs : List Addr} {us : List Value}, Vals (cs.map V.ref) us → us = cs.map Value.ref
  | [], _, .nil => rfl
  | _ :: _, _, .cons r t => by rw [vals_refs t]; cases (show _ = Value.ref _ from r); rfl
def FP (X : Cx) (e : Expr) (c : St → Hp → Prop) : Prop := ∀ (pins : List (Addr × Obj)) (σ : St) (H : Hp) (s : Shared) (Q : Value → Shared → Prop), Inv X pins σ H s → c σ H →
  (∀ y t s', Inv X pins σ H s' → y.length ≤ 6000 → Q (.str y t) s') → wpAny (model X.prog X.w) X.A (eval e X.env) Q X.xe s
inductive FPs (X : Cx) : List Expr → (St → Hp → Prop) → Prop where
  | nil : FPs X [] fun _ _ => True
  | cons {e es c cs} : FP X e c → FPs X es cs → FPs X (e :: es) fun σ H => c σ H ∧ cs σ H
inductive Fm (K : PySem.W.Frag) (H : Hp) : V → Prop where
  | int (i : Int) : i.natAbs.log2 < 1920 → Fm K H (.int i)
  | tup (a : Addr) (is : List Int) : SqT K H a (is.map V.int) → is.length ≤ 3 → (∀ i ∈ is, i.natAbs.log2 < 1920) → Fm K H (.ref a)
theorem sq_asg {te : TE} {u : TS} {D : Ends} {σ : St} {H : Hp} {n : Nat} (q : te σ H fun v H1 => u D (σ.set n (some v)) H1) : tSeq (tAsg te (gName n)) u D σ H := q
structure ExcN (K : PySem.W.Frag) (mg : Str → Option Value) (x : Str) (C : Addr) : Prop where
  bd : mg x = some (.ref C)
  ex : PySem.W.excIn K C [.type "ValueError", .type "Exception", .type "BaseException", .type "object"] "ValueError.__new__" = true
  ok : ExcCls K C
end
end L2
namespace L2
open PySem PySem.Spec PyProof.Rows
structure MCallee (P : Program) (w : World) (K : PySem.W.Frag) (mg : Str → Option Value) (base : Heap) (C : Addr) (m : Str) (k : Nat) (ps : List Str) (sp : Sp) : Prop where
  ex : ∃ f fd, FnOk P w K mg base CX0 k f fd ps sp ∧ Meth K C m f ∧ Binds K fd ps []
structure KCallee (P : Program) (w : World) (K : PySem.W.Frag) (mg : Str → Option Value) (base : Heap) (C : Addr) (x : Str) (k : Nat) (ps : List Str) (sp : Sp) : Prop where
  ex : ∃ f fd, FnOk P w K mg base CX0 k f fd ps sp ∧ Mk K C f ∧ mg x = some (.ref C) ∧ Binds K fd ps []
section
variable {X : Cx} {C : Addr} {k : Nat} {ps : List Str} {sp : Sp} {x m : Str} {p pos apos : Pos} {e o : Expr} {es : List Expr} {ta : TE} {t : TA}
end
section
variable {σ : St} {H : Hp} {tc : TT} {te : TE} {t u v : TS} {D : Ends} {a b : Bool}
theorem sq_R (J : St → Hp → Prop) (h1 : ∀ R : St → Hp → Prop, (∀ σ H, J σ H → R σ H) → t { D with nx := R } σ H) (hv : ∀ σ H, J σ H → v D σ H) : tSeq t v D σ H := h1 _ hv
end
theorem bt_reversed : bootBuiltins "reversed" = some (.type "reversed") := by decide +kernel
end L2
namespace L2
open PySem PySem.Spec PyProof.Rows
structure MCalleeX (P : Program) (w : World) (K : PySem.W.Frag) (mg : Str → Option Value) (base : Heap) (C : Addr) (m : Str) (k : Nat) (ps : List Str) (sp : Sp) : Prop where
  ex : ∃ f fd, FnOk P w K mg base (CX1 P w) k f fd ps sp ∧ Meth K C m f ∧ Binds K fd ps []
structure KCalleeX (P : Program) (w : World) (K : PySem.W.Frag) (mg : Str → Option Value) (base : Heap) (C : Addr) (x : Str) (k : Nat) (ps : List Str) (sp : Sp) : Prop where
  ex : ∃ f fd, FnOk P w K mg base (CX1 P w) k f fd ps sp ∧ Mk K C f ∧ mg x = some (.ref C) ∧ Binds K fd ps []
section
variable {X : Cx} {Ex : St → Value → Hp → Prop} {C : Addr} {k : Nat} {f : Addr} {fd : FuncData} {ps : List Str} {sp : Sp} {x m : Str} {p pos apos : Pos} {e o : Expr} {es : List Expr} {ta : TE} {t : TA}
end
end L2
namespace L2
open PySem PySem.W PyProof.Rows
def evT {α : Type} (lt : Nat → Nat → Bool) : KasT α → α
  | .ret a => a
  | .ask i j k => evT lt (k (lt i j))
inductive AskE (lt : Nat → Nat → Bool) (n : Nat) : {α : Type} → KasT α → Prop where
  | ret {α : Type} (a : α) : AskE lt n (KasT.ret a)
  | ask {α : Type} {i j : Nat} {k : Bool → KasT α} : i < n → j < n → AskE lt n (k (lt i j)) → AskE lt n (.ask i j k)
theorem AskE.bind {lt : Nat → Nat → Bool} {n : Nat} {α β : Type} {f : α → KasT β} : ∀ {t : KasT α}, AskE lt n t → AskE lt n (f (evT lt t)) → AskE lt n (t.bind f)
  | .ret _, _, hf => hf
  | .ask _ _ _, .ask h1 h2 h3, hf => .ask h1 h2 (AskE.bind h3 hf)
section
variable {O : KeyOrd} (key : Nat → O.α)
def kA (p : Array Nat) (k : Nat) : O.α := key (p.getD k 0)
def Up (p : Array Nat) (n : Nat) : Prop := ∀ i j, i ≤ j → j < n → O.kle (kA key p i) (kA key p j)
def Dn (p : Array Nat) (n : Nat) : Prop := ∀ i j, i ≤ j → j < n → O.kle (kA key p j) (kA key p i)
def PermN (n : Nat) (p : Array Nat) : Prop := p.Perm (List.toArray (List.range n))
variable {key}
theorem PermN.size {n : Nat} {p : Array Nat} (h : PermN n p) : p.size = n := by
  have := h.size_eq
  simpa using this
theorem PermN.lt {n : Nat} {p : Array Nat} (h : PermN n p) (k : Nat) (hk : k < n) : p.getD k 0 < n := by
  have hz := h.size
  have hm : p[k]'(by omega) ∈ p := Array.getElem_mem _
  have := (h.mem_iff).mp hm
  rw [Array.getD_eq_getD_getElem?, Array.getElem?_eq_getElem (by omega)]
  simpa using this
theorem getD_rev {p : Array Nat} {i j : Nat} (hj : j ≤ p.size) (k : Nat) : (kas_rev p i j).getD k 0 = if i ≤ k ∧ k < j then p.getD (i + j - 1 - k) 0 else p.getD k 0 := by
  unfold kas_rev
  rw [Array.getD_eq_getD_getElem?, getElem?_mirror_all hj]
  split <;> rw [Array.getD_eq_getD_getElem?]
theorem Up.snoc {p : Array Nat} {n : Nat} (h : Up key p n) (hn : 1 ≤ n) (hl : O.kle (kA key p (n - 1)) (kA key p n)) : Up key p (n + 1) := fun i j hij hj => by
  by_cases e : j = n
  · subst e
    by_cases e2 : i = j
    · subst e2; exact KeyOrd.kle_refl _
    · exact KeyOrd.kle_trans (h i (j - 1) (by omega) (by omega)) hl
  · exact h i j hij (by omega)
theorem Dn.snoc {p : Array Nat} {n : Nat} (h : Dn key p n) (hn : 1 ≤ n) (hl : O.kle (kA key p n) (kA key p (n - 1))) : Dn key p (n + 1) := fun i j hij hj => by
  by_cases e : j = n
  · subst e
    by_cases e2 : i = j
    · subst e2; exact KeyOrd.kle_refl _
    · exact KeyOrd.kle_trans hl (h i (j - 1) (by omega) (by omega))
  · exact h i j hij (by omega)
theorem Dn.turn {p : Array Nat} {n : Nat} (h : Dn key p n) (hn : n ≤ p.size) : Up key (kas_rev p 0 n) n := fun i j hij hj => by
  unfold kA
  rw [getD_rev hn, getD_rev hn, if_pos ⟨Nat.zero_le _, by omega⟩, if_pos ⟨Nat.zero_le _, by omega⟩]
  exact h _ _ (by omega) (by omega)
end
end L2
namespace L2
open PySem PySem.Spec PyProof.Rows
mutual
inductive Dp (K : PySem.W.Frag) (H : Hp) : V → PyData → Prop
  | non : Dp K H .non .none
  | bl (b : Bool) : Dp K H (.bl b) (.bool b)
  | int (i : Int) : Dp K H (.int i) (.int i)
  | str (x : Str) (h : PyData.strOk x = true) : Dp K H (.str x) (.str x)
  | tup {a : Addr} {xs : List V} {ds : List PyData} (h : SqT K H a xs) (r : Dps K H xs ds) : Dp K H (.ref a) (.tuple ds)
  | lst {a : Addr} {xs : List V} {ds : List PyData} (h : SqL K H a xs) (r : Dps K H xs ds) : Dp K H (.ref a) (.list ds)
inductive Dps (K : PySem.W.Frag) (H : Hp) : List V → List PyData → Prop
  | nil : Dps K H [] []
  | cons {x : V} {xs : List V} {d : PyData} {ds : List PyData} (h : Dp K H x d) (r : Dps K H xs ds) : Dps K H (x :: xs) (d :: ds)
end
mutual
theorem Dp.lay {K : PySem.W.Frag} {H : Hp} : ∀ {v : V} {d : PyData}, Dp K H v d → d.canLay0 = true
  | _, _, .non => rfl
  | _, _, .bl _ => rfl
  | _, _, .int _ => rfl
  | _, _, .str _ h => by simpa [PyData.canLay0] using h
  | _, _, .tup _ r => by simpa [PyData.canLay0] using r.lay
  | _, _, .lst _ r => by simpa [PyData.canLay0] using r.lay
theorem Dps.lay {K : PySem.W.Frag} {H : Hp} : ∀ {xs : List V} {ds : List PyData}, Dps K H xs ds → PyData.canLayAll0 ds = true
  | _, _, .nil => by simp [PyData.canLayAll0]
  | _, _, .cons h r => by simp [PyData.canLayAll0, h.lay, r.lay]
end
mutual
theorem Dp.reads {X : Cx} {pins : List (Addr × Obj)} {σ : St} {H : Hp} {s : Shared} (I : Inv X pins σ H s) : ∀ {v : V} {d : PyData} {u : Value}, Dp X.K H v d → RelV v u → ∃ as, Reads s.heap u d as
  | _, _, _, .non, r => by cases (show _ = Value.none from r); exact ⟨_, .none⟩
  | _, _, _, .bl b, r => by cases (show _ = Value.bool b from r); exact ⟨_, .bool b⟩
  | _, _, _, .int i, r => by obtain ⟨t, rfl⟩ := r; exact ⟨_, .int i t⟩
  | _, _, _, .str x _, r => by obtain ⟨t, rfl⟩ := r; exact ⟨_, .str x t⟩
  | _, _, _, .tup (a := a) h rs, r => by
    cases (show _ = Value.ref a from r)
    obtain ⟨its, rv, ⟨o, ho, hc, n, hd⟩, _⟩ := I.tuple h
    obtain ⟨as, ra⟩ := Dps.reads I rs rv
    exact ⟨_, .tuple ho hc hd (by simpa using ra)⟩
  | _, _, _, .lst (a := a) h rs, r => by
    cases (show _ = Value.ref a from r)
    obtain ⟨its, rv, pl, _⟩ := I.list h
    obtain ⟨o, ho, hc, n, hd⟩ := pl.isList
    obtain ⟨as, ra⟩ := Dps.reads I rs rv
    exact ⟨_, .list ho hc hd (by simpa using ra)⟩
theorem Dps.reads {X : Cx} {pins : List (Addr × Obj)} {σ : St} {H : Hp} {s : Shared} (I : Inv X pins σ H s) : ∀ {xs : List V} {ds : List PyData} {us : List Value}, Dps X.K H xs ds → Vals xs us → ∃ as, ReadsAll s.heap us ds as
  | _, _, _, .nil, .nil => ⟨_, .nil⟩
  | _, _, _, .cons h rs, .cons r rr => by
    obtain ⟨as, ra⟩ := Dp.reads I h r
    obtain ⟨bs, rb⟩ := Dps.reads I rs rr
    exact ⟨_, .cons ra rb⟩
end
section
variable {X : Cx}
def rEqD (K : PySem.W.Frag) : R2 := fun x y H Q => ∃ d e, Dp K H x d ∧ Dp K H y e ∧ d.depth ≤ 60 ∧ Q (.bl (PyData.eqv d e)) H
def rNeD (K : PySem.W.Frag) : R2 := fun x y H Q => ∃ d e, Dp K H x d ∧ Dp K H y e ∧ d.depth ≤ 60 ∧ Q (.bl (!PyData.eqv d e)) H
theorem op_eqD {k : Nat} (hr : Room k X.A) : OpR X (compareOp .Eq) (rEqD X.K) := by
  intro pins s σ H x y v u Q I rx ry h
  obtain ⟨d, e, h1, h2, hd, q⟩ := h
  obtain ⟨as, r1⟩ := h1.reads I rx
  obtain ⟨bs, r2⟩ := h2.reads I ry
  have := hr.units
  exact SeqAt.compareEq_reads r1 r2 h1.lay h2.lay (by omega) ⟨.bl _, H, I, rfl, q⟩
theorem op_neD {k : Nat} (hr : Room k X.A) : OpR X (compareOp .NotEq) (rNeD X.K) := by
  intro pins s σ H x y v u Q I rx ry h
  obtain ⟨d, e, h1, h2, hd, q⟩ := h
  obtain ⟨as, r1⟩ := h1.reads I rx
  obtain ⟨bs, r2⟩ := h2.reads I ry
  have := hr.units
  exact SeqAt.compareNe_reads r1 r2 h1.lay h2.lay (by omega) ⟨.bl _, H, I, rfl, q⟩
end
mutual
theorem eqv_refl : ∀ {d : PyData}, d.canLay0 = true → PyData.eqv d d = true
  | .none, _ => by simp [PyData.eqv]
  | .bool _, _ => by simp [PyData.eqv]
  | .int _, _ => by simp [PyData.eqv]
  | .str _, _ => by simp [PyData.eqv]
  | .list xs, h => by simp only [PyData.eqv]; exact eqvAll_refl (by simpa [PyData.canLay0] using h)
  | .tuple xs, h => by simp only [PyData.eqv]; exact eqvAll_refl (by simpa [PyData.canLay0] using h)
  | .dict _, h => by simp [PyData.canLay0] at h
theorem eqvAll_refl : ∀ {ds : List PyData}, PyData.canLayAll0 ds = true → PyData.eqvAll ds ds = true
  | [], _ => by simp [PyData.eqvAll]
  | d :: r, h => by
    have h' : d.canLay0 = true ∧ PyData.canLayAll0 r = true := by simpa [PyData.canLayAll0] using h
    simp only [PyData.eqvAll, eqv_refl h'.1, eqvAll_refl h'.2, Bool.and_self]
end
theorem dps_ints {K : PySem.W.Frag} {H : Hp} : ∀ (ns : List Int), Dps K H (ns.map V.int) (ns.map PyData.int)
  | [] => .nil
  | n :: r => .cons (.int n) (dps_ints r)
theorem Dp.ints {K : PySem.W.Frag} {H : Hp} {a : Addr} {ns : List Int} (h : SqT K H a (ns.map V.int)) : Dp K H (.ref a) (.tuple (ns.map PyData.int)) := .tup h (dps_ints ns)
theorem eqvAll_ints : ∀ (ns ms : List Int), PyData.eqvAll (ns.map PyData.int) (ms.map PyData.int) = decide (ns = ms)
  | [], [] => by simp [PyData.eqvAll]
  | [], _ :: _ => by simp [PyData.eqvAll]
  | _ :: _, [] => by simp [PyData.eqvAll]
  | n :: r, m :: t => by
    simp only [List.map_cons, PyData.eqvAll, PyData.eqv, eqvAll_ints r t, List.cons.injEq]
    by_cases h1 : n = m <;> by_cases h2 : r = t <;> simp [h1, h2]
theorem eqv_tints (ns ms : List Int) : PyData.eqv (.tuple (ns.map PyData.int)) (.tuple (ms.map PyData.int)) = decide (ns = ms) := by simp only [PyData.eqv]; exact eqvAll_ints ns ms
theorem depthAll_le {n : Nat} : ∀ {ds : List PyData}, (∀ d ∈ ds, d.depth ≤ n) → PyData.depthAll ds ≤ n
  | [], _ => by simp [PyData.depthAll]
  | d :: r, h => by
    simp only [PyData.depthAll]
    exact Nat.max_le.mpr ⟨h d List.mem_cons_self, depthAll_le fun e he => h e (List.mem_cons_of_mem _ he)⟩
theorem depth_tints (ns : List Int) : (PyData.tuple (ns.map PyData.int)).depth ≤ 1 := by
  have : PyData.depthAll (ns.map PyData.int) ≤ 0 := depthAll_le fun d hd => by
    obtain ⟨i, _, rfl⟩ := List.mem_map.mp hd
    simp [PyData.depth]
  simp only [PyData.depth]; omega
theorem SqT.kept {K : PySem.W.Frag} {H H' : Hp} {a : Addr} {xs : List V} (e : ∀ b o, H b = some o → H' b = some o) (h : SqT K H a xs) : SqT K H' a xs := SqT.same e h
mutual
theorem Dp.same {K : PySem.W.Frag} {H H' : Hp} (e : Same H H') : ∀ {v : V} {d : PyData}, Dp K H v d → Dp K H' v d
  | _, _, .non => .non
  | _, _, .bl b => .bl b
  | _, _, .int i => .int i
  | _, _, .str x h => .str x h
  | _, _, .tup h r => .tup (h.same e) (Dps.same e r)
  | _, _, .lst h r => .lst (e.seq h) (Dps.same e r)
theorem Dps.same {K : PySem.W.Frag} {H H' : Hp} (e : Same H H') : ∀ {xs : List V} {ds : List PyData}, Dps K H xs ds → Dps K H' xs ds
  | _, _, .nil => .nil
  | _, _, .cons h r => .cons (Dp.same e h) (Dps.same e r)
end
section
variable {σ : St} {H : Hp} {ta tb : TE} {x y : V} {d e : PyData} {K : PySem.W.Frag}
theorem ev_eqD (ha : Ev ta σ H x) (hb : Ev tb σ H y) (h1 : Dp K H x d) (h2 : Dp K H y e) (hd : d.depth ≤ 60) : Ev (tOp (rEqD K) ta tb) σ H (.bl (PyData.eqv d e)) := fun _ z => ha _ (hb _ ⟨d, e, h1, h2, hd, z⟩)
theorem ev_neD (ha : Ev ta σ H x) (hb : Ev tb σ H y) (h1 : Dp K H x d) (h2 : Dp K H y e) (hd : d.depth ≤ 60) : Ev (tOp (rNeD K) ta tb) σ H (.bl (!PyData.eqv d e)) := fun _ z => ha _ (hb _ ⟨d, e, h1, h2, hd, z⟩)
end
end L2
namespace L2
open PySem PySem.Spec PyProof.Rows
abbrev Tups (H : Hp) (as : List Addr) (cs : List (List Int)) : Prop := Paired (fun a (c : List Int) => H a = some (.tup (c.map V.int))) as cs
theorem Tups.at {H : Hp} : ∀ {as : List Addr} {cs : List (List Int)} {i : Nat} {a : Addr}, Tups H as cs → as[i]? = some a → ∃ c, cs[i]? = some c ∧ H a = some (.tup (c.map V.int))
  | _, _, 0, _, .cons h _, e => by cases e; exact ⟨_, rfl, h⟩
  | _, _, i + 1, _, .cons _ t, e => Tups.at (i := i) t e
  | _, _, _, _, .nil, e => by simp at e
theorem Tups.same {H H' : Hp} {as : List Addr} {cs : List (List Int)} (h : Tups H as cs) (e : Same H H') : Tups H' as cs := Paired.mapP h fun _ _ z => e _ _ z
open PySem.W in
theorem katlex_ints {prog : Program} {w : World} {A : Around} {b fin : Bool} {Q : Bool → Shared → Prop} {s : Shared} : ∀ (us ws : List Value) (ns ms : List Int) (i : Nat), Vals (ns.map V.int) us → Vals (ms.map V.int) ws → fin = decide (ns.length < ms.length) →
    Q (HT.lexLt ns ms) s → KatLex prog w A b fin Q (us.zip ws) i s
  | [], ws, ns, ms, i, r1, r2, hf, h => by
    cases ns with
    | cons n r => cases r1
    | nil =>
      refine kat_nil ?_
      rw [hf]
      cases ms with
      | nil => exact h
      | cons m t => exact h
  | u :: us, [], ns, ms, i, r1, r2, hf, h => by
    cases ms with
    | cons m t => cases r2
    | nil =>
      refine kat_nil ?_
      rw [hf]
      cases ns with
      | nil => exact h
      | cons m t => exact h
  | u :: us, v :: ws, ns, ms, i, r1, r2, hf, h => by
    cases ns with
    | nil => cases r1
    | cons n r =>
      cases ms with
      | nil => cases r2
      | cons m t =>
        cases r1 with
        | cons q1 r1 =>
          cases r2 with
          | cons q2 r2 =>
            obtain ⟨t1, rfl⟩ := q1
            obtain ⟨t2, rfl⟩ := q2
            refine kat_cons (wpAny_eqBool_int ?_)
            rw [HT.lexLt_cons] at h
            refine kat_go (fun e => ?_) (fun e => ?_)
            · have e' : n = m := by simpa using e
              rw [if_pos e'] at h
              exact kat_yes (katlex_ints us ws r t (i + 1) r1 r2 (by rw [hf]; simp) h)
            · have e' : ¬ n = m := by simpa using e
              rw [if_neg e'] at h
              refine kat_no ?_
              cases (b && i == 0) with
              | true => exact oneLt_int h
              | false => exact kat_one _ _ (lt_int h)
section
variable {X : Cx}
end
section
variable {prog : Program} {w : World} {A : Around} {E : Value → Shared → Prop} {s : Shared}
end
section
variable {X : Cx}
end
section
variable {X : Cx}
end
end L2
namespace L2
open PySem PySem.Spec PyProof.Rows
abbrev cp (z : Str) : List Nat := z.cps.toList
section
variable {X : Cx} {tg : Expr}
end
section
variable {σ : St} {H : Hp} {ta tb : TE} {x y : Str} {a b : Bool}
end
end L2
namespace L2
open PySem PySem.Spec PyProof.Rows
section
variable {X : Cx}
def FX (X : Cx) (e : Expr) (c : St → Hp → Str → Prop) : Prop := ∀ (pins : List (Addr × Obj)) (σ : St) (H : Hp) (s : Shared) (y : Str) (Q : Value → Shared → Prop), Inv X pins σ H s → c σ H y →
  (∀ t s', Inv X pins σ H s' → y.length ≤ 6000 → Q (.str y t) s') → wpAny (model X.prog X.w) X.A (eval e X.env) Q X.xe s
inductive FXs (X : Cx) : List Expr → (St → Hp → List Str → Prop) → Prop where
  | nil : FXs X [] fun _ _ ys => ys = []
  | cons {e es c cs} : FX X e c → FXs X es cs → FXs X (e :: es) fun σ H ys => ∃ y r, ys = y :: r ∧ c σ H y ∧ cs σ H r
end
end L2
namespace L2
open PySem PySem.Spec PyProof.Rows
open AutoSeq1 (wpAny_loadPart')
section
variable {prog : Program} {w : World} {A : Around} {E : Value → Shared → Prop} {s : Shared}
end
theorem Inv.turnedLaid {X : Cx} {pins : List (Addr × Obj)} {σ : St} {H : Hp} {s : Shared} {h' : Heap} {t' : Nat} {a : Addr} {o : HO} {fp : List Addr} (I : Inv X pins σ H s) (hf : ∀ b ∈ fp, FpOk X pins H b)
    (k : ∀ b u, b ∉ fp → s.heap.get? b = some u → h'.get? b = some u) (hn : s.heap.get? a = none) (new : ObjOk X.prog X.w (upd H a o) h' a o) : Inv X pins σ (upd H a o) { s with heap := h', toks := t' } := by
  have hHa : H a = none := I.hok.none_of hn
  have trk : ∀ b u, H b = some u → b ∉ fp := fun b u e z => by rw [(hf b z).1] at e; cases e
  have nea : ∀ b u, s.heap.get? b = some u → b ≠ a := fun b u e z => by rw [z, hn] at e; cases e
  refine I.step (g' := s.gens) (d' := s.drawn) (ch := fp) (fun b hb => ⟨(hf b hb).2.2.2.1, (hf b hb).2.1, (hf b hb).2.2.2.2.1, (hf b hb).2.2.2.2.2⟩) (fun b u _ _ hc e _ => k b u hc e) (fun b u _ _ hc e _ => ⟨u.slots, k b u hc e⟩) (fun b u _ e n => by rw [upd_ne (nea b u e)]; exact n)
    (fun b u hc e => ⟨u, k b u hc e⟩) (fun b xs e => by rw [upd_ne (ne_of_none e hHa)]; exact e) (fun b u xs e => by rw [upd_ne (ne_of_none e hHa)]; exact e) (fun b ps e => ⟨#[], by rw [upd_ne (ne_of_none e hHa), e]; simp⟩) (fun m hm => ?_) (fun b u e => ?_) I.bare
  · obtain ⟨o', es, ep, ho, r⟩ := hm
    exact ⟨o', es, ep, k _ o' (fun z => (hf _ z).2.1 rfl) ho, r⟩
  · by_cases hb : b = a
    · subst hb; rw [upd_same] at e; cases e; exact new
    · rw [upd_ne hb] at e
      refine (I.hok b u e).stay (fun c v hc q => k c v ?_ q) (fun c q => by rw [upd_ne (ne_of_none q hHa)]; exact q) fun c xs q => by rw [upd_ne (ne_of_none q hHa)]; exact q
      rcases hc with rfl | hc
      · exact trk _ _ e
      · exact trk _ _ hc
section
variable {X : Cx}
theorem pg_tupK {pos : Pos} {K : PySem.W.Frag} {es : List Expr} {k : Nat} {t : TGs} {n : Nat} (hc : X.calm = true) (e : X.K = K) (h : PGs X es t)
    (hn : (assignEach es X.env).length = n) (hst : (assignEach es X.env).findIdx? (·.1) = none) : PG X (.Tuple es k pos) (gTup K n t) := by subst e; exact pg_tup hc h hn hst
end
end L2
namespace L2
open PySem PySem.Spec PyProof.Rows
inductive Cs (A : Around) (s : Shared) (op : CmpOp) : List Value → List Value → List (Bool × Bool) → Prop
  | nil : Cs A s op [] [] []
  | cons {v w : Value} {e b : Bool} {vs ws : List Value} {cs : List (Bool × Bool)} (he : SeqAt.EqAt A s v w e)
      (hb : e = false → ∀ (prog : Program) (w' : World) (E : Value → Shared → Prop) (Q : Value → Shared → Prop), Q (.bool b) s → wpAny (model prog w') A (richCompare op v w) Q E s) (t : Cs A s op vs ws cs) : Cs A s op (v :: vs) (w :: ws) ((e, b) :: cs)
def res : List (Bool × Bool) → Bool → Bool
  | [], z => z
  | (true, _) :: r, z => res r z
  | (false, b) :: _, _ => b
theorem Cs.len {A : Around} {s : Shared} {op : CmpOp} : ∀ {vs ws : List Value} {cs : List (Bool × Bool)}, Cs A s op vs ws cs → vs.length = ws.length
  | _, _, _, .nil => rfl
  | _, _, _, .cons _ _ t => by rw [List.length_cons, List.length_cons, t.len]
section
open PySem.SeqAt
open PySem.AutoSeq1 (wpAny_loadPart')
open PySem.MeetsSeq PySem.MeetsSeq2 PySem.MeetsSeq3
end
def Mrk (K : PySem.W.Frag) (H : Hp) (kd : Bool) (m : V) (l : List Int) : Prop :=
  (kd = false ∧ ∃ i, m = .int i ∧ l = [i]) ∨ (kd = true ∧ ∃ b i j, m = .ref b ∧ SqT K H b [.int i, .int j] ∧ l = [i, j])
def Pr (K : PySem.W.Frag) (H : Hp) (kd : Bool) (v : V) (k : List Int) : Prop := ∃ a p m l, v = .ref a ∧ SqT K H a [.int p, m] ∧ Mrk K H kd m l ∧ k = p :: l
theorem Mrk.same {K : PySem.W.Frag} {H H' : Hp} {kd : Bool} {m : V} {l : List Int} (h : Mrk K H kd m l) (k : ∀ b xs, SqT K H b xs → SqT K H' b xs) : Mrk K H' kd m l := by
  rcases h with h | ⟨h, b, i, j, e, q, r⟩
  · exact .inl h
  · exact .inr ⟨h, b, i, j, e, k _ _ q, r⟩
theorem Pr.same {K : PySem.W.Frag} {H H' : Hp} {kd : Bool} {m : V} {l : List Int} (h : Pr K H kd m l) (k : ∀ b xs, SqT K H b xs → SqT K H' b xs) : Pr K H' kd m l := by
  obtain ⟨a, p, m, l, e, q, r, z⟩ := h
  exact ⟨a, p, m, l, e, k _ _ q, r.same k, z⟩
section
variable {X : Cx}
theorem Mrk.cs {pins : List (Addr × Obj)} {σ : St} {H : Hp} {s : Shared} {kd : Bool} {x y : V} {u v : Value} {l1 l2 : List Int} {A : Around} (I : Inv X pins σ H s) (hu : A.units + 10 < cLine) (hx : Mrk X.K H kd x l1) (hy : Mrk X.K H kd y l2) (rx : RelV x u) (ry : RelV y v) :
    SeqAt.EqAt A s u v (decide (l1 = l2)) ∧ (∀ (prog : Program) (w' : World) (E : Value → Shared → Prop) (Q : Value → Shared → Prop), Q (.bool (HT.lexLt l1 l2)) s → wpAny (model prog w') A (richCompare .Lt u v) Q E s) := by
  rcases hx with ⟨rfl, i, rfl, rfl⟩ | ⟨rfl, b, i, j, rfl, hb, rfl⟩
  · rcases hy with ⟨_, i', rfl, rfl⟩ | ⟨h, _⟩
    · obtain ⟨t, rfl⟩ := rx
      obtain ⟨t', rfl⟩ := ry
      refine ⟨?_, fun prog w' E Q q => ?_⟩
      · have := SeqAt.EqAt.int_int (A := A) (s := s) i t i' t'
        have e : (i == i') = decide ([i] = [i']) := by simp [Bool.beq_eq_decide_eq]
        rw [← e]; exact this
      · have e : HT.lexLt [i] [i'] = decide (i < i') := by
          rw [HT.lexLt_cons]
          by_cases h : i = i'
          · subst h; simp [HT.lexLt_nil_nil]
          · rw [if_neg h]
        rw [e] at q
        exact HT.rcLt_int A s i t i' t' prog w' E Q q
    · cases h
  · rcases hy with ⟨h, _⟩ | ⟨_, b', i', j', rfl, hb', rfl⟩
    · cases h
    · cases rx
      cases ry
      refine ⟨?_, fun prog w' E Q q => ?_⟩
      · have d1 : Dp X.K H (.ref b) (.tuple [.int i, .int j]) := Dp.ints (ns := [i, j]) hb
        have d2 : Dp X.K H (.ref b') (.tuple [.int i', .int j']) := Dp.ints (ns := [i', j']) hb'
        obtain ⟨as, r1⟩ := d1.reads I rfl
        obtain ⟨bs, r2⟩ := d2.reads I rfl
        have hd := depth_tints [i, j]
        have := SeqAt.eqAt_reads _ _ A s _ _ as bs r1 r2 d1.lay d2.lay (Nat.lt_of_le_of_lt (Nat.add_le_add_left (Nat.le_trans (Nat.min_le_left _ _) hd) _) (by omega))
        rw [show PyData.eqv (.tuple [.int i, .int j]) (.tuple [.int i', .int j']) = decide ([i, j] = [i', j']) from eqv_tints [i, j] [i', j']] at this
        exact this
      · obtain ⟨its, r1, p1, _⟩ := I.tuple hb
        obtain ⟨its2, r2, p2, _⟩ := I.tuple hb'
        exact HT.lt_tupInts p1 p2 (intsAre_of (ns := [i, j]) r1) (intsAre_of (ns := [i', j']) r2) (by omega) q
end
end L2
namespace L2
open PySem PySem.Spec PyProof.Rows
theorem one_of_nodup {α : Type} (f : α → Int) (c : Int) : ∀ (l : List α), (l.map f).Nodup → (l.filter fun x => f x == c).length ≤ 1
  | [], _ => by simp
  | a :: r, h => by
    rw [List.map_cons, List.nodup_cons] at h
    have ih := one_of_nodup f c r h.2
    by_cases e : f a = c
    · have z : (r.filter fun x => f x == c) = [] := by
        refine List.filter_eq_nil_iff.mpr fun x hx q => h.1 ?_
        rw [e]
        exact List.mem_map.mpr ⟨x, hx, by simpa using q⟩
      rw [List.filter_cons_of_pos (p := fun x => f x == c) (by simpa using e), z]
      exact Nat.le_refl _
    · rw [List.filter_cons_of_neg (p := fun x => f x == c) (by simpa using e)]
      exact ih
section
variable {prog : Program} {w : World} {A : Around} {E : Value → Shared → Prop} {s : Shared}
theorem quiet_tup {b : Addr} {Q : Bool → Shared → Prop} (hT : s.TypeIs (.ref b) "tuple") (h : Q false s) : wpAny (model prog w) A (Builtin.Dict.quietEq (.ref b)) Q E s := by
  unfold Builtin.Dict.quietEq
  refine wpAny_bind (wpAny_specialOf hT F.slot_tuple_eq.lookup (wpAny_pure ?_))
  exact h
theorem entries_tup {id : String} {d : Addr} {o : Obj} {es : Array DictEntry} {ep : Nat} {Q : Array DictEntry → Shared → Prop} (ho : s.heap.get? d = some o) (hd : o.data = .dict es ep)
    (hk : ∀ e ∈ es, ∃ b, e.key = .ref b ∧ s.TypeIs (.ref b) "tuple") (hn : (es.toList.map (·.hash)).Nodup) (h : Q es s) : wpAny (model prog w) A (Builtin.Dict.entriesForEmpty id d) Q E s := by
  unfold Builtin.Dict.entriesForEmpty
  refine wpAny_bind (wpAny_dictEntries ho hd (wpAny_bind ?_))
  rw [← Array.forIn_toList]
  refine wpAny_forIn_list _ (fun rest _ s' => s' = s ∧ ∀ e ∈ rest, e ∈ es) _ ?_ ?_ _ _ ⟨rfl, fun e he => Array.mem_toList_iff.mp he⟩
  · rintro e rest u s' ⟨rfl, hin⟩
    obtain ⟨b, eb, hT⟩ := hk e (hin e List.mem_cons_self)
    rw [eb]
    refine wpAny_bind (quiet_tup hT ?_)
    rw [if_pos (by decide)]
    have one : ¬ (es.filter (·.hash == e.hash)).size > 1 := by
      have := one_of_nodup (fun x : DictEntry => x.hash) e.hash es.toList hn
      rw [← Array.length_toList, Array.toList_filter]
      omega
    rw [if_neg one]
    exact wpAny_pure ⟨rfl, fun x hx => hin x (List.mem_cons_of_mem _ hx)⟩
  · rintro u s' ⟨rfl, _⟩
    exact wpAny_pure h
theorem merge_tup {nm : String} {d o : Addr} {od oo : Obj} {es : Array DictEntry} {ep ep' : Nat} {Q : Unit → Shared → Prop} (hdo : d ≠ o) (hoS : (o == sysModules) = false)
    (hd : s.heap.get? d = some od) (hde : od.ExactDict) (hdd : od.data = .dict #[] ep') (ho : s.heap.get? o = some oo) (hod : oo.data = .dict es ep)
    (hk : ∀ e ∈ es, ∃ b, e.key = .ref b ∧ s.TypeIs (.ref b) "tuple") (hn : (es.toList.map (·.hash)).Nodup) (hz : es.size ≤ sizeLine)
    (hQ : ∀ h', (∃ o' ep'', h'.get? d = some o' ∧ o'.ExactDict ∧ o'.data = .dict es ep'') → Heap.SameBut d s.heap h' → Q () { s with heap := h' }) :
    wpAny (model prog w) A (Builtin.Dict.mergeDict nm d o) Q E s := by
  unfold Builtin.Dict.mergeDict
  rw [if_neg (by simpa using hdo)]
  unfold Builtin.Dict.showsAll
  rw [if_neg (by rw [hoS]; exact Bool.false_ne_true)]
  refine wpAny_bind (wpAny_pure (wpAny_bind (wpAny_dictEntries ho hod ?_)))
  dsimp only
  by_cases he : es = #[]
  · subst he
    rw [if_neg (by simp)]
    refine wpAny_bind (wpAny_dictEpoch ho hod (wpAny_bind (wpAny_dictEntries ho hod (wpAny_bind ?_))))
    rw [Std.Legacy.Range.forIn_eq_forIn_range']
    exact wpAny_pure (wpAny_pure (hQ s.heap ⟨od, ep', hd, hde, hdd⟩ (Heap.SameBut.refl _ _)))
  · have few : (decide (es.size ≤ 8) && es.all fun e => (keyPart e.key).isSome) = false := by
      rw [Bool.and_eq_false_iff]
      refine .inr (Bool.eq_false_iff.mpr fun z => he ?_)
      rw [← Array.all_toList, List.all_eq_true] at z
      refine Array.eq_empty_of_size_eq_zero (Nat.eq_zero_of_not_pos fun pz => ?_)
      have hm : es[0] ∈ es := Array.getElem_mem pz
      obtain ⟨b, eb, _⟩ := hk _ hm
      have y := z _ (Array.mem_toList_iff.mpr hm)
      rw [eb] at y
      exact absurd y Bool.false_ne_true
    rw [few]
    rw [if_pos (by rfl)]
    refine wpAny_bind (wpAny_dictEntries hd hdd ?_)
    rw [if_pos (by rfl)]
    refine wpAny_bind (entries_tup ho hod hk hn ?_)
    rw [if_pos (by simpa using he)]
    exact wpAny_bind (wpAny_updateDictKeysTo hd hdd (wpAny_pure (hQ _ ⟨_, ep' + 1, Heap.get?_update_self _ hd (Obj.isFreed_of_dict (Obj.data_mapDictKeys hdd _)), hde.mapDictKeys _, Obj.data_mapDictKeys hdd _⟩ (Heap.SameBut.update ..))) (by omega))
theorem call_dict_tup {o : Addr} {oo : Obj} {es : Array DictEntry} {ep : Nat} {Q : Value → Shared → Prop} (hoS : (o == sysModules) = false) (ho : s.heap.get? o = some oo) (hoe : oo.ExactDict) (hod : oo.data = .dict es ep)
    (hk : ∀ e ∈ es, ∃ b, e.key = .ref b ∧ s.TypeIs (.ref b) "tuple") (hn : (es.toList.map (·.hash)).Nodup) (hz : es.size ≤ sizeLine)
    (h : ∀ h', (∃ o' ep'', h'.get? s.heap.objs.size = some o' ∧ o'.ExactDict ∧ o'.data = .dict es ep'') → (∀ b u, s.heap.get? b = some u → h'.get? b = some u) → Q (.ref s.heap.objs.size) { s with heap := h' }) :
    wpAny (model prog w) A (call (.type "dict") [.ref o]) Q E s := by
  refine callType_codes (Q₁ := fun v s₁ => v = .ref s.heap.objs.size ∧ s₁ = { s with heap := s.heap.push { cls := .type "dict", data := .dict #[] } }) F.kt_called_dict (F.kt_typeCall_dict_1 _) F.entry_dict_init (kt_code_dict_new _ ⟨rfl, rfl⟩) ?_
  rintro v s₁ ⟨rfl, rfl⟩
  have keep : ∀ b u, s.heap.get? b = some u → (s.heap.push { cls := .type "dict", data := .dict #[] }).get? b = some u := fun b u x => Heap.get?_push_of_some _ x
  have nT : Shared.TypeIs { s with heap := s.heap.push { cls := .type "dict", data := .dict #[] } } (.ref s.heap.objs.size) "dict" := ⟨_, Heap.get?_push_size _ rfl, rfl⟩
  have oT : Shared.TypeIs { s with heap := s.heap.push { cls := .type "dict", data := .dict #[] } } (.ref o) "dict" := ⟨oo, keep _ _ ho, hoe.1⟩
  have hlt : o < s.heap.objs.size := Heap.lt_size ho
  refine ⟨nT, F.args_dict_init_2 _ _, ?_⟩
  unfold Builtin.«dict.__init__»
  refine wpAny_bind ?_
  unfold Builtin.Dict.selfAndRest
  refine wpAny_bind (wpAny_notOrdered_dict nT ?_)
  show wpAny _ _ (pure (s.heap.objs.size, [Value.ref o])) _ _ _
  refine wpAny_pure ?_
  show wpAny _ _ (Builtin.Dict.updateFrom "dict.__init__" s.heap.objs.size (.ref o) [] .none) _ _ _
  unfold Builtin.Dict.updateFrom
  refine wpAny_bind (wpAny_typeOf oT ?_)
  rw [if_neg (by decide)]
  refine wpAny_bind ?_
  unfold Builtin.Dict.merge
  refine wpAny_bind ?_
  unfold Builtin.Dict.readDirectly
  refine wpAny_bind (wpAny_isInstance oT isSubtype_dict_dict ?_)
  simp only [Bool.not_true, Bool.false_eq_true, if_false]
  refine wpAny_bind (wpAny_specialOf oT F.slot_dict_iter.lookup (wpAny_pure ?_))
  simp only [beq_self_eq_true, if_true]
  refine wpAny_bind (wpAny_pure ?_)
  refine merge_tup (Nat.ne_of_gt hlt) hoS (Heap.get?_push_size _ rfl) ⟨rfl, rfl, rfl⟩ rfl (keep _ _ ho) hod (fun e he => ?_) hn hz fun h' new sb => ?_
  · obtain ⟨b, e1, o1, e2, e3⟩ := hk e he
    exact ⟨b, e1, o1, keep _ _ e2, e3⟩
  · exact wpAny_bind (wpAny_pure (wpAny_pure ⟨rfl, h h' new fun b u x => sb.extBut b u (Nat.ne_of_lt (Heap.lt_size x)) (keep _ _ x)⟩))
end
def HashNd (P : Program) (w : World) (kvs : List (List Key × V)) : Prop := (kvs.map fun p => tupleKeyHash (mixKind P w) p.1).Nodup
theorem KT.keys {H : Hp} {kvs : List (List Key × V)} {xs : List (List Key × Addr × Value)} (r : KT H kvs xs) : kvs.map (·.1) = xs.map (·.1) := by
  induction r with
  | nil => rfl
  | cons h _ ih => rw [List.map_cons, List.map_cons, ih, h.1]
section
variable {X : Cx} {pins : List (Addr × Obj)} {σ : St} {H : Hp} {s : Shared} {a : Addr} {A : Around} {E : Value → Shared → Prop}
theorem d_copyT {kvs : List (List Key × V)} {Q : Value → Shared → Prop} (I : Inv X pins σ H s) (e : Rd H a (.dT kvs)) (hh : HashNd X.prog X.w kvs) (h : ∀ p s', H p = none → Inv X pins σ (upd H p (.dT kvs)) s' → Q (.ref p) s') : wpAny (model X.prog X.w) A (call (.type "dict") [.ref a]) Q E s := by
  obtain ⟨z, hd, xs, rel, o, es, ep, ho, hc, hdat, he, his, hn⟩ := dt_rd I.hok e
  have hl : es.size = xs.length := size_of_entries he
  have hl' : kvs.length = xs.length := Paired.length rel
  refine call_dict_tup hd ho hc hdat (fun x hx => ?_) ?_ (by omega) fun h' new keep => ?_
  · have hm : x ∈ xs.map (entryOfKey (tupleKind (mixKind X.prog X.w))) := he ▸ Array.mem_toList_iff.mpr hx
    obtain ⟨y, hy, rfl⟩ := List.mem_map.mp hm
    obtain ⟨ob, _, _, h1, h2, _⟩ := his y hy
    exact ⟨y.2.1, rfl, ob, h1, h2⟩
  · rw [he, List.map_map]
    have : xs.map ((fun x : DictEntry => x.hash) ∘ entryOfKey (tupleKind (mixKind X.prog X.w))) = kvs.map fun p => tupleKeyHash (mixKind X.prog X.w) p.1 := by
      have e1 : xs.map ((fun x : DictEntry => x.hash) ∘ entryOfKey (tupleKind (mixKind X.prog X.w))) = (xs.map (·.1)).map (tupleKeyHash (mixKind X.prog X.w)) := by rw [List.map_map]; rfl
      rw [e1, ← rel.keys, List.map_map]; rfl
    rw [this]; exact hh
  · obtain ⟨o', ep', h1, h2, h3⟩ := new
    have fr : H s.heap.objs.size = none := I.hok.fresh (Nat.le_refl _)
    refine h _ _ fr (I.laid (a := s.heap.objs.size) (o := .dT kvs) (t' := s.toks) keep (Nat.le_refl _) ⟨z, beq_eq_false_iff_ne.mpr (Ne.symm (Nat.ne_of_lt I.big)), xs, rel.keeps fun b ys q => ?_, o', es, ep', h1, h2, h3, he, hn⟩)
    rw [upd_ne (ne_of_none q fr)]; exact q
end
def rDict (P : Program) (w : World) : List V → Hp → VK → Prop := fun xs H Q => ∃ a, xs = [.ref a] ∧
  ((∃ kvs, Rd H a (.dK kvs) ∧ ∀ p, H p = none → Q (.ref p) (upd H p (.dK kvs))) ∨ ∃ kvs, Rd H a (.dT kvs) ∧ HashNd P w kvs ∧ ∀ p, H p = none → Q (.ref p) (upd H p (.dT kvs)))
theorem call_dict {X : Cx} : CallR X (.type "dict") (rDict X.prog X.w) := by
  intro pins s σ H xs us Q I r h
  obtain ⟨a, rfl, h⟩ := h
  obtain ⟨u, rfl, ru⟩ := vals1 r
  cases ru
  rcases h with ⟨kvs, e, q⟩ | ⟨kvs, e, hh, q⟩
  · exact d_copyOf I e fun p s' hp I' => ⟨.ref p, _, I', rfl, q p hp⟩
  · exact d_copyT I e hh fun p s' hp I' => ⟨.ref p, _, I', rfl, q p hp⟩
def eqOk : V → Bool
  | .flt _ => false
  | .byt _ => false
  | _ => true
theorem eq_relV {A : Around} {s : Shared} {v : V} {u u' : Value} (hf : eqOk v = true) (r : RelV v u) (r' : RelV v u') : SeqAt.EqAt A s u u' true := by
  cases v with
  | non => cases (show u = Value.none from r); cases (show u' = Value.none from r'); exact SeqAt.EqAt.same _
  | bl b => cases (show u = Value.bool b from r); cases (show u' = Value.bool b from r'); exact SeqAt.EqAt.same _
  | int i => obtain ⟨t, rfl⟩ := r; obtain ⟨t', rfl⟩ := r'; have h := SeqAt.EqAt.int_int (A := A) (s := s) i t i t'; rwa [beq_self_eq_true] at h
  | str x => obtain ⟨t, rfl⟩ := r; obtain ⟨t', rfl⟩ := r'; have h := SeqAt.EqAt.str_str (A := A) (s := s) x t x t'; simpa using h
  | byt b => exact absurd hf (by simp [eqOk])
  | flt b => exact absurd hf (by simp [eqOk])
  | ref a => cases (show u = Value.ref a from r); cases (show u' = Value.ref a from r'); exact SeqAt.EqAt.same _
  | ty n => cases (show u = Value.type n from r); cases (show u' = Value.type n from r'); exact SeqAt.EqAt.same _
def SmV (K : PySem.W.Frag) (H : Hp) (v v' : V) : Prop := (v = v' ∧ eqOk v = true) ∨ ∃ d e, Dp K H v d ∧ Dp K H v' e ∧ d.depth ≤ 60 ∧ PyData.eqv d e = true
theorem SmV.at {X : Cx} {pins : List (Addr × Obj)} {σ : St} {H : Hp} {s : Shared} {A : Around} {v v' : V} {u u' : Value} (I : Inv X pins σ H s) (h : SmV X.K H v v') (r : RelV v u) (r' : RelV v' u') (hu : A.units + 60 < cLine) : SeqAt.EqAt A s u u' true := by
  rcases h with ⟨rfl, h⟩ | ⟨d, e, h1, h2, hd, he⟩
  · exact eq_relV h r r'
  · obtain ⟨as, r1⟩ := h1.reads I r
    obtain ⟨bs, r2⟩ := h2.reads I r'
    have := SeqAt.eqAt_reads d e A s u u' as bs r1 r2 h1.lay h2.lay (by omega)
    rwa [he] at this
section
variable {prog : Program} {w : World} {K : Type} [DecidableEq K] {knd : HeapKind prog w K} {A : Around} {E : Value → Shared → Prop} {s : Shared}
theorem same_tup {nm : String} {a b : Addr} {xa xb : List (K × Addr × Value)} {Q : Bool → Shared → Prop} (hu : knd.room A) (ha : (a == sysModules) = false) (hb : (b == sysModules) = false)
    (da : s.heap.DictOfH knd a xa) (db : s.heap.DictOfH knd b xb) (hl : xa.length = xb.length) (hits : ∀ x ∈ xa, ∃ p, (x.1, p) ∈ xb ∧ SeqAt.EqAt A s x.2.2 p.2 true) (h : Q true s) :
    wpAny (model prog w) A (Builtin.Dict.samePairs nm a b) Q E s := by
  obtain ⟨oa, es, ep, hoa, _, hda, hea, hia, hna⟩ := da
  obtain ⟨ob, es', ep', hob, _, hdb, heb, hib, hnb⟩ := db
  have hla : es.size = xa.length := size_of_entries hea
  have hlb : es'.size = xb.length := size_of_entries heb
  unfold Builtin.Dict.samePairs Builtin.Dict.showsAll
  rw [if_neg (show ¬ (a == sysModules) = true by rw [ha]; exact Bool.false_ne_true), if_neg (show ¬ (b == sysModules) = true by rw [hb]; exact Bool.false_ne_true)]
  refine wpAny_bind (wpAny_pure (wpAny_bind (wpAny_pure (wpAny_bind (wpAny_dictEntries hoa hda ?_)))))
  dsimp only
  refine wpAny_bind (wpAny_dictEntries hob hdb ?_)
  rw [if_neg (by rw [hla, hlb, hl]; simp)]
  refine wpAny_bind (wpAny_dictEpoch hoa hda (wpAny_bind ?_))
  rw [Std.Legacy.Range.forIn_eq_forIn_range']
  simp only [Std.Legacy.Range.size, Nat.sub_zero, Nat.add_sub_cancel, Nat.div_one]
  refine wpAny_forIn_list _ (fun rest q s' => s' = s ∧ q = (none, ()) ∧ ∀ i ∈ rest, i < es.size) _ ?_ ?_ _ _ ⟨rfl, rfl, fun i hi => by simpa using hi⟩
  · rintro x rest q s' ⟨rfl, rfl, hr⟩
    have hx : x < es.size := hr x List.mem_cons_self
    have hx' : x < xa.length := by omega
    refine wpAny_bind (wpAny_dictEntries hoa hda ?_)
    rw [entry_at hea x, List.getElem?_eq_getElem hx']
    obtain ⟨p, hp, he⟩ := hits _ (List.getElem_mem hx')
    have hk : knd.is s'.heap xa[x].1 xa[x].2.1 := hia _ (List.getElem_mem hx')
    show wpAny _ _ (holding _ _ >>= _) _ _ _
    refine wpAny_bind (wpAny_holding (wpAny_bind ?_))
    refine wpAny_dictFind_heap (a := xa[x].2.1) hu hk hob hdb heb hib hnb (fun no => ?_) fun j p' hj => ?_
    · obtain ⟨j, hj⟩ := List.getElem?_of_mem hp
      exact absurd hj (no j p)
    · obtain ⟨j', hj'⟩ := List.getElem?_of_mem hp
      have ej : j = j' := idxH_unique hnb hj hj'
      rw [ej, hj'] at hj
      obtain rfl : p = p' := by cases hj; rfl
      rw [ej]
      refine wpAny_bind (wpAny_dictEntries hob hdb ?_)
      rw [entry_at heb j', hj']
      refine wpAny_holding (he prog w _ _ ?_)
      show wpAny _ _ (if (!true) = true then _ else _) _ _ _
      rw [if_neg (by decide)]
      refine wpAny_bind (wpAny_dictEpoch hoa hda ?_)
      rw [if_neg (by simp)]
      exact wpAny_pure ⟨rfl, rfl, fun i hi => hr i (List.mem_cons_of_mem _ hi)⟩
  · rintro q s' ⟨rfl, rfl, _⟩
    exact wpAny_pure h
theorem ne_tup {a b : Addr} {xa xb : List (K × Addr × Value)} {Q : Value → Shared → Prop} (hu : knd.room A.in1) (hu' : A.units < cLine) (ha : (a == sysModules) = false) (hb : (b == sysModules) = false)
    (da : s.heap.DictOfH knd a xa) (db : s.heap.DictOfH knd b xb) (hl : xa.length = xb.length) (hits : ∀ x ∈ xa, ∃ p, (x.1, p) ∈ xb ∧ SeqAt.EqAt A.in1 s x.2.2 p.2 true) (h : Q (.bool false) s) :
    wpAny (model prog w) A (compareOp .NotEq (.ref a) (.ref b)) Q E s := by
  refine wpAny_richCompare_same_room (op := .NotEq) da.typeIs db.typeIs PySem.F.slot_dict_ne (wpAny_call_entry PySem.F.slot_dict_ne da.typeIs PySem.F.entry_dict_ne ?_ (PySem.F.args_dict_ne_2 _ _)) hu'
  show wpAny _ _ (Builtin.Dict.dictSlotArgs "__ne__" ⟨[.ref a, .ref b], []⟩ >>= _) _ _ s
  refine wpAny_bind ?_
  unfold Builtin.Dict.dictSlotArgs
  refine wpAny_bind (wpAny_notOrdered_dict da.typeIs ?_)
  show wpAny _ _ (pure (Value.ref a, Value.ref b)) _ _ s
  refine wpAny_pure (wpAny_bind (wpAny_isInstance (T := "dict") db.typeIs PySem.F.sub_dict_dict ?_))
  simp only [Bool.not_true, Bool.false_eq_true, if_false]
  refine wpAny_bind (wpAny_pure (wpAny_bind (wpAny_pure (wpAny_bind (same_tup hu ha hb da db hl hits ?_)))))
  exact wpAny_pure ⟨_, rfl, (fun x => nomatch x), h⟩
end
theorem mem_valV {κ : Type} [DecidableEq κ] {kvs : List (κ × V)} {k : κ} {v : V} (h : valV kvs k = some v) : (k, v) ∈ kvs := by
  unfold valV at h
  obtain ⟨p, hp, rfl⟩ := Option.map_eq_some_iff.mp h
  have := List.find?_some hp
  have e : p.1 = k := of_decide_eq_true this
  rw [← e]
  exact List.mem_of_find?_eq_some hp
def SmD (K : PySem.W.Frag) (H : Hp) (a b : Addr) : Prop :=
  (∃ ka kb, Rd H a (.dK ka) ∧ Rd H b (.dK kb) ∧ ka.length = kb.length ∧ ∀ p ∈ ka, ∃ v, valV kb p.1 = some v ∧ SmV K H p.2 v) ∨
  ∃ ka kb, Rd H a (.dT ka) ∧ Rd H b (.dT kb) ∧ ka.length = kb.length ∧ ∀ p ∈ ka, ∃ v, valV kb p.1 = some v ∧ SmV K H p.2 v
theorem pair_mem {α β : Type} {R : α → β → Prop} : ∀ {xs : List α} {ys : List β}, Paired R xs ys → ∀ y ∈ ys, ∃ x ∈ xs, R x y
  | _, _, .nil, _, h => by simp at h
  | _, _, .cons r t, y, h => by
    rcases List.mem_cons.mp h with rfl | h
    · exact ⟨_, List.mem_cons_self, r⟩
    · obtain ⟨x, hx, q⟩ := pair_mem t y h
      exact ⟨x, List.mem_cons_of_mem _ hx, q⟩
theorem pair_mem' {α β : Type} {R : α → β → Prop} : ∀ {xs : List α} {ys : List β}, Paired R xs ys → ∀ x ∈ xs, ∃ y ∈ ys, R x y
  | _, _, .nil, _, h => by simp at h
  | _, _, .cons r t, y, h => by
    rcases List.mem_cons.mp h with rfl | h
    · exact ⟨_, List.mem_cons_self, r⟩
    · obtain ⟨x, hx, q⟩ := pair_mem' t y h
      exact ⟨x, List.mem_cons_of_mem _ hx, q⟩
theorem hits_all {K : Type} [DecidableEq K] {A : Around} {s : Shared} {kb : List (K × Value)} : ∀ (ka : List (K × Value)), (∀ x ∈ ka, ∃ y, valueAt kb x.1 = some y ∧ SeqAt.EqAt A s x.2 y true) → PySem.W.KeqHits A s kb ka true
  | [], _ => .nil
  | (k, v) :: r, h => by
    obtain ⟨y, h1, h2⟩ := h (k, v) List.mem_cons_self
    exact PySem.W.KeqHits.hit (e := true) (b := true) h1 h2 (hits_all r fun x hx => h x (List.mem_cons_of_mem _ hx))
section
variable {X : Cx}
theorem hits_k {pins : List (Addr × Obj)} {σ : St} {H : Hp} {s : Shared} {A : Around} {ka kb : List (Key × V)} {va vb : List (Key × Value)} (I : Inv X pins σ H s) (ra : KV ka va) (rb : KV kb vb) (hu : A.units + 60 < cLine)
    (h : ∀ p ∈ ka, ∃ v, valV kb p.1 = some v ∧ SmV X.K H p.2 v) : PySem.W.KeqHits A s vb va true := by
  refine hits_all va fun x hx => ?_
  obtain ⟨p, hp, e1, r1⟩ := pair_mem ra x hx
  obtain ⟨v, hv, sm⟩ := h p hp
  have r := rb.val p.1
  rw [hv] at r
  cases e : valueAt vb p.1 with
  | none => rw [e] at r; exact r.elim
  | some y =>
    rw [e] at r
    exact ⟨y, by rw [← e1]; exact e, sm.at I r1 r hu⟩
theorem hits_t {pins : List (Addr × Obj)} {σ : St} {H : Hp} {s : Shared} {A : Around} {ka kb : List (List Key × V)} {va vb : List (List Key × Addr × Value)} (I : Inv X pins σ H s) (ra : KT H ka va) (rb : KT H kb vb) (hu : A.units + 60 < cLine)
    (h : ∀ p ∈ ka, ∃ v, valV kb p.1 = some v ∧ SmV X.K H p.2 v) : ∀ x ∈ va, ∃ p, (x.1, p) ∈ vb ∧ SeqAt.EqAt A s x.2.2 p.2 true := by
  intro x hx
  obtain ⟨p, hp, e1, _, r1⟩ := pair_mem ra x hx
  obtain ⟨v, hv, sm⟩ := h p hp
  obtain ⟨y, hy, e2, _, r2⟩ := pair_mem' rb _ (mem_valV hv)
  refine ⟨y.2, ?_, sm.at I r1 r2 hu⟩
  rw [← e1, show p.1 = y.1 from e2]
  exact hy
def rNeDic (K : PySem.W.Frag) : R2 := fun x y H Q => ∃ a b, x = .ref a ∧ y = .ref b ∧ SmD K H a b ∧ Q (.bl false) H
theorem op_neDic {k : Nat} (hr : Room k X.A) : OpR X (compareOp .NotEq) (rNeDic X.K) := by
  intro pins s σ H x y v u Q I rx ry h
  obtain ⟨a, b, rfl, rfl, h, q⟩ := h
  cases (show v = Value.ref a from rx)
  cases (show u = Value.ref b from ry)
  have hu := hr.units
  have hu' : X.A.in1.units + 60 < cLine := by show X.A.units + 1 + 60 < cLine; omega
  rcases h with ⟨ka, kb, ha, hb, hl, hs⟩ | ⟨ka, kb, ha, hb, hl, hs⟩
  · obtain ⟨_, ma, va, ra, da⟩ := dk_rd I.hok ha
    obtain ⟨_, mb, vb, rb, db⟩ := dk_rd I.hok hb
    refine PySem.W.keq_ne (r := true) ma mb da db (by omega) (fun _ => hits_k I ra rb hu' hs) ?_
    rw [← ra.length, ← rb.length, hl, beq_self_eq_true]
    exact ⟨.bl false, H, I, rfl, q⟩
  · obtain ⟨_, ma, va, ra, da⟩ := dt_rd I.hok ha
    obtain ⟨_, mb, vb, rb, db⟩ := dt_rd I.hok hb
    exact ne_tup (tupleKind_room_in1 (by omega)) (by omega) ma mb da db (by rw [← Paired.length ra, ← Paired.length rb, hl]) (hits_t I ra rb hu' hs) ⟨.bl false, H, I, rfl, q⟩
end
theorem nolen_lri : typeLookup (.type "list_reverseiterator") "__len__" = pure none := by rw [typeLookup_type, builtinLookup_eq_fast]; kernel_rfl
theorem hint_lri : typeLookup (.type "list_reverseiterator") "__length_hint__" = pure (some (.builtin "list_reverseiterator.__length_hint__")) := by rw [typeLookup_type, builtinLookup_eq_fast]; kernel_rfl
section
variable {prog : Program} {w : World} {A : Around} {E : Value → Shared → Prop} {s : Shared} {I : Addr} {fp wr : List Addr} {G : Array GenState → Array GenState → Prop} {n : Nat} {P : Nat → Value → Prop} {St : Nat → Shared → Prop}
theorem extend_rev {R : Result → Shared → Prop} (W : WalksS prog w A.in1 I fp wr G n P St) (hT : ∀ i s, St i s → s.TypeIs (.ref I) "list_reverseiterator") (S : Addr) (res : Value) (c₀ : Nat) (hst : St 0 s) (hSf : S ∉ fp) (hI : I ∈ fp)
    (hS : s.heap.get? S = some { cls := .type "list", data := .seq #[] c₀ }) (hn : n ≤ sizeLine)
    (hR : ∀ s' acc' c', Moved (S :: wr) G s s' → s'.heap.get? S = some { cls := .type "list", dict := none, data := .seq acc' c', slots := #[] } → ItemsOf P acc' n → R (.ok (.ret res)) s') :
    wpAny (model prog w) A.in1 (Builtin.List.listExtendWith (.ref S) (.ref I) res)
      (fun fin s' => match fin with | .done f => R (.ok f) s' | .again c' => c'.quiet = true ∧ codeAny (model prog w) A c' R s') (fun e s' => R (.error e) s') s := by
  have hSI : S ≠ I := fun e => hSf (e ▸ hI)
  unfold Builtin.List.listExtendWith
  refine wpAny_bind (wpAny_typeOf (hT 0 _ hst) ?_)
  have h1 : Builtin.List.listSameRef (.ref S) (.ref I) = false := by simp [Builtin.List.listSameRef, hSI]
  rw [if_neg (by rw [h1]; decide)]
  refine wpAny_bind (W.self 0 _ _ _ hst (wpAny_bind (wpAny_holding ?_)))
  unfold Builtin.List.listLengthHint
  refine wpAny_bind (wpAny_specialOf (hT 0 _ hst) nolen_lri ?_)
  show wpAny _ A.in1 (specialOf (Value.ref I) (Str.ofString "__length_hint__") >>= _) _ _ _
  refine wpAny_bind (wpAny_specialOf (hT 0 _ hst) hint_lri ?_)
  generalize hid : ("list_reverseiterator.__length_hint__" : String) = id0
  wp_delta
  rw [show splitId id0 = some ("list_reverseiterator", "__length_hint__") from by subst hid; decide +kernel]
  subst hid
  refine wpAny_bind (wpAny_isInstance (b := true) (hT 0 _ hst) (by rw [isSubtype_type]; kernel_rfl) (wpAny_pure ?_))
  rw [if_neg (by decide)]
  exact wpAny_pure ⟨plainId_quiet F.plain_extend_loop _, codeAny_extend_loopS W hn _ hSf _ n 0 _ _ _ rfl (Nat.zero_le _) hst hS (ItemsOf.nil P) fun s' acc' c' hm hS' hacc => hR s' acc' c' hm hS' hacc⟩
theorem call_list_rev {Q : Value → Shared → Prop} (W : WalksS prog w A.in1.in1 I fp wr G n P St) (hT : ∀ i s, St i s → s.TypeIs (.ref I) "list_reverseiterator") (hst : St 0 s) (hfp : ∀ b ∈ fp, b < s.heap.objs.size) (hI : I ∈ fp) (hn : n ≤ sizeLine)
    (hQ : ∀ s' acc' c', Moved (s.heap.objs.size :: wr) G { s with heap := s.heap.push { cls := .type "list", data := .seq #[] } } s' →
      s'.heap.get? s.heap.objs.size = some { cls := .type "list", dict := none, data := .seq acc' c', slots := #[] } → ItemsOf P acc' n → Q (.ref s.heap.objs.size) s') :
    wpAny (model prog w) A (call (.type "list") [.ref I]) Q E s := by
  have hSf : s.heap.objs.size ∉ fp := fun hm => Nat.lt_irrefl _ (hfp _ hm)
  refine callType_codes (Q₁ := fun v s₁ => v = .ref s.heap.objs.size ∧ s₁ = { s with heap := s.heap.push { cls := .type "list", data := .seq #[] } }) F.called_list (F.typeCall_list_1 _) F.entry_list_init
    (code_list_new _ ⟨rfl, rfl⟩) fun v s₁ h₁ => ?_
  obtain ⟨rfl, rfl⟩ := h₁
  have hS : (s.heap.push { cls := .type "list", data := .seq #[] }).get? s.heap.objs.size = some { cls := .type "list", data := .seq #[] } := Heap.get?_push_size _ rfl
  refine ⟨⟨_, hS, rfl⟩, F.args_list_init_2 _ _, ?_⟩
  have hst₁ := W.frame 0 s _ s.toks hst (Nat.le_refl _) fun b _ o e => Heap.get?_push_of_some { cls := .type "list", data := .seq #[] } e
  show wpAny _ A.in1.in1 (do let old ← Builtin.List.listItems (.ref s.heap.objs.size); Builtin.List.listUpdate (.ref s.heap.objs.size) (fun _ => #[]); letGo old.toList.reverse; Builtin.List.listExtendWith (.ref s.heap.objs.size) (.ref I) .none) _ _ _
  refine wpAny_bind ?_
  unfold Builtin.List.listItems
  refine wpAny_bind (wpAny_seqItems hS rfl (wpAny_pure ?_))
  show wpAny _ A.in1.in1 (updateSeq s.heap.objs.size (fun _ => #[]) >>= fun _ => letGo (#[] : Array Value).toList.reverse >>= fun _ => Builtin.List.listExtendWith (.ref s.heap.objs.size) (.ref I) .none) _ _ _
  refine wpAny_bind (wpAny_updateSeq hS rfl ?_)
  have hS₂ := Heap.get?_update_self (Obj.mapSeq (fun _ => (#[] : Array Value))) hS rfl
  have oth : ∀ b o, b ≠ s.heap.objs.size → (s.heap.push { cls := .type "list", data := .seq #[] }).get? b = some o → ((s.heap.push { cls := .type "list", data := .seq #[] }).update s.heap.objs.size (Obj.mapSeq (fun _ => (#[] : Array Value)))).get? b = some o :=
    fun b o hb e => (Heap.get?_update_other _ _ (Ne.symm hb)).trans e
  refine wpAny_bind (wpAny_letGo ?_)
  refine extend_rev W hT _ .none _ (W.frame 0 _ _ s.toks hst₁ (Nat.le_refl _) fun b hb o e => oth b o (fun h => hSf (h ▸ hb)) e) hSf hI hS₂ hn fun s' acc' c' hm hS' hacc => ?_
  exact ⟨rfl, hQ s' acc' c' (Moved.trans W.gtrans ((Moved.refl W.grefl).then_heap (Nat.le_refl _) fun b o hb e => oth b o (fun h => hb (h ▸ List.mem_cons_self)) e) hm) hS' hacc⟩
end
def tListRev (K : PySem.W.Frag) (te : TE) : TE := fun σ H Q => te σ H fun x H1 => ∃ l ys, x = .ref l ∧ SqL K H1 l ys ∧ ∀ p, H1 p = none → Q (.ref p) (upd H1 p (.lst ys.reverse))
theorem pe_listRev {X : Cx} {e : Expr} {te : TE} {p1 p2 pos1 pos2 : Pos} (hc : X.calm = true) (hg : Gl X "list") (hm : X.mg "list" = none) (hg' : Gl X "reversed") (hm' : X.mg "reversed" = none) (he : PE X e te)
    (hs : starEach [Expr.Call (.Name "reversed" p2) [e] [] pos2] X.env = [(false, eval (.Call (.Name "reversed" p2) [e] [] pos2) X.env)] := by rfl) (hs' : starEach [e] X.env = [(false, eval e X.env)] := by rfl) :
    PE X (.Call (.Name "list" p1) [.Call (.Name "reversed" p2) [e] [] pos2] [] pos1) (tListRev X.K te) := by
  intro pins s σ H Q I h
  refine wpAny_Call_Name_kw (ld_blt I hg hm bt_list ?_ (by decide) (by decide))
  refine PyProof.Rows.callWith_type1 ?_ hs rfl
  rw [hs]
  show wpAny _ _ (spliced [(false, eval (.Call (.Name "reversed" p2) [e] [] pos2) X.env)]) _ _ s
  refine Calls.spliced_cons ?_
  refine wpAny_Call_Name_kw (ld_blt I hg' hm' bt_reversed ?_ (by decide) (by decide))
  refine PyProof.Rows.callWith_type1 ?_ hs' rfl
  rw [hs']
  show wpAny _ _ (spliced [(false, eval e X.env)]) _ _ s
  refine Calls.spliced_cons (thn (he pins s σ H _ I h) fun u s1 ⟨x, H1, I1, ru, l, ys, ex, hq, q⟩ => Calls.spliced_nil ?_)
  subst ex
  cases (show u = Value.ref l from ru)
  obtain ⟨its, rv, pl, hz⟩ := I1.list hq
  have hlL : l < s1.heap.objs.size := by obtain ⟨o, ho, _⟩ := pl.isList; exact Heap.lt_size ho
  refine call_reversed_list pl.isList (Calls.spliced_nil ?_)
  have kp : ∀ b o, s1.heap.get? b = some o → (s1.heap.push (revObj l ((its.toArray.size : Int) - 1))).get? b = some o := fun b o z => Heap.get?_push_of_some _ z
  have I2 := I1.kept (t' := s1.toks) kp
  have hI : (s1.heap.push (revObj l ((its.toArray.size : Int) - 1))).IsRevIter s1.heap.objs.size l ((its.toArray.size : Int) - 1) := ⟨_, Heap.get?_push_size _ rfl, rfl, rfl⟩
  have hl2 : (s1.heap.push (revObj l ((its.toArray.size : Int) - 1))).IsList l its.toArray := pl.isList.at fun o z => kp _ _ z
  have W := (Walks.listRev (prog := X.prog) (w := X.w) (A := X.A.in1.in1) (I1.ok.hd hc) s1.heap.objs.size l (Nat.ne_of_lt hlL) its.toArray).toS
  have hz2 : (s1.heap.push (revObj l ((its.toArray.size : Int) - 1))).objs.size = s1.heap.objs.size + 1 := Heap.size_push ..
  have hle : its.toArray.size ≤ sizeLine := by rw [List.size_toArray, ← rv.length]; exact hz
  refine call_list_rev W (fun i s' st => st.2.1.typeIs) ⟨Nat.zero_le _, by simpa using hI, hl2⟩ (fun b hb => ?_) (by simp) hle fun s' acc c hmv hS ⟨ha1, ha2⟩ => ?_
  · show b < (s1.heap.push _).objs.size
    rw [hz2]
    rcases List.mem_cons.mp hb with rfl | hb
    · exact Nat.lt_succ_self _
    · rw [List.mem_singleton.mp hb]; exact Nat.lt_succ_of_lt hlL
  · have es := Moved.eq_with hmv
    have hH1 : H1 (s1.heap.objs.size + 1) = none := I1.hok.fresh (Nat.le_succ _)
    have hv : Vals ys.reverse acc.toList := by
      have e : acc.toList = its.reverse := by
        refine List.ext_getElem? fun j => ?_
        rcases Nat.lt_or_ge j its.length with hj | hj
        · have hj' : j < acc.size := by rw [ha1]; simpa using hj
          have := ha2 j acc[j] (Array.getElem?_eq_getElem hj')
          rw [List.getElem?_reverse hj, Array.getElem?_toList, Array.getElem?_eq_getElem hj', ← this]
          simp
        · rw [List.getElem?_eq_none (by rw [Array.length_toList, ha1]; simpa using hj), List.getElem?_eq_none (by simpa using hj)]
      rw [e]; exact rv.reverse
    have hS' : s'.heap.get? (s1.heap.objs.size + 1) = some { cls := .type "list", dict := none, data := .seq acc c, slots := #[] } := by rw [← hz2]; exact hS
    have J := Inv.turnedLaid (a := s1.heap.objs.size + 1) (o := .lst ys.reverse) (h' := s'.heap) (t' := s'.toks) (fp := [s1.heap.objs.size]) I2 (fun b hb => ?_) (fun b o hb z => ?_) (Heap.get?_none_of_le (by show (s1.heap.push _).objs.size ≤ _; rw [hz2]; exact Nat.le_refl _))
      (show ObjOk X.prog X.w _ s'.heap _ (.lst ys.reverse) from ⟨by rw [List.length_reverse]; exact hz, acc.toList, c, hv, by simpa using hS'⟩)
    · rw [es]
      refine ⟨.ref (s1.heap.objs.size + 1), _, J, ?_, q _ hH1⟩
      show Value.ref (s1.heap.push _).objs.size = _
      rw [hz2]
    · rw [List.mem_singleton.mp hb]; exact I1.fpOk (Nat.le_refl _) (I1.hok.fresh (Nat.le_refl _))
    · refine hmv.heap b o (fun hx => ?_) (Heap.get?_push_of_some _ z)
      rcases List.mem_cons.mp hx with e | hx
      · have := Heap.lt_size z; rw [e] at this; exact Nat.lt_irrefl _ this
      · exact hb hx
theorem Room.one {k : Nat} {A : Around} (r : Room k A) : A.units + 1 < cLine := by have := r.un; omega
theorem ev_dget {td ty : TE} {σ : St} {H : Hp} {a : Addr} {y v : V} (ha : Ev td σ H (.ref a)) (hb : Ev ty σ H y) (g : DGet H a y (some v)) : Ev (tDGet td ty) σ H v := fun _ q => ha _ (hb _ ⟨a, v, rfl, g, q⟩)
end L2
namespace L2
open PySem PySem.Spec PyProof.Rows
section
variable {X : Cx} {pins : List (Addr × Obj)} {σ : St} {H : Hp} {s : Shared} {d : Addr} {u : HO} {o : Obj}
theorem ObjOk.upd {P : Program} {w : World} {h : Heap} {b : Addr} {x v : HO} (ok : ObjOk P w H h b x) (nt : ∀ xs, H d ≠ some (.tup xs)) (no : ∀ y, H d ≠ some (.own y)) : ObjOk P w (L2.upd H d v) h b x :=
  ok.stay (fun _ _ _ q => q) (fun c q => by rw [upd_ne (fun z => by rw [z] at q; exact no _ q)]; exact q) fun c xs q => by rw [upd_ne (fun z => by rw [z] at q; exact nt _ q)]; exact q
end
section
variable {prog : Program} {w : World} {A : Around} {E : Value → Shared → Prop} {s : Shared} {d it : Addr} {o : Obj} {es : Array DictEntry} {i ep : Nat}
end
section
variable {prog : Program} {w : World} {A : Around} {E : Value → Shared → Prop} {s : Shared} {d it v : Addr} {o : Obj} {es : Array DictEntry} {i ep : Nat} {ok ov : Value}
end
end L2
namespace L2
open PySem PySem.Spec PyProof.Rows
section
variable {X : Cx}
end
section
variable {prog : Program} {w : World} {A : Around} {E : Value → Shared → Prop} {s : Shared} {d : Addr} {o : Obj} {es : Array DictEntry} {ep : Nat}
theorem clear_raw {Q : Value → Shared → Prop} (ho : s.heap.get? d = some o) (hc : o.ExactDict) (hdat : o.data = .dict es ep) (hz : es.size ≤ sizeLine)
    (h : ∀ h', (∃ o' ep', h'.get? d = some o' ∧ o'.ExactDict ∧ o'.data = .dict #[] ep') → Heap.SameBut d s.heap h' → Q .none { s with heap := h' }) : wpAny (model prog w) A (call (.builtin "dict.clear") [.ref d]) Q E s := by
  have hT : s.TypeIs (.ref d) "dict" := ⟨o, ho, hc.1⟩
  refine wpAny_call_entry F.slot_dict_clear hT F.entry_dict_clear ?_ (F.args_dict_clear_1 _)
  unfold Builtin.«dict.clear» Builtin.Dict.noArgs
  refine wpAny_bind (wpAny_bind (wpAny_notOrdered_dict hT ?_))
  show wpAny _ _ (pure d) _ _ s
  refine wpAny_pure (wpAny_bind (wpAny_dictEntries ho hdat (wpAny_bind ?_)))
  unfold bearsInstanceDictMark
  refine wpAny_bind (wpAny_load ho (wpAny_pure ?_))
  refine wpAny_bind (wpAny_updateDictKeys (hz := hz) ho hdat ?_)
  have new : ∃ o' ep', (s.heap.update d (Obj.mapDictKeys fun _ => #[])).get? d = some o' ∧ o'.ExactDict ∧ o'.data = .dict #[] ep' :=
    ⟨_, ep + 1, Heap.get?_update_self _ ho (Obj.isFreed_of_dict (Obj.data_mapDictKeys hdat _)), hc.mapDictKeys _, Obj.data_mapDictKeys hdat _⟩
  split
  · exact wpAny_bind (wpAny_letGo (wpAny_pure ⟨.none, rfl, h _ new (Heap.SameBut.update ..)⟩))
  · exact wpAny_bind (wpAny_pure (wpAny_pure ⟨.none, rfl, h _ new (Heap.SameBut.update ..)⟩))
end
section
variable {X : Cx}
def rClearT : V → List V → Hp → VK → Prop := fun x vs H Q => ∃ a kvs, x = .ref a ∧ vs = [] ∧ H a = some (.dT kvs) ∧ Q .non (upd H a (.dT []))
theorem mt_clearT : MtR X "dict.clear" rClearT := by
  intro pins s σ H x vs v us Q I rx rv h
  obtain ⟨a, kvs, rfl, rfl, ha, q⟩ := h
  cases (show v = Value.ref a from rx)
  cases rv
  obtain ⟨z, hd, xs, rel, o, es, ep, ho, hc, hdat, he, _⟩ := dt_of I.hok ha
  have e1 := size_of_entries he
  have e2 := Paired.length rel
  refine clear_raw ho hc hdat (by omega) fun h' ⟨o', ep', h1, h2, h3⟩ sb => ?_
  refine ⟨.non, _, I.write (t' := s.toks) (x := a) (e := a) (o := .dT []) (by rw [ha]; exact True.intro) (.inl rfl) (fun b w hb q => (sb.2 b hb).trans q) ⟨o', h1⟩ ?_, rfl, q⟩
  exact ⟨Nat.zero_le _, hd, [], .nil, o', #[], ep', h1, h2, h3, rfl, List.nodup_nil⟩
end
section
variable {X : Cx}
end
end L2
namespace L2
open PySem PySem.Spec PyProof.Rows
def hAt (es : Array (Int × Value)) (i : Nat) : Int := (es[i]?.map (·.1)).getD 0
def addT (t : SetTable) (es : Array (Int × Value)) (h : Int) (x : Value) : Option (SetTable × Array (Int × Value)) :=
  if t.gaveWay = true then none else
  match t.probe (hAt es) h (t.probeStart h) with
  | some (.empty j none) => if (t.put j).1.tooFull = true then none else if (t.put j).1.fits (SetTable.insertAt es (t.put j).2 (h, x)).size = true then some ((t.put j).1, SetTable.insertAt es (t.put j).2 (h, x)) else none
  | _ => none
section
variable {prog : Program} {w : World} {A : Around} {E : Value → Shared → Prop} {s : Shared}
theorem hbv_ints {b : Addr} {o : Obj} {items : Array Value} {n : Nat} {Q : Bool → Shared → Prop} (ho : s.heap.get? b = some o) (hc : o.cls = .type "tuple") (hd : o.data = .seq items n) (hi : ∀ v ∈ items, ∃ i t, v = Value.int i t) (h : Q true s) :
    wpAny (model prog w) A (hashByValue 8 (.ref b)) Q E s := by
  have hT : s.TypeIs (.ref b) "tuple" := ⟨o, ho, hc⟩
  unfold hashByValue
  refine wpAny_bind (wpAny_specialOf hT F.slot_tuple_hash.lookup ?_)
  dsimp only
  refine wpAny_bind ?_
  unfold seqItems?
  refine wpAny_bind (wpAny_load ho ?_)
  rw [hd]
  refine wpAny_pure (wpAny_bind ?_)
  show wpAny _ _ (forIn items _ _) _ _ _
  rw [← Array.forIn_toList]
  refine wpAny_forIn_list _ (fun rest q s' => s' = s ∧ q = (none, ()) ∧ ∀ v ∈ rest, ∃ i t, v = Value.int i t) _ ?_ ?_ _ _ ⟨rfl, rfl, fun v hv => hi v (Array.mem_toList_iff.mp hv)⟩
  · rintro v rest q s' ⟨rfl, rfl, hr⟩
    obtain ⟨i, t, rfl⟩ := hr v List.mem_cons_self
    have e : hashByValue 7 (.int i t) = pure true := by simp [hashByValue]
    rw [e]
    exact wpAny_bind (wpAny_pure (by
      show wpAny _ _ (if (!true) = true then _ else _) _ _ _
      rw [if_neg (by decide)]
      exact wpAny_pure ⟨rfl, rfl, fun x hx => hr x (List.mem_cons_of_mem _ hx)⟩))
  · rintro q s' ⟨rfl, rfl, _⟩
    exact wpAny_pure h
theorem setAdd_free {K : Type} [DecidableEq K] {knd : HeapKind prog w K} {a b : Addr} {k : K} {o : Obj} {es es' : Array (Int × Value)} {ep : Nat} {t t' : SetTable} {Q : Bool → Shared → Prop} (hr : knd.room A) (hk : knd.is s.heap k b) (ho : s.heap.get? a = some o) (hd : o.data = .set es ep t) (hf : t.fits es.size = true) (hz : es'.size < 1000)
    (hv : ∀ (tk : Nat) (Q' : Bool → Shared → Prop), Q' true { s with toks := tk } → wpAny (model prog w) A (hashByValue 8 (.ref b)) Q' E { s with toks := tk })
    (e : addT t es (knd.hash k) (.ref b) = some (t', es'))
    (h : ∀ h', Heap.SameBut a s.heap h' → h'.get? a = some { o with data := .set es' (ep + 1) t' } → Q true { s with heap := h', toks := s.toks + knd.draws k }) :
    wpAny (model prog w) A (setAdd a (.ref b)) Q E s := by
  unfold addT at e
  split at e
  · cases e
  · rename_i hg
    split at e
    · rename_i j hp
      split at e
      · cases e
      · rename_i hfull
        split at e
        · rename_i hfit
          injection e with e
          injection e with e1 e2
          unfold setAdd
          refine wpAny_holding (wpAny_bind (knd.pyHash hr hk ?_))
          unfold setAddHashed
          refine wpAny_holding ?_
          show wpAny _ _ (setAddHashedIn a (.ref b) (knd.hash k) (99999 + 1)) _ _ _
          unfold setAddHashedIn
          refine wpAny_bind (wpAny_setState_of (s := { s with toks := s.toks + knd.draws k }) ho hd hf ?_)
          dsimp only
          rw [if_neg (show ¬ byScan (.ref b) es = true by simp [byScan, Value.scannable])]
          refine wpAny_bind ?_
          unfold setSearch
          show wpAny _ _ (setSearchFrom a (.ref b) (knd.hash k) true (99999 + 1) none) _ _ _
          unfold setSearchFrom
          refine wpAny_bind (wpAny_setState_of (s := { s with toks := s.toks + knd.draws k }) ho hd hf ?_)
          dsimp only
          rw [if_neg hg]
          split
          · rename_i met hm
            have em : met = .empty j none := Option.some.inj (hm.symm.trans hp)
            subst em
            dsimp only
            refine wpAny_pure ?_
            dsimp only
            refine wpAny_bind (wpAny_setState_of (s := { s with toks := s.toks + knd.draws k }) ho hd hf ?_)
            dsimp only
            subst e1 e2
            have tail : wpAny (model prog w) A (storeSet a (SetTable.insertAt es (t.put j).2 (knd.hash k, .ref b)) (t.put j).1 >>= fun _ => if (!false && (t.put j).1.tooFull) = true then (setRelay a (SetTable.grown (es.size + 1)) >>= fun _ => pure true) else pure true) Q E { s with toks := s.toks + knd.draws k } := by
              refine wpAny_bind (wpAny_storeSet_of (s := { s with toks := s.toks + knd.draws k }) ho hd ?_ (by have : sizeLine = 2 ^ 24 := rfl; omega))
              rw [if_neg (by simpa using hfull)]
              refine wpAny_pure (h _ (Heap.SameBut.update ..) ?_)
              have := Heap.get?_update_self (Obj.putSet (SetTable.insertAt es (t.put j).2 (knd.hash k, .ref b)) (t.put j).1) ho (by rw [putSet_of _ _ hd]; rfl)
              rw [putSet_of _ _ hd] at this
              exact this
            split
            · refine wpAny_bind (hv _ _ ?_)
              rw [if_pos (rfl : true = true)]
              exact tail
            · refine wpAny_bind (wpAny_pure ?_)
              rw [if_pos (rfl : true = true)]
              exact tail
          · rename_i hm
            exact (hm _ hp).elim
        · cases e
    · cases e
end
section
variable {prog : Program} {w : World} {A : Around} {R : Result → Shared → Prop} {I : Addr} {fp wr : List Addr} {G : Array GenState → Array GenState → Prop} {n : Nat} {P : Nat → Value → Prop} {St : Nat → Shared → Prop}
def ITup (h : Heap) (k : List Int) (b : Addr) : Prop := ∃ o items c, h.get? b = some o ∧ o.cls = .type "tuple" ∧ o.data = .seq items c ∧ IntsAre items.toList k
theorem loop_tups (W : WalksS prog w A.in1 I fp wr G n P St) (S : Addr) (hSf : S ∉ fp) (knd : HeapKind prog w (List Int)) (hroom : knd.room A.in1) (his : ∀ h k b, ITup h k b → knd.is h k b) (ad : Nat → Addr) (key : Nat → List Int) (hval : ∀ i v, P i v → v = .ref (ad i))
    (had : ∀ i, i < n → ad i ≠ S ∧ ad i ∉ wr) (T : Nat → SetTable) (Es : Nat → Array (Int × Value)) (hadd : ∀ i, i < n → addT (T i) (Es i) (knd.hash (key i)) (.ref (ad i)) = some (T (i + 1), Es (i + 1))) (hfit : ∀ i, i ≤ n → (T i).fits (Es i).size = true ∧ (Es i).size < 1000) :
    ∀ (k i : Nat) (s : Shared), n - i = k → i ≤ n → St i s → (∀ j, j < n → ITup s.heap (key j) (ad j)) → (∃ o ep, s.heap.get? S = some o ∧ o.ExactSet ∧ o.data = .set (Es i) ep (T i)) →
      (∀ s', Moved (S :: wr) G s s' → (∃ o ep, s'.heap.get? S = some o ∧ o.ExactSet ∧ o.data = .set (Es n) ep (T n)) → R (.ok (.ret .none)) s') →
      codeAny (model prog w) A (.builtin "set.update.loop" ⟨[.ref S, .ref I], []⟩) R s := by
  have hSw : S ∉ wr := fun h => hSf (W.sub _ h)
  have more : ∀ b ∈ wr, b ∈ S :: wr := fun b hb => List.mem_cons_of_mem _ hb
  have it_kept : ∀ {h h' : Heap} {k b}, ITup h k b → (∀ o, h.get? b = some o → h'.get? b = some o) → ITup h' k b := fun ⟨o, its, c, h1, h2⟩ f => ⟨o, its, c, f o h1, h2⟩
  intro k
  induction k with
  | zero =>
    intro i s hk hi hst ht hS hR
    obtain rfl : i = n := by omega
    refine codeAny_builtin F.entry_set_update_loop ?_
    rw [Around.under_plainId F.plain_set_update_loop _]
    show wpAny _ A.in1 (pyNext (.ref I) >>= _) _ _ s
    refine wpAny_bind (W.done s _ _ hst fun s' hm => wpAny_pure (hR s' (hm.mono more) ?_))
    obtain ⟨o, ep, h1, h2⟩ := hS
    exact ⟨o, ep, hm.heap S _ hSw h1, h2⟩
  | succ k ih =>
    intro i s hk hi hst ht hS hR
    have hlt : i < n := by omega
    refine codeAny_builtin F.entry_set_update_loop ?_
    rw [Around.under_plainId F.plain_set_update_loop _]
    show wpAny _ A.in1 (pyNext (.ref I) >>= _) _ _ s
    refine wpAny_bind (W.item i s _ _ hlt hst fun v s' hP hst' hm => ?_)
    obtain rfl := hval i v hP
    obtain ⟨o, ep, h1, h2, h3⟩ := hS
    have ht' : ∀ j, j < n → ITup s'.heap (key j) (ad j) := fun j hj => it_kept (ht j hj) fun o q => hm.heap _ o (had j hj).2 q
    obtain ⟨ob, its, c, g1, g2, g3, g4⟩ := id (ht' i hlt)
    show wpAny _ A.in1 (holding [Value.ref (ad i)] (setAdd S (.ref (ad i))) >>= _) _ _ s'
    refine wpAny_bind (wpAny_holding ?_)
    refine setAdd_free (knd := knd) (s := s') hroom (his _ _ _ (ht' i hlt)) (hm.heap S _ hSw h1) h3 (hfit i hi).1 (hfit (i + 1) hlt).2 (fun tk Q' q => hbv_ints (s := { s' with toks := tk }) g1 g2 g3 (fun v hv => ?_) q) (hadd i hlt) fun h' sb hg => ?_
    · exact g4.allInts v (by simpa using hv)
    · refine wpAny_pure ⟨plainId_quiet F.plain_set_update_loop _, ih (i + 1) _ (by omega) hlt (W.frame _ s' _ _ hst' (Nat.le_add_right _ _) fun b hb o e => ?_) (fun j hj => it_kept (ht' j hj) fun o q => ?_) ⟨_, _, hg, h2, rfl⟩ fun s'' hm'' hS'' => ?_⟩
      · rw [sb.2 b (fun z => hSf (z ▸ hb))]; exact e
      · rw [sb.2 _ (had j hj).1]; exact q
      · refine hR s'' (Moved.trans W.gtrans ((hm.mono more).then_heap (Nat.le_add_right _ _) fun b o hb e => ?_) hm'') hS''
        rw [sb.2 b (fun z => hb (by rw [z]; exact List.mem_cons_self))]; exact e
end
abbrev set0 (led : Bool) : Obj := { cls := .type "set", dict := none, data := .set #[] 0 (.fresh 0 0 led) }
set_option maxHeartbeats 3200000 in
theorem call_set_tups {prog : Program} {w : World} {A : Around} {E : Value → Shared → Prop} {s : Shared} {l : Addr} {as : List Addr} {Q : Value → Shared → Prop} (hh : A.handled = none) (hl : s.heap.IsList l (as.map Value.ref).toArray)
    (knd : HeapKind prog w (List Int)) (hroom : knd.room A.in1.in1.in1) (his : ∀ h k b, ITup h k b → knd.is h k b) (key : Nat → List Int) (htup : ∀ j, j < as.length → ITup s.heap (key j) (as.getD j 0))
    (T : Bool → Nat → SetTable) (Es : Bool → Nat → Array (Int × Value)) (h0 : ∀ led, T led 0 = .fresh 0 0 led ∧ Es led 0 = #[]) (hadd : ∀ led i, i < as.length → addT (T led i) (Es led i) (knd.hash (key i)) (.ref (as.getD i 0)) = some (T led (i + 1), Es led (i + 1)))
    (hfit : ∀ led i, i ≤ as.length → (T led i).fits (Es led i).size = true ∧ (Es led i).size < 1000)
    (h : ∀ (led : Bool) (h' : Heap) (tk : Nat), (∃ o ep, h'.get? s.heap.objs.size = some o ∧ o.ExactSet ∧ o.data = .set (Es led as.length) ep (T led as.length)) → (∀ b o, b < s.heap.objs.size → s.heap.get? b = some o → h'.get? b = some o) →
      Q (.ref s.heap.objs.size) { s with heap := h', toks := tk }) : wpAny (model prog w) A (call (.type "set") [.ref l]) Q E s := by
  obtain ⟨c0, tl0, hmro⟩ := F.called_set.mro
  have made := F.called_set.made
  have sub := F.called_set.sub
  have nt := F.called_set.notType
  have cc := F.called_set.canCreate
  have ck := F.typeCall_set_1 (.ref l)
  refine wpAny_call (codeAny_of_tree ?_)
  show wpAny _ _ (callAny (.type "set") ⟨[.ref l], []⟩) _ _ _
  refine wpAny_pure ⟨Code.quiet_builtin _ (by decide +kernel), codeAny_builtin F.entry_type_call ?_⟩
  rw [Around.under_plain (weight_type_call_type "set" [.ref l] []) rfl]
  repeat (any_goals (first | assumption | wp_step))
  refine codeAny_mono (code_set_new_1 (.ref l) (E := E) (Q₁ := fun v s₁ => ∃ led : Bool, v = .ref s.heap.objs.size ∧ s₁ = { s with heap := s.heap.push (set0 led) }) fun led => ⟨led, rfl, rfl⟩) fun r s₁ hr => ?_
  match r, hr with
  | .error e, hr => exact hr
  | .ok (.ret v), ⟨led, ev, es⟩ =>
    subst ev es
    have hS : (s.heap.push (set0 led)).get? s.heap.objs.size = some (set0 led) := Heap.get?_push_size _ rfl
    have hT : Shared.TypeIs { s with heap := s.heap.push (set0 led) } (.ref s.heap.objs.size) "set" := ⟨_, hS, rfl⟩
    have li := F.called_set.init.lookup
    have bi := F.called_set.init.bind (.ref s.heap.objs.size)
    repeat (any_goals (first | assumption | wp_step))
    refine codeAny_mono (codeAny_call_builtin (R := wants (fun r s₂ => r = .none ∧ ∃ h' tk, s₂ = { s with heap := h', toks := tk } ∧ (∃ o ep, h'.get? s.heap.objs.size = some o ∧ o.ExactSet ∧ o.data = .set (Es led as.length) ep (T led as.length)) ∧
      ∀ b o, b < s.heap.objs.size → s.heap.get? b = some o → h'.get? b = some o) E) F.called_set.init.plain F.entry_set_init (check_set_init_1 hT ?_)) fun r₂ s₂ hr₂ => ?_
    · have lt : l < s.heap.objs.size := by obtain ⟨o, ho, _⟩ := hl; exact Heap.lt_size ho
      obtain ⟨⟨oc, od, odt, osl⟩, hol, hcl, nl, hdl⟩ := id hl
      simp only at hcl hdl
      subst hcl hdl
      have hol' : (s.heap.push (set0 led)).get? l = some ⟨.type "list", od, .seq (as.map Value.ref).toArray nl, osl⟩ := Heap.get?_push_of_some _ hol
      have n1 := F.sub_list_set
      have n2 := F.sub_list_frozenset
      have n3 : (Value.type "list" == Value.type "dict") = false := by decide
      have hl1 : (s.heap.push (set0 led)).IsList l (as.map Value.ref).toArray := ⟨_, hol', rfl, nl, rfl⟩
      unfold Builtin.«set.__init__» noKeywords Builtin.Frozenset.updateFrom
      generalize ePI : pyIter = PI
      wp_walk
      subst ePI
      refine wpAny_pyIter_list hl1 (wpAny_bind (wpAny_runValue ?_))
      have sz1 : (s.heap.push (set0 led)).objs.size = s.heap.objs.size + 1 := Heap.size_push ..
      have hd3 : A.in1.in1.in1.handled = none := by simp [hh]
      have neI : l ≠ (s.heap.push (set0 led)).objs.size := by rw [sz1]; exact Nat.ne_of_lt (Nat.lt_succ_of_lt lt)
      have nS : s.heap.objs.size ∉ [(s.heap.push (set0 led)).objs.size, l] := by
        rw [sz1]
        intro z
        rcases List.mem_cons.mp z with z | z
        · exact absurd z (Nat.ne_of_lt (Nat.lt_succ_self _))
        · exact absurd (List.mem_singleton.mp z) (Nat.ne_of_gt lt)
      have hld : ∀ j, j < as.length → as.getD j 0 < s.heap.objs.size := fun j hj => by obtain ⟨o, _, _, h1, _⟩ := htup j hj; exact Heap.lt_size h1
      refine loop_tups ((Walks.list hd3 _ l neI (as.map Value.ref).toArray).toS) s.heap.objs.size nS knd hroom his (fun i => as.getD i 0) key (fun i v hv => ?_) (fun i hi => ?_) (T led) (Es led) (fun i hi => hadd led i (by simpa using hi)) (fun i hi => hfit led i (by simpa using hi))
        ((as.map Value.ref).toArray.size - 0) 0 _ (by omega) (Nat.zero_le _) ⟨⟨_, Heap.get?_push_size _ rfl, rfl, rfl⟩, (hl1.push _)⟩ (fun j hj => ?_) ?_ fun s' hm hS' => ?_
      · have hv' : (as.map Value.ref).toArray[i]? = some v := hv
        rw [List.getElem?_toArray, List.getElem?_map] at hv'
        obtain ⟨x, hx, rfl⟩ := Option.map_eq_some_iff.mp hv'
        show _ = Value.ref (as.getD i 0)
        rw [List.getD_eq_getElem?_getD, hx]; rfl
      · have hi' : i < as.length := by simpa using hi
        have := hld i hi'
        refine ⟨Nat.ne_of_lt this, fun z => ?_⟩
        have z' := List.mem_singleton.mp z
        rw [sz1] at z'
        exact absurd z' (Nat.ne_of_lt (Nat.lt_succ_of_lt this))
      · obtain ⟨o, its, c, q1, q2⟩ := htup j (by simpa using hj)
        exact ⟨o, its, c, Heap.get?_push_of_some _ (Heap.get?_push_of_some _ q1), q2⟩
      · refine ⟨_, 0, Heap.get?_push_of_some _ hS, ⟨rfl, rfl, rfl⟩, ?_⟩
        rw [(h0 led).1, (h0 led).2]
      · obtain ⟨h', g', d', tk', os'⟩ := s'
        obtain rfl : g' = s.gens := hm.gens
        obtain rfl : d' = s.drawn := hm.drawn
        obtain rfl : os' = s.os := hm.os
        refine wpAny_pure ?_
        show wpAny _ _ (ret Value.none) _ _ _
        refine wpAny_pure ⟨rfl, h', tk', rfl, by simpa using hS', fun b o hb e => hm.heap b o (fun z => ?_) (Heap.get?_push_of_some _ (Heap.get?_push_of_some _ e))⟩
        rcases List.mem_cons.mp z with z | z
        · exact absurd z (Nat.ne_of_lt hb)
        · have z' := List.mem_singleton.mp z
          rw [sz1] at z'
          exact absurd z' (Nat.ne_of_lt (Nat.lt_succ_of_lt hb))
    · match r₂, hr₂ with
      | .error e, z => exact z
      | .ok (.ret v), ⟨e1, h', tk, e2, z1, z2⟩ =>
        subst e1 e2
        repeat (any_goals (first | assumption | wp_step))
        exact h led h' tk z1 z2
      | .ok .next, z => exact z.elim
      | .ok .brk, z => exact z.elim
      | .ok .cont, z => exact z.elim
  | .ok .next, hr => exact hr.elim
  | .ok .brk, hr => exact hr.elim
  | .ok .cont, hr => exact hr.elim
end L2
namespace L2
open PySem PySem.Spec PyProof.Rows
end L2
namespace L2
open PySem PySem.Spec PyProof.Rows
def hashT (k : List Int) : Int := reduceHash (Builtin.Tuple.tupleHashOf (k.map hashInt))
end L2
namespace L2
open PySem PySem.Spec PyProof.Rows
structure ClsM (K : PySem.W.Frag) (C : Addr) (m : Str) (f : Addr) : Prop where
  ex : ∃ mc, PySem.W.readsIn K C mc = true ∧ PySem.W.findCls K (.ref C) mc m = some (.val (.ref f))
  hh : PySem.W.handedIn (.ref f) = true
  hg : PySem.W.specialIn K (.ref C) "__getattribute__" = some (some (.builtin "type.__getattribute__"))
  kp : PySem.W.keepIn K (.ref f) = true
structure ClsCallee (P : Program) (w : World) (K : PySem.W.Frag) (mg : Str → Option Value) (base : Heap) (C : Addr) (m : Str) (k : Nat) (ps : List Str) (sp : Sp) : Prop where
  ex : ∃ f fd, FnOk P w K mg base CX0 k f fd ps sp ∧ ClsM K C m f ∧ Binds K fd ps []
section
variable {X : Cx} {C : Addr} {k : Nat} {ps : List Str} {sp : Sp} {m : Str} {pos apos : Pos} {e o : Expr} {es : List Expr} {t : TA}
end
structure FunD (K : PySem.W.Frag) (x qual : Str) (st : Stmt) (f : Addr) (fd : FuncData) : Prop where
  ex : ∃ (oc : Value) (od : Option Addr) (dV kV doc pm : Value) (an : Option Addr) (cdv ct : Value) (osl : Array (Option Value)),
    fd = PySem.W.fnOf x qual (defArgs st) (defBody st) (defScope st) dV kV doc pm an cdv ct ∧ K.lookup f = some ⟨oc, od, .func fd, osl⟩ ∧ PySem.W.codeIn K cdv qual = true
section
variable {P : Program} {w : World} {K : PySem.W.Frag} {mg : Str → Option Value} {base : Heap}
theorem FunD.ok {x qual : Str} {st : Stmt} {f : Addr} {fd : FuncData} {N ps : List Str} {k : Nat} {sp : Sp} (F : FunD K x qual st f fd) (S : FnScope N ps (defScope st)) (len : ∀ vs H Q E, sp vs H Q E → vs.length = ps.length)
    (hbody : ∀ (cdv : Value) (A : Around) (outer : List Env) (s : Shared) (H : Hp) (vs : List V) (Q : VK) (E : XK), Room k (A.deeper (envOfC qual (defScope st) s.heap.objs.size f cdv)) → sp vs H Q E →
      ∃ t, PSs (cxOf CX0 P w K mg base N qual (defScope st) f cdv A outer s H E).nox (defBody st) t ∧ t { nx := fun _ H' => Q .non H', rt := Q } (start N vs) H) : FnOk P w K mg base CX0 (k + 1) f fd ps sp := by
  obtain ⟨oc, od, dV, kV, doc, pm, an, cdv, ct, osl, rfl, lk, hcd⟩ := F.ex
  refine fn_of lk hcd S len fun A outer s H vs Q E hr hsp => ?_
  obtain ⟨t, h, q⟩ := hbody cdv A outer s H vs Q E hr hsp
  exact ⟨t, h.nox, q⟩
end
end L2
namespace L2
open PySem PySem.Spec PyProof.Rows
section
variable {prog : Program} {w : World} {A : Around} {h : Heap} {g : Array GenState} {d : Drawn} {t : Nat} {os : OsState} {a : Addr}
end
end L2
namespace L2
open PySem PySem.Spec PyProof.Rows
section
variable {prog : Program} {w : World} {A : Around} {R : Result → Shared → Prop} {I : Addr} {fp wr : List Addr} {G : Array GenState → Array GenState → Prop} {n : Nat} {P : Nat → Value → Prop} {St : Nat → Shared → Prop} {K : Type} [DecidableEq K]
end
section
variable {prog : Program} {w : World} {A : Around} {E : Value → Shared → Prop} {s : Shared} {K : Type} [DecidableEq K]
end
end L2
namespace L2
open PySem PySem.Spec PyProof.Rows
abbrev Prs (H : Hp) (as : List Addr) (kvs : List (List Key × V)) : Prop := Paired (fun a (kv : List Key × V) => ∃ b, H a = some (.tup [.ref b, kv.2]) ∧ H b = some (.tup (kv.1.map kV))) as kvs
end L2
namespace L2
open PySem PySem.Spec PyProof.Rows
structure Nx (prog : Program) (w : World) (A : Around) (it src : Addr) (vals : Array Value) (St : Nat → Heap → Prop) : Prop where
  obj : ∀ i h, St i h → ∃ o vs, h.get? it = some o ∧ o.data = .fields vs ∧ o.cls ≠ .type "zip" ∧ ∃ o', h.get? src = some o'
  keep : ∀ i h h', St i h → (∀ o, h.get? it = some o → h'.get? it = some o) → (∀ o, h.get? src = some o → h'.get? src = some o) → St i h'
  item : ∀ (i : Nat) (s : Shared) (Q : Value → Shared → Prop) (E : Value → Shared → Prop) (x : Value), St i s.heap → vals[i]? = some x → (∀ h', St (i + 1) h' → Heap.SameBut it s.heap h' → Q x { s with heap := h' }) → wpAny (model prog w) A (Builtin.SmallTypes.nextOf (.ref it)) Q E s
  done : ∀ (i : Nat) (s : Shared) (Q : Value → Shared → Prop) (E : Value → Shared → Prop), A.handled = none → St i s.heap → vals[i]? = none →
    (∀ h' e, Heap.ExtBut it s.heap h' → (∃ o, h'.get? e = some o ∧ o.cls = .type "StopIteration") → E (.ref e) { s with heap := h' }) → wpAny (model prog w) A (Builtin.SmallTypes.nextOf (.ref it)) Q E s
section
variable {prog : Program} {w : World} {A : Around} {E : Value → Shared → Prop} {s : Shared}
theorem Nx.list {it l : Addr} {items : Array Value} (hne : l ≠ it) : Nx prog w A it l items (fun i h => h.IsListIter it l i ∧ h.IsList l items) where
  obj := fun i h ⟨⟨o, h1, h2, h3⟩, ⟨o', h4, _⟩⟩ => ⟨o, _, h1, h3, by rw [h2]; decide, o', h4⟩
  keep := fun i h h' ⟨x, y⟩ k1 k2 => ⟨x.at k1, y.at k2⟩
  item := fun i s Q E x ⟨h1, h2⟩ hx hQ => wpAny_nextOf_list_item h1 h2 hx fun h' a b => hQ h' ⟨a, h2.at fun o e => b.extBut _ _ hne e⟩ b
  done := fun i s Q E hh ⟨h1, h2⟩ hx hE => wpAny_nextOf_list_end hh h1 h2 hx hE
theorem nx_tup_item {it t : Addr} {i : Nat} {items : Array Value} {x : Value} {Q : Value → Shared → Prop} (hit : IsTupIter s.heap it t i) (ht : IsTup s.heap t items) (hx : items[i]? = some x)
    (hQ : ∀ h', IsTupIter h' it t (i + 1) → Heap.SameBut it s.heap h' → Q x { s with heap := h' }) : wpAny (model prog w) A (Builtin.SmallTypes.nextOf (.ref it)) Q E s := by
  obtain ⟨o, ho, hc, hd⟩ := id hit
  obtain ⟨ol, hol, _, nl, hdl⟩ := ht
  unfold Builtin.SmallTypes.nextOf
  refine wpAny_bind (wpAny_callSpecial?_slot (name := Str.ofString "__next__") hit.typeIs slot_tupleiter_next (wpAny_call_entry slot_tupleiter_next hit.typeIs entry_tupleiter_next ?_ (args_tupleiter_next _)))
  show wpAny _ _ (field (.ref it) 0 >>= _) _ _ s
  refine wpAny_bind (wpAny_field ho hd (x := .ref t) rfl ?_)
  show wpAny _ _ (if (Value.ref t == Value.none) = true then _ else _) _ _ s
  rw [if_neg (show ¬ ((Value.ref t == Value.none) = true) from Bool.false_ne_true)]
  show wpAny _ _ (field (.ref it) 1 >>= _) _ _ s
  refine wpAny_bind (wpAny_field ho hd (x := .int i 0) rfl ?_)
  show wpAny _ _ (seqItems? (.ref t) >>= _) _ _ s
  refine wpAny_bind (wpAny_seqItems hol hdl ?_)
  simp only [Int.toNat_natCast, hx]
  refine wpAny_bind (wpAny_setField ho hd (by simp) (wpAny_pure ⟨x, rfl, wpAny_pure (hQ _ ?_ (Heap.SameBut.update ..))⟩))
  exact ⟨_, Heap.get?_update_self _ ho (Obj.isFreed_of_fields (Obj.data_mapFields hd _)), (Obj.cls_mapFields ..).trans hc, by rw [Obj.data_mapFields hd]; simp [rawInt]⟩
theorem nx_tup_end {it t : Addr} {i : Nat} {items : Array Value} {Q : Value → Shared → Prop} (hh : A.handled = none) (hit : IsTupIter s.heap it t i) (ht : IsTup s.heap t items) (hx : items[i]? = none)
    (hE : ∀ h' e, Heap.ExtBut it s.heap h' → (∃ o, h'.get? e = some o ∧ o.cls = .type "StopIteration") → E (.ref e) { s with heap := h' }) : wpAny (model prog w) A (Builtin.SmallTypes.nextOf (.ref it)) Q E s := by
  obtain ⟨o, ho, hc, hd⟩ := id hit
  obtain ⟨ol, hol, _, nl, hdl⟩ := ht
  unfold Builtin.SmallTypes.nextOf
  refine wpAny_bind (wpAny_callSpecial?_slot (name := Str.ofString "__next__") hit.typeIs slot_tupleiter_next (wpAny_call_entry slot_tupleiter_next hit.typeIs entry_tupleiter_next ?_ (args_tupleiter_next _)))
  show wpAny _ _ (field (.ref it) 0 >>= _) _ _ s
  refine wpAny_bind (wpAny_field ho hd (x := .ref t) rfl ?_)
  show wpAny _ _ (if (Value.ref t == Value.none) = true then _ else _) _ _ s
  rw [if_neg (show ¬ ((Value.ref t == Value.none) = true) from Bool.false_ne_true)]
  show wpAny _ _ (field (.ref it) 1 >>= _) _ _ s
  refine wpAny_bind (wpAny_field ho hd (x := .int i 0) rfl ?_)
  show wpAny _ _ (seqItems? (.ref t) >>= _) _ _ s
  refine wpAny_bind (wpAny_seqItems hol hdl ?_)
  simp only [Int.toNat_natCast, hx]
  refine wpAny_bind (wpAny_rule (wpAny_bind (wpAny_setField ho hd (by simp) ?_)))
  show wpAny _ _ (newExc (.type "StopIteration") [] >>= _) _ _ _
  refine wpAny_bind ?_
  simp only [newExc, newTuple]
  refine wpAny_bind (wpAny_newObj_type ?_ (by size_fits))
  refine wpAny_bind (m := firstArgMember _ _) (wpAny_of_eq (a := Value.none) (by first | rfl | (simp only [firstArgMember]; rfl)) (wpAny_newObj_type ?_ (by size_fits)))
  simp only [raiseNew]
  refine wpAny_bind (wpAny_handled ?_)
  first | rw [show A.in1.handled = none from hh] | rw [hh]
  refine wpAny_bind (wpAny_pure (wpAny_throw ?_))
  exact hE _ _ (((Heap.SameBut.update ..).extBut.push _).push _) ⟨_, Heap.get?_push_size _ rfl, rfl⟩
theorem Nx.tup {it t : Addr} {items : Array Value} (hne : t ≠ it) : Nx prog w A it t items (fun i h => IsTupIter h it t i ∧ IsTup h t items) where
  obj := fun i h ⟨⟨o, h1, h2, h3⟩, ⟨o', h4, _⟩⟩ => ⟨o, _, h1, h3, by rw [h2]; decide, o', h4⟩
  keep := fun i h h' ⟨⟨o, h1, h2⟩, ⟨o', h4, h5⟩⟩ k1 k2 => ⟨⟨o, k1 _ h1, h2⟩, ⟨o', k2 _ h4, h5⟩⟩
  item := fun i s Q E x ⟨h1, h2⟩ hx hQ => nx_tup_item h1 h2 hx fun h' a b => hQ h' ⟨a, h2.extBut b.extBut hne⟩ b
  done := fun i s Q E hh ⟨h1, h2⟩ hx hE => nx_tup_end hh h1 h2 hx hE
structure ZA (z TI TO i1 i2 s1 s2 : Addr) : Prop where
  TIz : TI ≠ z
  TOz : TO ≠ z
  i1z : i1 ≠ z
  i2z : i2 ≠ z
  TITO : TI ≠ TO
  TIi1 : TI ≠ i1
  TIi2 : TI ≠ i2
  TOi1 : TO ≠ i1
  TOi2 : TO ≠ i2
  i12 : i1 ≠ i2
  s1z : s1 ≠ z
  s1TO : s1 ≠ TO
  s1i2 : s1 ≠ i2
  s2z : s2 ≠ z
  s2TO : s2 ≠ TO
  s2i1 : s2 ≠ i1
end
end L2
namespace L2
open PySem PySem.Spec PyProof.Rows
end L2
namespace L2
open PySem PySem.Spec PyProof.Rows
end L2
namespace L2
open PySem PySem.Spec PyProof.Rows
section
variable {prog : Program} {w : World} {A : Around} {E : Value → Shared → Prop} {s : Shared} {d it v : Addr} {o : Obj} {es : Array DictEntry} {i ep : Nat}
end
structure KCalleeN (P : Program) (w : World) (K : PySem.W.Frag) (mg : Str → Option Value) (base : Heap) (C : Addr) (x : Str) (k : Nat) (ps : List Str) (sp : Sp) : Prop where
  ex : ∃ f fd, FnOk P w K mg base CX0 k f fd ps sp ∧ Mk K C f ∧ mg x = some (.ref C) ∧ Binds K fd ps [Value.none]
end L2
namespace L2
open PySem PySem.Spec PyProof.Rows
section
variable {X : Cx}
theorem map_int_inj : ∀ {c d : List Int}, c.map V.int = d.map V.int → c = d
  | [], [], _ => rfl
  | [], _ :: _, h => by simp at h
  | _ :: _, [], h => by simp at h
  | a :: c, b :: d, h => by
    rw [List.map_cons, List.map_cons] at h
    injection h with h1 h2
    injection h1 with h1
    rw [h1, map_int_inj h2]
noncomputable def isT (H : Hp) (c : List Int) (u : Value) : Bool := match u with
  | .ref a => @decide (H a = some (.tup (c.map V.int))) (Classical.propDecidable _)
  | _ => false
theorem isT_of {H : Hp} {c d : List Int} {a : Addr} (h : H a = some (.tup (d.map V.int))) : isT H c (.ref a) = decide (d = c) := by
  show @decide (H a = some (.tup (c.map V.int))) (Classical.propDecidable _) = decide (d = c)
  by_cases e : d = c
  · subst e
    rw [decide_eq_true (rfl : d = d)]
    exact @decide_eq_true _ (Classical.propDecidable _) h
  · rw [decide_eq_false e]
    refine @decide_eq_false _ (Classical.propDecidable _) fun z => e ?_
    rw [h] at z
    injection z with z
    injection z with z
    exact map_int_inj z
def rInT (K : PySem.W.Frag) (neg : Bool) : R2 := fun x y H Q => ∃ (b p : Addr) (as : List Addr) (c : List Int) (cs : List (List Int)), x = .ref b ∧ y = .ref p ∧ H b = some (.tup (c.map V.int)) ∧ SqL K H p (as.map V.ref) ∧ Tups H as cs ∧ Q (.bl (if neg then !decide (c ∈ cs) else decide (c ∈ cs))) H
theorem any_isT {H : Hp} {c : List Int} : ∀ {as : List Addr} {cs : List (List Int)}, Tups H as cs → (as.map Value.ref).any (isT H c) = decide (c ∈ cs)
  | _, _, .nil => by simp
  | a :: as, d :: cs, .cons r t => by
    rw [List.map_cons, List.any_cons, isT_of r, any_isT t]
    by_cases h : d = c
    · subst h; simp
    · have : ¬ c = d := fun z => h z.symm
      simp [h, this]
theorem mem_isT {k : Nat} (hr : Room k X.A) {pins : List (Addr × Obj)} {σ : St} {H : Hp} {s : Shared} (I : Inv X pins σ H s) {b : Addr} {c : List Int} (hb : H b = some (.tup (c.map V.int))) :
    ∀ {as : List Addr} {cs : List (List Int)}, Tups H as cs → ∀ u ∈ as.map Value.ref, SeqAt.EqAt X.A.in1 s u (.ref b) (isT H c u)
  | _, _, .nil => fun u hu => by simp at hu
  | a :: as, d :: cs, .cons r t => fun u hu => by
    rw [List.map_cons] at hu
    rcases List.mem_cons.mp hu with rfl | hu
    · obtain ⟨x1, r1⟩ := (Dp.ints (K := X.K) (ns := d) (SqT.of r)).reads I (u := .ref a) rfl
      obtain ⟨x2, r2⟩ := (Dp.ints (K := X.K) (ns := c) (SqT.of hb)).reads I (u := .ref b) rfl
      have := hr.units
      have h1 := depth_tints d
      rw [isT_of r, ← eqv_tints]
      exact SeqAt.eqAt_reads _ _ _ _ _ _ _ _ r1 r2 (Dp.ints (K := X.K) (H := H) (SqT.of r)).lay (Dp.ints (K := X.K) (H := H) (SqT.of hb)).lay (by show X.A.units + 1 + _ < _; omega)
    · exact mem_isT hr I hb t u hu
theorem op_inT {k : Nat} (hr : Room k X.A) : OpR X (compareOp .In) (rInT X.K false) := by
  intro pins s σ H x y v u Q I rx ry h
  obtain ⟨b, p, as, c, cs, rfl, rfl, hb, hp, ht, q⟩ := h
  cases rx
  cases ry
  obtain ⟨its, rv, pl, hz⟩ := I.list hp
  cases vals_refs rv
  refine SeqAt.in_listAt (isT H c) pl.isList (fun w hw => mem_isT hr I hb ht w (by simpa using hw)) ⟨.bl _, H, I, rfl, ?_⟩
  rw [show (as.map Value.ref).toArray.any (isT H c) = (as.map Value.ref).any (isT H c) by simp, any_isT ht]
  exact q
end
end L2
namespace L2
open PySem PySem.Spec PyProof.Rows
section
variable {prog : Program} {w : World} {d : Addr} {es : Array DictEntry} {ep : Nat}
end
section
variable {X : Cx}
end
end L2
namespace L2
open PySem PySem.Spec PyProof.Rows
section
variable {X : Cx}
theorem kV_ints : ∀ c : List Int, (c.map Sum.inl : List Key).map kV = c.map V.int
  | [] => rfl
  | a :: c => by rw [List.map_cons, List.map_cons, List.map_cons, kV_ints c]; rfl
end
end L2
namespace L2
open PySem PySem.Spec PyProof.Rows
section
variable {prog : Program} {w : World} {κ : Type} [DecidableEq κ] {knd : HeapKind prog w κ} {A : Around} {E : Value → Shared → Prop} {s : Shared}
end
section
variable {X : Cx}
end
theorem ix_tupK {X : Cx} {K : PySem.W.Frag} (e : X.K = K) : IxR X (rIxT K) := by subst e; exact ix_tup
section
open PySem.SeqAt
open PySem.AutoSeq1 (wpAny_loadPart')
open PySem.MeetsSeq PySem.MeetsSeq2 PySem.MeetsSeq3
end
section
variable {prog : Program} {w : World} {A : Around} {E : Value → Shared → Prop} {s : Shared}
end
end L2
namespace L2
open PySem PySem.Spec PyProof.Rows
section
variable {prog : Program} {w : World} {A : Around} {R : Result → Shared → Prop} {it : Addr} {fp wr : List Addr} {P : Nat → Value → Prop} {St : Nat → Heap → Prop}
end
section
variable {prog : Program} {w : World} {A : Around} {E : Value → Shared → Prop} {s : Shared}
end
section
variable {X : Cx}
end
section
variable {prog : Program} {w : World} {A : Around} {R : Result → Shared → Prop} {it : Addr} {fp wr : List Addr} {P : Nat → Value → Prop} {St : Nat → Heap → Prop}
end
section
variable {prog : Program} {w : World} {A : Around} {E : Value → Shared → Prop} {s : Shared}
end
section
variable {X : Cx}
end
end L2
namespace L2
open PySem PySem.Spec PyProof.Rows
abbrev IPr := List Int × List Int
abbrev Prs2 (H : Hp) (as : List Addr) (ls : List IPr) : Prop := Paired (fun a (e : IPr) => ∃ x y, H a = some (.tup [.ref x, .ref y]) ∧ H x = some (.tup (e.1.map V.int)) ∧ H y = some (.tup (e.2.map V.int))) as ls
theorem Prs2.at {H : Hp} : ∀ {as : List Addr} {cs : List IPr} {i : Nat} {a : Addr}, Prs2 H as cs → as[i]? = some a → ∃ c x y, cs[i]? = some c ∧ H a = some (.tup [.ref x, .ref y]) ∧ H x = some (.tup (c.1.map V.int)) ∧ H y = some (.tup (c.2.map V.int))
  | _, _, 0, _, .cons (b := c) h t, e => by cases e; obtain ⟨x, y, h1, h2, h3⟩ := h; exact ⟨c, x, y, rfl, h1, h2, h3⟩
  | _, _, i + 1, _, .cons h t, e => Prs2.at (i := i) t e
  | _, _, _, _, .nil, e => by simp at e
theorem Prs2.same {H H' : Hp} {as : List Addr} {cs : List IPr} (h : Prs2 H as cs) (e : Same H H') : Prs2 H' as cs := Paired.mapP h fun _ _ ⟨x, y, h1, h2, h3⟩ => ⟨x, y, e _ _ h1, e _ _ h2, e _ _ h3⟩
theorem Prs2.tups {H H' : Hp} {as : List Addr} {cs : List IPr} (h : Prs2 H as cs) (e : ∀ b xs, H b = some (.tup xs) → H' b = some (.tup xs)) : Prs2 H' as cs := Paired.mapP h fun _ _ ⟨x, y, h1, h2, h3⟩ => ⟨x, y, e _ _ h1, e _ _ h2, e _ _ h3⟩
def dtE (e : IPr) : PyData := .tuple [.tuple (e.1.map PyData.int), .tuple (e.2.map PyData.int)]
theorem Prs2.dp {K : PySem.W.Frag} {H : Hp} {a x y : Addr} {e : IPr} (h1 : H a = some (.tup [.ref x, .ref y])) (h2 : H x = some (.tup (e.1.map V.int))) (h3 : H y = some (.tup (e.2.map V.int))) : Dp K H (.ref a) (dtE e) :=
  .tup (SqT.of h1) (.cons (Dp.ints (SqT.of h2)) (.cons (Dp.ints (SqT.of h3)) .nil))
section
variable {X : Cx}
end
end L2
namespace L2
open PySem PySem.Spec PyProof.Rows
def OnlyT (Ps : List Addr) (H : Hp) : Prop := ∀ b, H b = none ∨ (∃ o xs, H b = some (.frz o (.lst xs))) ∨ (b ∈ Ps ∧ H b = some (.tbl #[]))
theorem law_callT {P : Program} {w : World} {K : PySem.W.Frag} {mg mb : Str → Option Value} {CX : CXT} {k : Nat} {fa a : Addr} {fd : FuncData} {x : Str} {sp : Sp} {s₁ : Shared} {vs : List Value} {ns : List Int} {Ts : List (Addr × Addr)}
    (KX : K.In s₁.heap) (hns : s₁.heap.Ns mainGlobals mg) (hb : s₁.heap.Ns builtinsNs mb) (hbb : ∀ x : Str, x ≠ "__name__" → mb x = bootBuiltins x) (hlim : s₁.heap.NoLimit) (hg : s₁.gens = #[])
    (ha : s₁.heap.get? a = some { cls := .type "list", data := .seq vs.toArray }) (hi : IntsAre vs ns) (hl : ns.length ≤ sizeLine) (hr : Room k callerA)
    (hT : ∀ q ∈ Ts, PySem.W.CodeHd s₁.heap q.1 q.2 ∧ s₁.heap.get? q.2 = some (PySem.W.tabObj #[])) (nK : ∀ q ∈ Ts, K.lookup q.2 = none)
    (hbm : ∃ bm ob, mg "__builtins__" = some (.ref bm) ∧ bm ≠ builtinsNs ∧ s₁.heap.get? bm = some ob ∧ ob.cls = .type "module" ∧ ob.dict = some builtinsNs ∧ ob.data = .plain)
    (F : ∀ base : Heap, K.In base → base.Ns mainGlobals mg → (∀ q ∈ Ts, base.BuiltinsAt mg q.2 ∧ mainGlobals ≠ q.2) → FnOk P w K mg base CX k fa fd [x] sp) (hbind : ∀ (s : Shared) (u : Value), BindsTo s fd ⟨[u], []⟩ [(x, u)])
    (hsp : ∀ H : Hp, OnlyT (Ts.map (·.2)) H → (∀ q ∈ Ts, H q.2 = some (.tbl #[])) → SqL K H a (ns.map V.int) → sp [.ref a] H (fun v _ => v = .bl true) fun _ _ _ => False)
    (hCX : ∀ H e s', CX [] H s₁ (fun _ _ _ => False) e s' → False) :
    codeAny (model P w) callerA (.call (.ref fa) ⟨[.ref a], []⟩) (fun r s' => r = .ok (.ret (.bool true)) ∧ OldK s₁.heap s'.heap ∧ s'.os = s₁.os ∧ AllBare s'.gens) s₁ := by
  have rv := vals_ints hi
  have lenV := hi.length
  have nTa : a ∉ Ts.map (·.2) := fun z => by
    obtain ⟨q, hq, e⟩ := List.mem_map.mp z
    have := (hT q hq).2
    rw [e, ha] at this; cases this
  have core : ∀ H : Hp, OnlyT (Ts.map (·.2)) H → (∀ q ∈ Ts, H q.2 = some (.tbl #[])) → SqL K H a (ns.map V.int) → HOk P w H s₁.heap → (∀ b, H b ≠ none → b = a ∨ b ∈ Ts.map (·.2)) → (H a ≠ none → K.lookup a = none) →
      codeAny (model P w) callerA (.call (.ref fa) ⟨[.ref a], []⟩) (fun r s' => r = .ok (.ret (.bool true)) ∧ OldK s₁.heap s'.heap ∧ s'.os = s₁.os ∧ AllBare s'.gens) s₁ := by
    intro H hO hTt hS hok hA hK
    have base_of : ∀ {b : Addr} {o : Obj}, s₁.heap.get? b = some o → H b = none → (hidT s₁.heap H).get? b = some o := fun e n => hidT_get e n
    have noA : ∀ {b : Addr} {o : Obj} {es : Array DictEntry} {ep : Nat}, s₁.heap.get? b = some o → o.data = .dict es ep → H b = none := fun {b o es ep} e d => by
      cases q : H b with
      | none => rfl
      | some u =>
        rcases hA b (by rw [q]; simp) with e' | e'
        · subst e'
          rw [ha] at e; cases e
          have d' : Data.seq vs.toArray _ = Data.dict es ep := d
          cases d'
        · obtain ⟨r, hr', rfl⟩ := List.mem_map.mp e'
          rw [(hT r hr').2] at e; cases e
          cases d
    have nsK : ∀ {b : Addr} {m : Str → Option Value}, s₁.heap.Ns b m → (hidT s₁.heap H).Ns b m := fun {b m} ⟨o, es, ep, e, d, r⟩ => ⟨o, es, ep, base_of e (noA e d), d, r⟩
    have hKb : K.In (hidT s₁.heap H) := fun b o e => base_of (KX b o e) (by
      cases q : H b with
      | none => rfl
      | some u =>
        rcases hA b (by rw [q]; simp) with e' | e'
        · subst e'
          rw [hK (by rw [q]; simp)] at e; cases e
        · obtain ⟨r, hr', rfl⟩ := List.mem_map.mp e'
          rw [nK r hr'] at e; cases e)
    have hM : Mod K mg (hidT s₁.heap H) := ⟨hKb, nsK hns, ⟨mb, nsK hb, hbb⟩, let ⟨mc, h1, h2⟩ := hlim; ⟨mc, nsK h1, h2⟩⟩
    have e0 : Env0 P w K mg (hidT s₁.heap H) callerA [] s₁ H := ⟨rfl, hM, fun b o e => of_hidT e, Nat.le_of_eq (hidT_size _ _), trivial, fun b hb => absurd (show b ∈ ([] : List Addr) from hb) (by simp), hok, .of_eq hg⟩
    have hBM : ∀ q ∈ Ts, (hidT s₁.heap H).BuiltinsAt mg q.2 ∧ mainGlobals ≠ q.2 := fun q hq => by
      obtain ⟨bm, ob, b1, b2, b3, b4, b5, b6⟩ := hbm
      have hgP : mainGlobals ≠ q.2 := fun z => by
        obtain ⟨o, es, ep, e, hd, _⟩ := hns
        rw [z, (hT q hq).2] at e; cases e; cases hd
      have hbP : bm ≠ q.2 := fun z => by rw [z, (hT q hq).2] at b3; cases b3; cases b6
      have hbG : bm ≠ mainGlobals := fun z => by
        obtain ⟨o, es, ep, e, hd, _⟩ := hns
        rw [z, e] at b3; cases b3; rw [hd] at b6; cases b6
      have hbn : H bm = none := by
        cases qq : H bm with
        | none => rfl
        | some u =>
          exfalso
          rcases hA bm (by rw [qq]; simp) with e' | e'
          · rw [e', ha] at b3; cases b3; cases b6
          · obtain ⟨r, hr', e''⟩ := List.mem_map.mp e'
            rw [← e'', (hT r hr').2] at b3; cases b3; cases b6
      exact ⟨⟨bm, ob, b1, b2, hbG, hbP, base_of b3 hbn, b4, b5, b6⟩, hgP⟩
    refine codeAny_mono ((F _ hKb (nsK hns) hBM).run callerA [] s₁ H ⟨[.ref a], []⟩ [.ref a] [.ref a] _ _ hr e0 (hbind s₁ (.ref a)) (.cons rfl .nil) (hsp H hO hTt hS)) fun r s' h => ?_
    cases r with
    | error e => exact (hCX H e s' h).elim
    | ok fl =>
      cases fl with
      | next => exact False.elim h
      | brk => exact False.elim h
      | cont => exact False.elim h
      | ret u =>
        obtain ⟨v, H', os, bare, un, hok', r', q⟩ := h
        have q' : v = .bl true := q
        subst q'
        obtain rfl : u = Value.bool true := r'
        have cases3 : ∀ b o, s₁.heap.get? b = some o → s'.heap.get? b = some o ∨ ∃ r ∈ Ts, r.2 = b ∧ ∃ more, s'.heap.get? b = some (PySem.W.tabObj (#[] ++ more)) := fun b o e => by
          cases q : H b with
          | none => exact .inl (un.keep b o e q (by intro z; exact absurd (show b ∈ ([] : List Addr) from z) (by simp)) (by simp))
          | some u =>
            rcases hO b with z | ⟨ob, xs, z⟩ | ⟨hb', z⟩
            · rw [q] at z; cases z
            · have z2 := un.frzs b ob _ z
              obtain ⟨e1, _⟩ := hok b _ z
              obtain ⟨e2, _⟩ := hok' b _ z2
              rw [e] at e1; cases e1
              exact .inl e2
            · obtain ⟨more, z2⟩ := un.tbls b _ z
              obtain ⟨r, hr', e'⟩ := List.mem_map.mp hb'
              exact .inr ⟨r, hr', e', more, hok' b _ z2⟩
        refine ⟨rfl, ⟨fun b o e => ?_, fun b o e => ?_⟩, os, bare⟩
        · rcases cases3 b o e with z | ⟨r, hr', rfl, more, z⟩
          · exact .inl z
          · obtain ⟨h1, h2⟩ := hT r hr'
            rw [h2] at e; cases e
            exact .inr (.inl ⟨(h1.tab h2).isCodeTable, rfl, #[], more, rfl, z⟩)
        · rcases cases3 b o e with z | ⟨r, hr', rfl, more, z⟩
          · exact ⟨_, z⟩
          · exact ⟨_, z⟩
  have tOf : ∀ q ∈ Ts, q.2 ∈ Ts.map (·.2) := fun q hq => List.mem_map.mpr ⟨q, hq, rfl⟩
  have tbl_ok : ∀ (H : Hp) b, b ∈ Ts.map (·.2) → ObjOk P w H s₁.heap b (.tbl #[]) := fun H b hb' => by
    obtain ⟨r, hr', rfl⟩ := List.mem_map.mp hb'
    exact (hT r hr').2
  cases hk : K.lookup a with
  | some o =>
    have e := KX a o hk
    rw [ha] at e
    cases e
    refine core (fun b => if b ∈ Ts.map (·.2) then some (.tbl #[]) else none) (fun b => ?_) (fun q hq => if_pos (tOf q hq)) (.inr ⟨_, vs.toArray, _, hk, rfl, rfl, rfl, by rw [List.size_toArray, lenV]; exact hl, by simpa using rv⟩) (fun b u z => ?_) (fun b z => ?_) fun z => absurd (if_neg nTa) z
    · by_cases hb : b ∈ Ts.map (·.2)
      · exact .inr (.inr ⟨hb, if_pos hb⟩)
      · exact .inl (if_neg hb)
    · by_cases hb : b ∈ Ts.map (·.2)
      · have z' := (if_pos hb).symm.trans z
        cases z'
        exact tbl_ok _ b hb
      · have z' := (if_neg hb).symm.trans z
        cases z'
    · by_cases hb : b ∈ Ts.map (·.2)
      · exact .inr hb
      · exact absurd (if_neg hb) z
  | none =>
    refine core (fun b => if b = a then some (.frz { cls := .type "list", data := .seq vs.toArray } (.lst (ns.map V.int))) else if b ∈ Ts.map (·.2) then some (.tbl #[]) else none) (fun b => ?_) (fun q hq => ?_) (.inl (.inr ⟨{ cls := .type "list", data := .seq vs.toArray }, if_pos rfl⟩)) (fun b u z => ?_) (fun b z => ?_) fun _ => hk
    · by_cases hb : b = a
      · exact .inr (.inl ⟨_, _, if_pos hb⟩)
      · by_cases hb2 : b ∈ Ts.map (·.2)
        · exact .inr (.inr ⟨hb2, (if_neg hb).trans (if_pos hb2)⟩)
        · exact .inl ((if_neg hb).trans (if_neg hb2))
    · have : q.2 ≠ a := fun z => nTa (z ▸ tOf q hq)
      exact (if_neg this).trans (if_pos (tOf q hq))
    · by_cases hb : b = a
      · have z' := (if_pos hb).symm.trans z
        cases z'
        subst hb
        exact ⟨ha, by rw [List.length_map]; exact hl, vs, _, rv, ha⟩
      · by_cases hb2 : b ∈ Ts.map (·.2)
        · have z' := ((if_neg hb).trans (if_pos hb2)).symm.trans z
          cases z'
          exact tbl_ok _ b hb2
        · have z' := ((if_neg hb).trans (if_neg hb2)).symm.trans z
          cases z'
    · by_cases hb : b = a
      · exact .inl hb
      · by_cases hb2 : b ∈ Ts.map (·.2)
        · exact .inr hb2
        · exact absurd ((if_neg hb).trans (if_neg hb2)) z
theorem walk_ofT {l : PySem.W.OpenLaw} {n k : Nat} {q : Program} {loose : List Str} {XP : (Str → Option Value) → Heap → Prop} {YP : World → Heap → Prop} {d : DefRec} {K : Params → PySem.W.Frag} {CX : World → CXT} {sp : World → Sp} {x : Str} {xs : List Str}
    (hn : l.most = some n) (hn2 : n ≤ sizeLine) (hdf : d.params.defaults = []) (hr : Room k callerA)
    (hY : ∀ (w : World) (h : Heap), YP w h → (K w.params).In h)
    (Ts : World → List (Addr × Addr))
    (hrec : ∀ y ∈ xs, ∃ e, (recsOf q).find? (fun e => e.name == y) = some e)
    (hts : ∀ (w : World), ∀ t ∈ Ts w, (∃ y ∈ xs, PySem.W.tabIn (K w.params) y = some t) ∧ (K w.params).lookup t.2 = none)
    (F : ∀ (w : World) (mg : Str → Option Value) (fa : Addr) (h : Heap), (K w.params).In h → h.Ns mainGlobals mg → mg d.name = some (.ref fa) →
      ∃ fd : FuncData, (∀ (s : Shared) (u : Value), BindsTo s fd ⟨[u], []⟩ [(x, u)]) ∧
        ∀ base : Heap, (K w.params).In base → base.Ns mainGlobals mg → (∀ t ∈ Ts w, base.BuiltinsAt mg t.2 ∧ mainGlobals ≠ t.2) → FnOk l.prog w (K w.params) mg base (CX w) k fa fd [x] (sp w))
    (hsp : ∀ (w : World) (H : Hp) (a : Addr) (ns : List Int), ns.length ≤ n → OnlyT ((Ts w).map (·.2)) H → (∀ t ∈ Ts w, H t.2 = some (.tbl #[])) → SqL (K w.params) H a (ns.map V.int) → sp w [.ref a] H (fun v _ => v = .bl true) fun _ _ _ => False)
    (hCX : ∀ (w : World) (H : Hp) (s : Shared) (e : Value) (s' : Shared), CX w [] H s (fun _ _ _ => False) e s' → False) :
    PySem.W.WalkO q loose XP YP l.row.toRowW d [] (fun f vs => PySem.call f vs) := by
  refine Att.attach_call hn hdf fun w s₀ s₁ mg mb fa o pm cd doc a vs ns G Y ho hd hcd hmg hobj hints hlen hg => ?_
  have KX := hY w _ Y
  obtain ⟨fd, hb, hF⟩ := F w mg fa _ KX G.T.g hmg
  refine law_callT (Ts := Ts w) KX G.T.g G.T.b G.T.builtins G.T.nolimit hg hobj hints (Nat.le_trans hlen hn2) hr (fun t ht => ?_) (fun t ht => (hts w t ht).2) G.T.bmain hF hb (fun H hO hT hS => hsp w H a ns hlen hO hT hS) fun H e s' => hCX w H s₁ e s'
  obtain ⟨⟨y, hy, e⟩, _⟩ := hts w t ht
  obtain ⟨r, hr'⟩ := hrec y hy
  exact PySem.W.tab_of G.T KX hr' e
end L2
namespace L2
open PySem PySem.Spec PyProof.Rows
def exO (a : Addr) (o : Obj) : HO := .ext fun h => h.get? a = some o
theorem exO_ok {P : Program} {w : World} {H : Hp} {h : Heap} {a : Addr} {o : Obj} (e : h.get? a = some o) : ObjOk P w H h a (exO a o) := ⟨e, ⟨o, e⟩, fun _ _ e1 k => k _ e1⟩
def CodeOf (oc : Obj) (c : Addr) (qual : Str) : Prop := ∀ h : Heap, h.get? c = some oc → h.CodeRec (.ref c) qual
end L2
namespace L2
open PySem PySem.Spec PyProof.Rows
structure LamScope (ps : List Str) (clos : List (Str × Addr)) (scope : Scope) : Prop where
  kind : scope.kind = .function
  co : scope.isCoroutine = false
  gen : scope.isGenerator = false
  nocell : ∀ x ∈ scope.names, x.2 ≠ .cell
  par : ∀ x ∈ ps, scope.names.lookup x = some .local
  free : ∀ x, scope.names.lookup x = some .free → ∃ c, clos.lookup x = some c
  fr : ∀ x ∈ clos.map (·.1), scope.names.lookup x = some .free
  nd : (ps ++ clos.map (·.1)).Nodup
  inj : ∀ x y c, clos.lookup x = some c → clos.lookup y = some c → x = y
def lamEnv (qual : Str) (scope : Scope) (clos : List (Str × Addr)) (L f : Addr) (cd : Value) : Env := newEnv scope L mainGlobals clos (qual ++ ".<locals>.") (some f) cd none builtinsNs
def cxLam (P : Program) (w : World) (K : PySem.W.Frag) (mg : Str → Option Value) (base : Heap) (ps : List Str) (clos : List (Str × Addr)) (qual : Str) (scope : Scope) (f : Addr) (cd : Value) (A : Around) (outer : List Env) (s : Shared) (H : Hp) : Cx where
  prog := P
  w := w
  K := K
  mg := mg
  base := base
  A := A.deeper (lamEnv qual scope clos s.heap.objs.size f cd)
  N := ps ++ clos.map (·.1)
  s₀ := s
  H₀ := H
  env := lamEnv qual scope clos s.heap.objs.size f cd
  outer := outer
  stack := lamEnv qual scope clos s.heap.objs.size f cd :: outer
  ex := []
  fn := fun _ => false
  calm := true
  pn := []
  xe := fun _ _ => False
theorem lookup_nd {β : Type} : ∀ {l : List (Str × β)} {x : Str} {u : β}, (l.map (·.1)).Nodup → (x, u) ∈ l → l.lookup x = some u
  | [], _, _, _, h => by simp at h
  | (y, v) :: r, x, u, hn, h => by
    rw [List.map_cons, List.nodup_cons] at hn
    rw [List.lookup_cons]
    rcases List.mem_cons.mp h with e | h
    · cases e; simp
    · have : ¬ x = y := fun z => hn.1 (by rw [← z]; exact List.mem_map.mpr ⟨_, h, rfl⟩)
      have hb : (x == y) = false := by simpa using this
      rw [hb]
      exact lookup_nd hn.2 h
theorem lam_inv {P : Program} {w : World} {K : PySem.W.Frag} {mg : Str → Option Value} {base : Heap} {ps : List Str} {clos : List (Str × Addr)} {qual : Str} {scope : Scope} {f : Addr} {cd : Value} {A : Around} {outer : List Env} {s : Shared} {H : Hp} {us : List Value} {vs cvs : List V} {h' : Heap} {tk : Nat} {fo : Obj}
    (S : LamScope ps clos scope) (hd : A.handled = none) (e0 : Env0 P w K mg base A outer s H) (hl : vs.length = ps.length) (r : Vals vs us) (hcl : cvs.length = clos.length)
    (hc : ∀ (i : Nat) x c v, clos[i]? = some (x, c) → cvs[i]? = some v → H c = none ∧ ∃ u, RelV v u ∧ s.heap.IsCell c (some u))
    (hns : h'.Ns s.heap.objs.size fun x => (ps.zip us).reverse.lookup x) (hsb : Heap.SameBut s.heap.objs.size (s.heap.push fo) h') :
    Inv (cxLam P w K mg base ps clos qual scope f cd A outer s H) [] (vs.map some ++ cvs.map some) H { s with heap := h', toks := tk } := by
  have hk : ∀ b o, s.heap.get? b = some o → h'.get? b = some o := fun b o e => (hsb.2 b (Nat.ne_of_lt (Heap.lt_size e))).trans (Heap.get?_push_of_some _ e)
  have nd := List.nodup_append.mp S.nd
  have cellAt : ∀ x c, clos.lookup x = some c → ∃ (i : Nat) (v : V), clos[i]? = some (x, c) ∧ cvs[i]? = some v := fun x c h => by
    obtain ⟨i, hi⟩ := List.mem_iff_getElem?.mp (PySem.mem_of_lookup h)
    have hlt := (List.getElem?_eq_some_iff.mp hi).1
    exact ⟨i, cvs[i], hi, List.getElem?_eq_getElem (by omega)⟩
  have cellK : ∀ c v, s.heap.IsCell c v → h'.IsCell c v := fun c v ⟨o, ho, hd⟩ => ⟨o, hk _ _ ho, hd⟩
  refine ⟨⟨e0.mod, S.kind, rfl, rfl, Nat.le_refl _, S.inj, fun y hy => ?_, fun y c z _ => absurd z Bool.false_ne_true, fun _ => hd, Around.frames_deeper e0.frames, .inr ⟨rfl, rfl⟩, fun b z => absurd (show b ∈ ([] : List Addr) from z) (by simp), e0.bs, e0.bsz, fun b _ _ z => absurd (show b ∈ ([] : List Addr) from z) (by simp), fun b z => absurd (show b ∈ ([] : List Addr) from z) (by simp), e0.funs, e0.frf⟩,
    rfl, e0.bare, Un.kept hk, ⟨_, hns, fun i y v h1 h2 h3 => ?_⟩, fun y c h => ?_, e0.hok.fresh (Nat.le_refl _), fun y c h => ?_, fun p hp => absurd (show p ∈ ([] : List (Addr × Obj)) from hp) (by simp), e0.hok.kept hk, ?_⟩
  · have hy : scope.names.lookup y = some .cell ∨ scope.names.lookup y = some .free := hy
    rcases hy with hy | hy
    · exact absurd rfl (S.nocell _ (PySem.mem_of_lookup hy))
    · exact S.free y hy
  · have h1 : (ps ++ clos.map (·.1))[i]? = some y := h1
    by_cases hi : i < ps.length
    · rw [List.getElem?_append_left hi] at h1
      rw [List.getElem?_append_left (by rw [List.length_map]; omega), List.getElem?_map] at h2
      have ha : vs[i]? = some v := by
        cases e : vs[i]? with
        | none => rw [e] at h2; cases h2
        | some a => rw [e] at h2; cases h2; rfl
      obtain ⟨u, hu, rv⟩ := r.get ha
      refine ⟨u, rv, .inl ⟨S.par y (List.mem_of_getElem? h1), ?_⟩⟩
      refine lookup_nd ?_ (List.mem_reverse.mpr (List.mem_iff_getElem?.mpr ⟨i, by rw [List.getElem?_zip_eq_some]; exact ⟨h1, hu⟩⟩))
      rw [List.map_reverse]
      refine (List.reverse_perm _).nodup_iff.mpr ?_
      rw [List.map_fst_zip (by have := r.length; omega)]
      exact nd.1
    · rw [List.getElem?_append_right (by omega), List.getElem?_map] at h1
      rw [List.getElem?_append_right (by rw [List.length_map]; omega), List.getElem?_map, List.length_map, hl] at h2
      obtain ⟨⟨y', c⟩, e1, e2⟩ := Option.map_eq_some_iff.mp h1
      cases e2
      obtain ⟨v', e3, e4⟩ := Option.map_eq_some_iff.mp h2
      cases e4
      obtain ⟨_, u, rv, hcell⟩ := hc _ _ _ _ e1 e3
      have hm : (y', c) ∈ clos := List.mem_of_getElem? e1
      exact ⟨u, rv, .inr ⟨.inr (S.fr y' (List.mem_map.mpr ⟨_, hm, rfl⟩)), c, lookup_nd nd.2.1 hm, cellK _ _ hcell⟩⟩
  · obtain ⟨i, v, e1, e2⟩ := cellAt y c h
    obtain ⟨_, u, _, hcell⟩ := hc _ _ _ _ e1 e2
    exact ⟨_, cellK _ _ hcell⟩
  · obtain ⟨i, v, e1, e2⟩ := cellAt y c h
    exact (hc _ _ _ _ e1 e2).1
  · show (vs.map some ++ cvs.map some).length = (ps ++ clos.map (·.1)).length
    rw [List.length_append, List.length_append, List.length_map, List.length_map, List.length_map]
    omega
end L2
namespace L2
open PySem PySem.Spec PyProof.Rows
def drp (H : Hp) (c : Addr) : Hp := fun b => if b = c then none else H b
theorem drp_same {H : Hp} {c : Addr} : drp H c c = none := if_pos rfl
theorem drp_ne {H : Hp} {b c : Addr} (h : b ≠ c) : drp H c b = H b := if_neg h
theorem drp_none {H : Hp} {b c : Addr} (h : H b = none) : drp H c b = none := by
  by_cases e : b = c
  · rw [e]; exact drp_same
  · rw [drp_ne e]; exact h
theorem drp_some {H : Hp} {b c : Addr} {u v : HO} (h : H b = some u) (hc : H c = some v) (d : u ≠ v) : drp H c b = some u := by rw [drp_ne (ne_of h hc d)]; exact h
theorem exO_ne {a : Addr} {o : Obj} {u : HO} (h : ∀ φ, u ≠ .ext φ) : u ≠ exO a o := h _
theorem hok_drp {P : Program} {w : World} {H : Hp} {h : Heap} {c : Addr} {o : Obj} (ok : HOk P w H h) (hc : H c = some (exO c o)) : HOk P w (drp H c) h := fun a u e => by
  by_cases ha : a = c
  · subst ha; rw [drp_same] at e; cases e
  rw [drp_ne ha] at e
  exact (ok a u e).stay (fun _ _ _ z => z) (fun b z => drp_some z hc (exO_ne fun φ q => nomatch q)) (fun b xs z => drp_some z hc (exO_ne fun φ q => nomatch q))
theorem Env0.drp {P : Program} {w : World} {K : PySem.W.Frag} {mg : Str → Option Value} {base : Heap} {A : Around} {outer : List Env} {s : Shared} {H : Hp} {c : Addr} {o : Obj} (e : Env0 P w K mg base A outer s H) (hc : H c = some (exO c o)) : Env0 P w K mg base A outer s (L2.drp H c) :=
  ⟨e.frames, e.mod, fun b ob z => ⟨(e.bs b ob z).1, drp_none (e.bs b ob z).2⟩, e.bsz, e.funs, fun b hb => drp_none (e.frf b hb), hok_drp e.hok hc, e.bare⟩
theorem ce_back {P : Program} {w : World} {outer : List Env} {H : Hp} {s s' : Shared} {Q : VK} {u : Value} {c : Addr} {o : Obj} (hc : H c = some (exO c o)) (ho : s.heap.get? c = some o) (nf : c ∉ frs outer)
    (h : CE outer P w (drp H c) s (fun v H' => H' c = none → Q v (upd H' c (exO c o))) u s') : CE outer P w H s Q u s' := by
  obtain ⟨v, H', os, bare, un, hok, rv, q⟩ := h
  have hk : s'.heap.get? c = some o := un.keep c o ho drp_same nf (by simp)
  have hn : H' c = none := un.free c o ho drp_same (by simp)
  have nec : ∀ b, H b = none → b ≠ c := fun b z e => by rw [e, hc] at z; cases z
  refine ⟨v, _, os, bare, ⟨fun b ob e n hb hx => un.keep b ob e (drp_none n) hb hx, fun b ob e n hb hx => un.slot b ob e (drp_none n) hb hx, fun b ob e n hx => ?_, un.there, fun b xs e => ?_, fun b ob x e => ?_, fun b ps e => ?_⟩, fun a x e => ?_, rv, q hn⟩
  · rw [upd_ne (nec b n)]; exact un.free b ob e (drp_none n) hx
  · have z := un.tups b xs (drp_some e hc (exO_ne fun φ q => nomatch q))
    rw [upd_ne (ne_of_none z hn)]; exact z
  · have z := un.frzs b ob x (drp_some e hc (exO_ne fun φ q => nomatch q))
    rw [upd_ne (ne_of_none z hn)]; exact z
  · obtain ⟨more, z⟩ := un.tbls b ps (drp_some e hc (exO_ne fun φ q => nomatch q))
    exact ⟨more, by rw [upd_ne (ne_of_none z hn)]; exact z⟩
  · by_cases ha : a = c
    · subst ha
      rw [upd_same] at e; cases e
      exact exO_ok hk
    · rw [upd_ne ha] at e
      exact (hok a x e).stay (fun _ _ _ z => z) (fun b z => by rw [upd_ne (ne_of_none z hn)]; exact z) (fun b xs z => by rw [upd_ne (ne_of_none z hn)]; exact z)
end L2
namespace L2
open PySem PySem.Spec PyProof.Rows
theorem hok_own {P : Program} {w : World} {H : Hp} {h : Heap} {c : Addr} {o : Obj} (ok : HOk P w H h) (hc : H c = none) (ho : h.get? c = some o) : HOk P w (upd H c (exO c o)) h := fun a u e => by
  by_cases ha : a = c
  · subst ha
    rw [upd_same] at e; cases e
    exact exO_ok ho
  · rw [upd_ne ha] at e
    exact (ok a u e).stay (fun _ _ _ z => z) (fun b z => by rw [upd_ne (ne_of_none z hc)]; exact z) (fun b xs z => by rw [upd_ne (ne_of_none z hc)]; exact z)
theorem Env0.own {P : Program} {w : World} {K : PySem.W.Frag} {mg : Str → Option Value} {base : Heap} {A : Around} {outer : List Env} {s : Shared} {H : Hp} {c : Addr} {o : Obj} (e : Env0 P w K mg base A outer s H) (hc : H c = none) (ho : s.heap.get? c = some o) (nb : base.get? c = none) (nf : c ∉ frs outer) :
    Env0 P w K mg base A outer s (upd H c (exO c o)) :=
  ⟨e.frames, e.mod, fun b ob z => ⟨(e.bs b ob z).1, by rw [upd_ne (fun q => by rw [q, nb] at z; cases z)]; exact (e.bs b ob z).2⟩, e.bsz, e.funs, fun b hb => by rw [upd_ne (fun (q : b = c) => nf (by rw [← q]; exact hb))]; exact e.frf b hb, hok_own e.hok hc ho, e.bare⟩
theorem ce_own {P : Program} {w : World} {outer : List Env} {H : Hp} {s s' : Shared} {Q : VK} {u : Value} {c : Addr} {o : Obj} (hc : H c = none) (ho : s.heap.get? c = some o)
    (h : CE outer P w (upd H c (exO c o)) s (fun v H' => H' c = some (exO c o) ∧ Q v (drp H' c)) u s') : CE outer P w H s Q u s' := by
  obtain ⟨v, H', os, bare, un, hok, rv, hH, q⟩ := h
  have hk : s'.heap.get? c = some o := (hok c _ hH).1
  have up : ∀ {b : Addr} {x : HO}, H b = some x → upd H c (exO c o) b = some x := fun e => by rw [upd_ne (ne_of_none e hc)]; exact e
  have un0 : ∀ {b : Addr}, b ≠ c → H b = none → upd H c (exO c o) b = none := fun hb n => by rw [upd_ne hb]; exact n
  have dn : ∀ {b : Addr} {x : HO}, H b ≠ none → H' b = some x → drp H' c b = some x := fun n e => by
    rw [drp_ne (fun z => n (by rw [z]; exact hc))]; exact e
  refine ⟨v, drp H' c, os, bare, ⟨fun b ob e n hb hx => ?_, fun b ob e n hb hx => ?_, fun b ob e n hx => ?_, un.there, fun b xs e => ?_, fun b ob x e => ?_, fun b ps e => ?_⟩, hok_drp hok hH, rv, q⟩
  · by_cases hbc : b = c
    · subst hbc; rw [ho] at e; cases e; exact hk
    · exact un.keep b ob e (un0 hbc n) hb hx
  · by_cases hbc : b = c
    · subst hbc; rw [ho] at e; cases e; exact ⟨_, hk⟩
    · exact un.slot b ob e (un0 hbc n) hb hx
  · by_cases hbc : b = c
    · subst hbc; exact drp_same
    · rw [drp_ne hbc]; exact un.free b ob e (un0 hbc n) hx
  · exact dn (by rw [e]; simp) (un.tups b xs (up e))
  · exact dn (by rw [e]; simp) (un.frzs b ob x (up e))
  · obtain ⟨more, z⟩ := un.tbls b ps (up e)
    exact ⟨more, dn (by rw [e]; simp) z⟩
section
variable {X : Cx} {pins : List (Addr × Obj)} {σ : St} {H : Hp} {s : Shared}
theorem Inv.ownCell (I : Inv X pins σ H s) {i : Nat} {y : Str} {v : V} {c : Addr} (hN : X.N[i]? = some y) (hσ : σ[i]? = some (some v)) (hk : X.env.scope.names.lookup y = some .cell) (hcl : X.env.cells.lookup y = some c) (hL : X.env.locals < c) :
    ∃ o u, s.heap.get? c = some o ∧ o.data = .cell (some u) ∧ RelV v u ∧ H c = none ∧ X.base.get? c = none ∧ c ∉ frs X.stack := by
  obtain ⟨m, hn, hl⟩ := I.loc
  obtain ⟨u, r, l⟩ := hl i y v hN hσ (.inr (.inl hk))
  have hcell : ∃ c, X.env.cells.lookup y = some c ∧ s.heap.IsCell c (some u) := by
    rcases l with ⟨z, _⟩ | ⟨_, z⟩
    · have z' : X.env.scope.names.lookup y = some .local := z
      rw [hk] at z'; cases z'
    · exact z
  obtain ⟨c', hc', o, ho, hd⟩ := hcell
  rw [hcl] at hc'; cases hc'
  have hsz : X.s₀.heap.objs.size ≤ X.env.locals := I.ok.above
  refine ⟨o, u, ho, hd, r, I.freeC y c hcl, Heap.get?_none_of_le (Nat.le_trans I.ok.bsz (Nat.le_trans hsz (Nat.le_of_lt hL))), fun hb => ?_⟩
  rcases List.mem_cons.mp (I.stkSub c hb) with z | z
  · exact Nat.ne_of_gt hL z
  · obtain ⟨_, o2, ho2, _⟩ := I.ok.funs.mem z
    exact Nat.lt_irrefl _ (Nat.lt_of_lt_of_le (Nat.lt_trans (Heap.lt_size ho2) (Nat.lt_of_le_of_lt hsz hL)) (Nat.le_refl _))
def tCallC (sp : Sp) (c : Addr) (i : Nat) (t : TA) : TE := fun σ H Q => t σ H fun vs H1 => ∃ v, σ[i]? = some (some v) ∧ ∀ o u, H1 c = none → RelV v u → o.data = .cell (some u) →
  sp vs (upd H1 c (exO c o)) (fun r H' => H' c = some (exO c o) ∧ Q r (drp H' c)) E0
theorem pe_calC {x y : Str} {k i : Nat} {c : Addr} {ps : List Str} {sp : Sp} {p pos : Pos} {e : Expr} {es : List Expr} {t : TA} (C : Callee X.prog X.w X.K X.mg X.base x k ps sp) (hr : Room k X.A) (hg : Gl X x) (ha : PA X (e :: es) t)
    (hN : X.N[i]? = some y) (hk : X.env.scope.names.lookup y = some .cell) (hcl : X.env.cells.lookup y = some c) (hL : X.env.locals < c)
    (hdb : (x == ("__debug__" : Str)) = false := by decide) (he : starEach (e :: es) X.env = (false, eval e X.env) :: starEach es X.env := by rfl) (hpl : (backTo pos (starEach es X.env)).any (·.1) = false := by rfl) :
    PE X (.Call (.Name x p) (e :: es) [] pos) (tCallC sp c i t) := by
  obtain ⟨f, fd, G, hm, hkp, hb⟩ := C.ex
  intro pins s σ H Q I h
  refine wpAny_Call_Name_kw (ld_glob I hg hm ?_ hdb)
  refine PySem.W.callWith_K (h₀ := X.base) I.ok.mod.kin hkp (thn (ha pos pins s σ H _ I h) fun us s1 ⟨vs, H1, I1, r, v, hσ, q⟩ => ⟨I1.kIn, ?_⟩) he hpl
  obtain ⟨o, u, ho, hd, rv, hc, nb, nf⟩ := I1.ownCell hN hσ hk hcl hL
  have q := q o u hc rv hd
  have hl : us.length = ps.length := by rw [← r.length]; exact G.len _ _ _ _ q
  have bi : BindsTo s1 fd ⟨us, []⟩ (ps.zip us) := by
    have := hb s1 us I1.kIn (by rw [List.append_nil]; exact hl)
    rw [List.append_nil] at this
    exact this
  refine wpAny_call (codeAny_mono (G.run X.A X.stack s1 _ ⟨us, []⟩ us vs _ E0 hr (I1.env0.own hc ho nb nf) bi r q) fun r s' hq => ?_)
  cases r with
  | error e => exact False.elim hq
  | ok fl =>
    cases fl with
    | ret u => exact I1.after (ce_own hc ho hq)
    | next => exact False.elim hq
    | brk => exact False.elim hq
    | cont => exact False.elim hq
end
section
variable {M : Model} {A : Around} {E : Value → Shared → Prop} {s : Shared} {env : Env} {pos : Pos} {f : Addr} {Q : Value → Shared → Prop}
theorem callWith_dyn {e : Expr} {rest : List Expr} (h : wpAny M A (spliced (backTo pos (starEach (e :: rest) env))) (fun vs s₁ => (∃ o fd, s₁.heap.get? f = some o ∧ o.data = .func fd) ∧ wpAny M A (call (.ref f) vs) Q E s₁) E s)
    (he : starEach (e :: rest) env = (false, eval e env) :: starEach rest env) (hplain : (backTo pos (starEach rest env)).any (·.1) = false) :
    wpAny M A (callWith pos (.ref f) [] (backTo pos (starEach (e :: rest) env)) []) Q E s := by
  rw [he] at h ⊢
  refine PySem.W.callWith_of (P := fun h => ∃ o fd, h.get? f = some o ∧ o.data = .func fd) (by show ((false || (backTo pos (starEach rest env)).any (·.1)) || false) = false; rw [hplain]; rfl) (fun h ⟨o, fd, ho, hd⟩ => ⟨.frame, .inl rfl, ?_⟩) (Calls.evalArgs_plain h)
  obtain ⟨cls, di, da, sl⟩ := o
  cases hd
  exact (PySem.W.Looks.ld (part := none) ho).andThen .now
end
section
variable {X : Cx}
def tCallV (r : Addr → List V → Hp → VK → Prop) (te : TE) (t : TA) : TE := fun σ H Q => te σ H fun x H1 => ∃ f o fd, x = .ref f ∧ o.data = .func fd ∧ t σ H1 fun vs H2 => H2 f = some (exO f o) ∧ r f vs H2 Q
theorem pe_callV {x : Str} {p pos : Pos} {e : Expr} {es : List Expr} {te : TE} {t : TA} {r : Addr → List V → Hp → VK → Prop} (hf : PE X (.Name x p) te) (hr : ∀ f, CallR X (.ref f) (r f)) (ha : PA X (e :: es) t)
    (he : starEach (e :: es) X.env = (false, eval e X.env) :: starEach es X.env := by rfl) (hpl : (backTo pos (starEach es X.env)).any (·.1) = false := by rfl) :
    PE X (.Call (.Name x p) (e :: es) [] pos) (tCallV r te t) := by
  intro pins s σ H Q I h
  refine wpAny_Call_Name_kw (thn (hf pins s σ H _ I h) fun v s1 ⟨z, H1, I1, rz, f, o, fd, ez, hd, q⟩ => ?_)
  subst ez
  cases (show v = Value.ref f from rz)
  exact callWith_dyn (thn (ha pos pins s1 σ H1 _ I1 q) fun us s2 ⟨vs, H2, I2, r2, hH2, q2⟩ => ⟨⟨o, fd, (I2.hok _ _ hH2).1, hd⟩, hr f pins s2 σ H2 vs us Q I2 r2 q2⟩) he hpl
end
end L2
namespace L2
open PySem PySem.Spec PyProof.Rows
section
variable {X : Cx}
end
end L2
namespace L2
open PySem PySem.Spec PyProof.Rows
section
variable {P : Program} {w : World} {K : PySem.W.Frag} {mg : Str → Option Value} {base : Heap}
theorem Fun.okC {x qual : Str} {st : Stmt} {f : Addr} {fd : FuncData} {N ps : List Str} {k : Nat} {sp : Sp} {cv : Value} (F : Fun K x qual st f fd) (hcv : fd.code = cv) (S : FnScope N ps (defScope st)) (len : ∀ vs H Q E, sp vs H Q E → vs.length = ps.length)
    (hbody : ∀ (A : Around) (outer : List Env) (s : Shared) (H : Hp) (vs : List V) (Q : VK) (E : XK), Room k (A.deeper (envOfC qual (defScope st) s.heap.objs.size f cv)) → sp vs H Q E →
      ∃ t, PSs (cxOf CX0 P w K mg base N qual (defScope st) f cv A outer s H E).nox (defBody st) t ∧ t { nx := fun _ H' => Q .non H', rt := Q } (start N vs) H) : FnOk P w K mg base CX0 (k + 1) f fd ps sp := by
  obtain ⟨oc, od, kV, doc, pm, an, cdv, ct, osl, rfl, lk, hcd⟩ := F.ex
  cases (show cdv = cv from hcv)
  refine fn_of lk hcd S len fun A outer s H vs Q E hr hsp => ?_
  obtain ⟨t, h, q⟩ := hbody A outer s H vs Q E hr hsp
  exact ⟨t, h.nox, q⟩
end
end L2
namespace L2
open PySem PySem.Spec PyProof.Rows
end L2
namespace L2
open PySem PySem.Spec PyProof.Rows
namespace TabA
open SetTable
variable (t : SetTable) (hashAt : Nat → Int) (h : Int)
def Good (N : Nat) (p : Probe) : Prop := ∀ f, N ≤ f → ∃ j, probe.go t hashAt h f p = some (.empty j none)
variable {t hashAt h}
theorem Good.mono {N M : Nat} {p : Probe} (g : Good t hashAt h N p) (l : N ≤ M) : Good t hashAt h M p := fun f hf => g f (Nat.le_trans l hf)
def it (M : Nat) : Nat → Nat → Nat
  | 0, a => a
  | k + 1, a => (it M k a * 5 + 1) % M
def cnt (o : Array (Option Nat)) : Nat := o.toList.countP Option.isSome
structure Ow (o : Array (Option Nat)) (k : Nat) : Prop where
  sz : o.size = 32
  ct : cnt o = k
  lt : ∀ (j v : Nat), o[j]? = some (some v) → v < k
end TabA
def addT2 (t : SetTable) (es : Array (Int × Value)) (h : Int) (x : Value) : Option (SetTable × Array (Int × Value)) :=
  if t.gaveWay = true then none else
  match t.probe (hAt es) h (t.probeStart h) with
  | some (.empty j none) => if (t.put j).1.fits (SetTable.insertAt es (t.put j).2 (h, x)).size = true then
      (if (t.put j).1.tooFull = true then
        (match (t.put j).1.relaid ((SetTable.insertAt es (t.put j).2 (h, x)).map (·.1)) (SetTable.grown (es.size + 1)) with
        | some (t2, order) => if (order.filterMap ((SetTable.insertAt es (t.put j).2 (h, x))[·]?)).size = (SetTable.insertAt es (t.put j).2 (h, x)).size then some (t2, order.filterMap ((SetTable.insertAt es (t.put j).2 (h, x))[·]?)) else none
        | none => none)
      else some ((t.put j).1, SetTable.insertAt es (t.put j).2 (h, x))) else none
  | _ => none
section
variable {prog : Program} {w : World} {A : Around} {E : Value → Shared → Prop} {s : Shared}
theorem relay_of {a : Addr} {o : Obj} {es : Array (Int × Value)} {ep wanted : Nat} {t t2 : SetTable} {order : Array Nat} {Q : Unit → Shared → Prop} (ho : s.heap.get? a = some o) (hd : o.data = .set es ep t) (hf : t.fits es.size = true) (hw : SetTable.sizeAbove wanted ≤ sizeLine)
    (e : t.relaid (es.map (·.1)) wanted = some (t2, order)) (hz : (order.filterMap (es[·]?)).size = es.size) (hs : es.size < 1000) (h : Q () { s with heap := s.heap.update a (Obj.putSet (order.filterMap (es[·]?)) t2) }) :
    wpAny (model prog w) A (setRelay a wanted) Q E s := by
  unfold setRelay
  refine wpAny_bind (wpAny_setState_of ho hd hf ?_)
  dsimp only
  rw [if_neg (by omega), e]
  refine wpAny_bind ?_
  show wpAny _ _ (if ((order.filterMap (es[·]?)).size != es.size) = true then _ else _) _ _ _
  rw [if_neg (by simp [hz])]
  refine wpAny_pure ?_
  dsimp only
  exact wpAny_storeSet_of ho hd h (by have : sizeLine = 2 ^ 24 := rfl; omega)
theorem setAdd_free2 {K : Type} [DecidableEq K] {knd : HeapKind prog w K} {a b : Addr} {k : K} {o : Obj} {es es' : Array (Int × Value)} {ep : Nat} {t t' : SetTable} {Q : Bool → Shared → Prop} (hr : knd.room A) (hk : knd.is s.heap k b) (ho : s.heap.get? a = some o) (hd : o.data = .set es ep t) (hf : t.fits es.size = true) (hz : es'.size < 1000) (hsz : es.size < 999)
    (hv : ∀ (tk : Nat) (Q' : Bool → Shared → Prop), Q' true { s with toks := tk } → wpAny (model prog w) A (hashByValue 8 (.ref b)) Q' E { s with toks := tk })
    (e : addT2 t es (knd.hash k) (.ref b) = some (t', es')) (hsa : SetTable.sizeAbove (SetTable.grown (es.size + 1)) ≤ sizeLine)
    (h : ∀ h' ep', Heap.SameBut a s.heap h' → h'.get? a = some { o with data := .set es' ep' t' } → Q true { s with heap := h', toks := s.toks + knd.draws k }) :
    wpAny (model prog w) A (setAdd a (.ref b)) Q E s := by
  unfold addT2 at e
  split at e
  · cases e
  · rename_i hg
    split at e
    · rename_i j hp
      split at e
      · rename_i hfit
        have hiz : (SetTable.insertAt es (t.put j).2 (knd.hash k, Value.ref b)).size = es.size + 1 := by
          have := (SetTable.insertAt_perm es (t.put j).2 (knd.hash k, Value.ref b)).length_eq
          simpa using this
        unfold setAdd
        refine wpAny_holding (wpAny_bind (knd.pyHash hr hk ?_))
        unfold setAddHashed
        refine wpAny_holding ?_
        show wpAny _ _ (setAddHashedIn a (.ref b) (knd.hash k) (99999 + 1)) _ _ _
        unfold setAddHashedIn
        refine wpAny_bind (wpAny_setState_of (s := { s with toks := s.toks + knd.draws k }) ho hd hf ?_)
        dsimp only
        rw [if_neg (show ¬ byScan (.ref b) es = true by simp [byScan, Value.scannable])]
        refine wpAny_bind ?_
        unfold setSearch
        show wpAny _ _ (setSearchFrom a (.ref b) (knd.hash k) true (99999 + 1) none) _ _ _
        unfold setSearchFrom
        refine wpAny_bind (wpAny_setState_of (s := { s with toks := s.toks + knd.draws k }) ho hd hf ?_)
        dsimp only
        rw [if_neg hg]
        split
        · rename_i met hm
          have em : met = .empty j none := Option.some.inj (hm.symm.trans hp)
          subst em
          dsimp only
          refine wpAny_pure ?_
          dsimp only
          refine wpAny_bind (wpAny_setState_of (s := { s with toks := s.toks + knd.draws k }) ho hd hf ?_)
          dsimp only
          have tail : wpAny (model prog w) A (storeSet a (SetTable.insertAt es (t.put j).2 (knd.hash k, .ref b)) (t.put j).1 >>= fun _ => if (!false && (t.put j).1.tooFull) = true then (setRelay a (SetTable.grown (es.size + 1)) >>= fun _ => pure true) else pure true) Q E { s with toks := s.toks + knd.draws k } := by
            refine wpAny_bind (wpAny_storeSet_of (s := { s with toks := s.toks + knd.draws k }) ho hd ?_ (by have : sizeLine = 2 ^ 24 := rfl; omega))
            have g1 := Heap.get?_update_self (Obj.putSet (SetTable.insertAt es (t.put j).2 (knd.hash k, .ref b)) (t.put j).1) ho (by rw [putSet_of _ _ hd]; rfl)
            rw [putSet_of _ _ hd] at g1
            split at e
            · rename_i hfull
              rw [if_pos (by simpa using hfull)]
              split at e
              · rename_i t2 order hrl
                split at e
                · rename_i hq
                  injection e with e
                  injection e with e1 e2
                  subst e1 e2
                  refine wpAny_bind (relay_of (s := { s with heap := _, toks := s.toks + knd.draws k }) g1 rfl hfit hsa hrl hq (by omega) ?_)
                  refine wpAny_pure (h _ (ep + 1 + 1) ((Heap.SameBut.update ..).trans (Heap.SameBut.update ..)) ?_)
                  have := Heap.get?_update_self (Obj.putSet (order.filterMap ((SetTable.insertAt es (t.put j).2 (knd.hash k, Value.ref b))[·]?)) t2) g1 (by rw [putSet_of _ _ rfl]; rfl)
                  rw [putSet_of _ _ rfl] at this
                  exact this
                · cases e
              · cases e
            · rename_i hfull
              injection e with e
              injection e with e1 e2
              subst e1 e2
              rw [if_neg (by simpa using hfull)]
              exact wpAny_pure (h _ _ (Heap.SameBut.update ..) g1)
          split
          · refine wpAny_bind (hv _ _ ?_)
            rw [if_pos (rfl : true = true)]
            exact tail
          · refine wpAny_bind (wpAny_pure ?_)
            rw [if_pos (rfl : true = true)]
            exact tail
        · rename_i hm
          exact (hm _ hp).elim
      · cases e
    · cases e
end
section
variable {prog : Program} {w : World} {A : Around} {R : Result → Shared → Prop} {I : Addr} {fp wr : List Addr} {G : Array GenState → Array GenState → Prop} {n : Nat} {P : Nat → Value → Prop} {St : Nat → Shared → Prop}
theorem loop_tups2 (W : WalksS prog w A.in1 I fp wr G n P St) (S : Addr) (hSf : S ∉ fp) (knd : HeapKind prog w (List Int)) (hroom : knd.room A.in1) (his : ∀ h k b, ITup h k b → knd.is h k b) (ad : Nat → Addr) (key : Nat → List Int) (hval : ∀ i v, P i v → v = .ref (ad i))
    (had : ∀ i, i < n → ad i ≠ S ∧ ad i ∉ wr) (T : Nat → SetTable) (Es : Nat → Array (Int × Value)) (hadd : ∀ i, i < n → addT2 (T i) (Es i) (knd.hash (key i)) (.ref (ad i)) = some (T (i + 1), Es (i + 1))) (hfit : ∀ i, i ≤ n → (T i).fits (Es i).size = true ∧ (Es i).size < 1000 ∧ SetTable.sizeAbove (SetTable.grown ((Es i).size + 1)) ≤ sizeLine ∧ (Es i).size < 999) :
    ∀ (k i : Nat) (s : Shared), n - i = k → i ≤ n → St i s → (∀ j, j < n → ITup s.heap (key j) (ad j)) → (∃ o ep, s.heap.get? S = some o ∧ o.ExactSet ∧ o.data = .set (Es i) ep (T i)) →
      (∀ s', Moved (S :: wr) G s s' → (∃ o ep, s'.heap.get? S = some o ∧ o.ExactSet ∧ o.data = .set (Es n) ep (T n)) → R (.ok (.ret .none)) s') →
      codeAny (model prog w) A (.builtin "set.update.loop" ⟨[.ref S, .ref I], []⟩) R s := by
  have hSw : S ∉ wr := fun h => hSf (W.sub _ h)
  have more : ∀ b ∈ wr, b ∈ S :: wr := fun b hb => List.mem_cons_of_mem _ hb
  have it_kept : ∀ {h h' : Heap} {k b}, ITup h k b → (∀ o, h.get? b = some o → h'.get? b = some o) → ITup h' k b := fun ⟨o, its, c, h1, h2⟩ f => ⟨o, its, c, f o h1, h2⟩
  intro k
  induction k with
  | zero =>
    intro i s hk hi hst ht hS hR
    obtain rfl : i = n := by omega
    refine codeAny_builtin F.entry_set_update_loop ?_
    rw [Around.under_plainId F.plain_set_update_loop _]
    show wpAny _ A.in1 (pyNext (.ref I) >>= _) _ _ s
    refine wpAny_bind (W.done s _ _ hst fun s' hm => wpAny_pure (hR s' (hm.mono more) ?_))
    obtain ⟨o, ep, h1, h2⟩ := hS
    exact ⟨o, ep, hm.heap S _ hSw h1, h2⟩
  | succ k ih =>
    intro i s hk hi hst ht hS hR
    have hlt : i < n := by omega
    refine codeAny_builtin F.entry_set_update_loop ?_
    rw [Around.under_plainId F.plain_set_update_loop _]
    show wpAny _ A.in1 (pyNext (.ref I) >>= _) _ _ s
    refine wpAny_bind (W.item i s _ _ hlt hst fun v s' hP hst' hm => ?_)
    obtain rfl := hval i v hP
    obtain ⟨o, ep, h1, h2, h3⟩ := hS
    have ht' : ∀ j, j < n → ITup s'.heap (key j) (ad j) := fun j hj => it_kept (ht j hj) fun o q => hm.heap _ o (had j hj).2 q
    obtain ⟨ob, its, c, g1, g2, g3, g4⟩ := id (ht' i hlt)
    show wpAny _ A.in1 (holding [Value.ref (ad i)] (setAdd S (.ref (ad i))) >>= _) _ _ s'
    refine wpAny_bind (wpAny_holding ?_)
    refine setAdd_free2 (knd := knd) (s := s') hroom (his _ _ _ (ht' i hlt)) (hm.heap S _ hSw h1) h3 (hfit i hi).1 (hfit (i + 1) hlt).2.1 (hfit i hi).2.2.2 (fun tk Q' q => hbv_ints (s := { s' with toks := tk }) g1 g2 g3 (fun v hv => ?_) q) (hadd i hlt) (hfit i hi).2.2.1 fun h' ep' sb hg => ?_
    · exact g4.allInts v (by simpa using hv)
    · refine wpAny_pure ⟨plainId_quiet F.plain_set_update_loop _, ih (i + 1) _ (by omega) hlt (W.frame _ s' _ _ hst' (Nat.le_add_right _ _) fun b hb o e => ?_) (fun j hj => it_kept (ht' j hj) fun o q => ?_) ⟨_, _, hg, h2, rfl⟩ fun s'' hm'' hS'' => ?_⟩
      · rw [sb.2 b (fun z => hSf (z ▸ hb))]; exact e
      · rw [sb.2 _ (had j hj).1]; exact q
      · refine hR s'' (Moved.trans W.gtrans ((hm.mono more).then_heap (Nat.le_add_right _ _) fun b o hb e => ?_) hm'') hS''
        rw [sb.2 b (fun z => hb (by rw [z]; exact List.mem_cons_self))]; exact e
end
set_option maxHeartbeats 3200000 in
theorem call_set_tups2 {prog : Program} {w : World} {A : Around} {E : Value → Shared → Prop} {s : Shared} {l : Addr} {as : List Addr} {Q : Value → Shared → Prop} (hh : A.handled = none) (hl : s.heap.IsList l (as.map Value.ref).toArray)
    (knd : HeapKind prog w (List Int)) (hroom : knd.room A.in1.in1.in1) (his : ∀ h k b, ITup h k b → knd.is h k b) (key : Nat → List Int) (htup : ∀ j, j < as.length → ITup s.heap (key j) (as.getD j 0))
    (T : Bool → Nat → SetTable) (Es : Bool → Nat → Array (Int × Value)) (h0 : ∀ led, T led 0 = .fresh 0 0 led ∧ Es led 0 = #[]) (hadd : ∀ led i, i < as.length → addT2 (T led i) (Es led i) (knd.hash (key i)) (.ref (as.getD i 0)) = some (T led (i + 1), Es led (i + 1)))
    (hfit : ∀ led i, i ≤ as.length → (T led i).fits (Es led i).size = true ∧ (Es led i).size < 1000 ∧ SetTable.sizeAbove (SetTable.grown ((Es led i).size + 1)) ≤ sizeLine ∧ (Es led i).size < 999)
    (h : ∀ (led : Bool) (h' : Heap) (tk : Nat), (∃ o ep, h'.get? s.heap.objs.size = some o ∧ o.ExactSet ∧ o.data = .set (Es led as.length) ep (T led as.length)) → (∀ b o, b < s.heap.objs.size → s.heap.get? b = some o → h'.get? b = some o) →
      Q (.ref s.heap.objs.size) { s with heap := h', toks := tk }) : wpAny (model prog w) A (call (.type "set") [.ref l]) Q E s := by
  obtain ⟨c0, tl0, hmro⟩ := F.called_set.mro
  have made := F.called_set.made
  have sub := F.called_set.sub
  have nt := F.called_set.notType
  have cc := F.called_set.canCreate
  have ck := F.typeCall_set_1 (.ref l)
  refine wpAny_call (codeAny_of_tree ?_)
  show wpAny _ _ (callAny (.type "set") ⟨[.ref l], []⟩) _ _ _
  refine wpAny_pure ⟨Code.quiet_builtin _ (by decide +kernel), codeAny_builtin F.entry_type_call ?_⟩
  rw [Around.under_plain (weight_type_call_type "set" [.ref l] []) rfl]
  repeat (any_goals (first | assumption | wp_step))
  refine codeAny_mono (code_set_new_1 (.ref l) (E := E) (Q₁ := fun v s₁ => ∃ led : Bool, v = .ref s.heap.objs.size ∧ s₁ = { s with heap := s.heap.push (set0 led) }) fun led => ⟨led, rfl, rfl⟩) fun r s₁ hr => ?_
  match r, hr with
  | .error e, hr => exact hr
  | .ok (.ret v), ⟨led, ev, es⟩ =>
    subst ev es
    have hS : (s.heap.push (set0 led)).get? s.heap.objs.size = some (set0 led) := Heap.get?_push_size _ rfl
    have hT : Shared.TypeIs { s with heap := s.heap.push (set0 led) } (.ref s.heap.objs.size) "set" := ⟨_, hS, rfl⟩
    have li := F.called_set.init.lookup
    have bi := F.called_set.init.bind (.ref s.heap.objs.size)
    repeat (any_goals (first | assumption | wp_step))
    refine codeAny_mono (codeAny_call_builtin (R := wants (fun r s₂ => r = .none ∧ ∃ h' tk, s₂ = { s with heap := h', toks := tk } ∧ (∃ o ep, h'.get? s.heap.objs.size = some o ∧ o.ExactSet ∧ o.data = .set (Es led as.length) ep (T led as.length)) ∧
      ∀ b o, b < s.heap.objs.size → s.heap.get? b = some o → h'.get? b = some o) E) F.called_set.init.plain F.entry_set_init (check_set_init_1 hT ?_)) fun r₂ s₂ hr₂ => ?_
    · have lt : l < s.heap.objs.size := by obtain ⟨o, ho, _⟩ := hl; exact Heap.lt_size ho
      obtain ⟨⟨oc, od, odt, osl⟩, hol, hcl, nl, hdl⟩ := id hl
      simp only at hcl hdl
      subst hcl hdl
      have hol' : (s.heap.push (set0 led)).get? l = some ⟨.type "list", od, .seq (as.map Value.ref).toArray nl, osl⟩ := Heap.get?_push_of_some _ hol
      have n1 := F.sub_list_set
      have n2 := F.sub_list_frozenset
      have n3 : (Value.type "list" == Value.type "dict") = false := by decide
      have hl1 : (s.heap.push (set0 led)).IsList l (as.map Value.ref).toArray := ⟨_, hol', rfl, nl, rfl⟩
      unfold Builtin.«set.__init__» noKeywords Builtin.Frozenset.updateFrom
      generalize ePI : pyIter = PI
      wp_walk
      subst ePI
      refine wpAny_pyIter_list hl1 (wpAny_bind (wpAny_runValue ?_))
      have sz1 : (s.heap.push (set0 led)).objs.size = s.heap.objs.size + 1 := Heap.size_push ..
      have hd3 : A.in1.in1.in1.handled = none := by simp [hh]
      have neI : l ≠ (s.heap.push (set0 led)).objs.size := by rw [sz1]; exact Nat.ne_of_lt (Nat.lt_succ_of_lt lt)
      have nS : s.heap.objs.size ∉ [(s.heap.push (set0 led)).objs.size, l] := by
        rw [sz1]
        intro z
        rcases List.mem_cons.mp z with z | z
        · exact absurd z (Nat.ne_of_lt (Nat.lt_succ_self _))
        · exact absurd (List.mem_singleton.mp z) (Nat.ne_of_gt lt)
      have hld : ∀ j, j < as.length → as.getD j 0 < s.heap.objs.size := fun j hj => by obtain ⟨o, _, _, h1, _⟩ := htup j hj; exact Heap.lt_size h1
      refine loop_tups2 ((Walks.list hd3 _ l neI (as.map Value.ref).toArray).toS) s.heap.objs.size nS knd hroom his (fun i => as.getD i 0) key (fun i v hv => ?_) (fun i hi => ?_) (T led) (Es led) (fun i hi => hadd led i (by simpa using hi)) (fun i hi => hfit led i (by simpa using hi))
        ((as.map Value.ref).toArray.size - 0) 0 _ (by omega) (Nat.zero_le _) ⟨⟨_, Heap.get?_push_size _ rfl, rfl, rfl⟩, (hl1.push _)⟩ (fun j hj => ?_) ?_ fun s' hm hS' => ?_
      · have hv' : (as.map Value.ref).toArray[i]? = some v := hv
        rw [List.getElem?_toArray, List.getElem?_map] at hv'
        obtain ⟨x, hx, rfl⟩ := Option.map_eq_some_iff.mp hv'
        show _ = Value.ref (as.getD i 0)
        rw [List.getD_eq_getElem?_getD, hx]; rfl
      · have hi' : i < as.length := by simpa using hi
        have := hld i hi'
        refine ⟨Nat.ne_of_lt this, fun z => ?_⟩
        have z' := List.mem_singleton.mp z
        rw [sz1] at z'
        exact absurd z' (Nat.ne_of_lt (Nat.lt_succ_of_lt this))
      · obtain ⟨o, its, c, q1, q2⟩ := htup j (by simpa using hj)
        exact ⟨o, its, c, Heap.get?_push_of_some _ (Heap.get?_push_of_some _ q1), q2⟩
      · refine ⟨_, 0, Heap.get?_push_of_some _ hS, ⟨rfl, rfl, rfl⟩, ?_⟩
        rw [(h0 led).1, (h0 led).2]
      · obtain ⟨h', g', d', tk', os'⟩ := s'
        obtain rfl : g' = s.gens := hm.gens
        obtain rfl : d' = s.drawn := hm.drawn
        obtain rfl : os' = s.os := hm.os
        refine wpAny_pure ?_
        show wpAny _ _ (ret Value.none) _ _ _
        refine wpAny_pure ⟨rfl, h', tk', rfl, by simpa using hS', fun b o hb e => hm.heap b o (fun z => ?_) (Heap.get?_push_of_some _ (Heap.get?_push_of_some _ e))⟩
        rcases List.mem_cons.mp z with z | z
        · exact absurd z (Nat.ne_of_lt hb)
        · have z' := List.mem_singleton.mp z
          rw [sz1] at z'
          exact absurd z' (Nat.ne_of_lt (Nat.lt_succ_of_lt hb))
    · match r₂, hr₂ with
      | .error e, z => exact z
      | .ok (.ret v), ⟨e1, h', tk, e2, z1, z2⟩ =>
        subst e1 e2
        repeat (any_goals (first | assumption | wp_step))
        exact h led h' tk z1 z2
      | .ok .next, z => exact z.elim
      | .ok .brk, z => exact z.elim
      | .ok .cont, z => exact z.elim
  | .ok .next, hr => exact hr.elim
  | .ok .brk, hr => exact hr.elim
  | .ok .cont, hr => exact hr.elim
structure SI (t : SetTable) (es : Array (Int × Value)) (n : Nat) (hs : List Int) : Prop where
  dm : t.dummies = #[]
  ms : t.mask = 7 ∧ n < 5 ∨ t.mask = 31 ∧ n ≤ 18
  pl : t.place.size = n
  sz : es.size = n
  hm : ∀ e ∈ es, e.1 ∈ hs
theorem SI.fits {t : SetTable} {es : Array (Int × Value)} {n : Nat} {hs : List Int} (I : SI t es n hs) : t.fits es.size = true := by
  unfold SetTable.fits SetTable.fill
  rw [I.pl, I.sz, I.dm]
  simp
  rcases I.ms with q | q <;> omega
end L2
namespace L2
open PySem PySem.Spec PyProof.Rows
section
variable {prog : Program} {w : World} {κ : Type} [DecidableEq κ] {knd : HeapKind prog w κ} {A : Around} {E : Value → Shared → Prop} {s : Shared}
end
section
variable {X : Cx}
end
end L2
namespace L2
open PySem PySem.Spec PyProof.Rows
section
variable {prog : Program} {w : World}
abbrev TI2 (prog : Program) (w : World) : HeapKind prog w (List Int) := tupleKind (intKind prog w)
def hashP (k : List Int × List Int) : Int := reduceHash (Builtin.Tuple.tupleHashOf [hashT k.1, hashT k.2])
def IsPK (prog : Program) (w : World) (h : Heap) (k : List Int × List Int) (b : Addr) : Prop := ∃ o n x y, h.get? b = some o ∧ o.cls = .type "tuple" ∧ o.data = .seq #[.ref x, .ref y] n ∧ (TI2 prog w).is h k.1 x ∧ (TI2 prog w).is h k.2 y
variable {A : Around} {E : Value → Shared → Prop} {s : Shared}
theorem IsPK.typeIs {k : List Int × List Int} {b : Addr} (x : IsPK prog w s.heap k b) : s.TypeIs (.ref b) "tuple" := let ⟨o, _, _, _, ho, hc, _⟩ := x; ⟨o, ho, hc⟩
theorem IsPK.inj {h : Heap} {a : Addr} {x y : List Int × List Int} (hx : IsPK prog w h x a) (hy : IsPK prog w h y a) : x = y := by
  obtain ⟨o, n, b, c, ho, _, hd, h1, h2⟩ := hx
  obtain ⟨o', n', b', c', ho', _, hd', h1', h2'⟩ := hy
  obtain rfl : o = o' := Option.some.inj (ho.symm.trans ho')
  rw [hd] at hd'
  injection hd' with e _
  simp at e
  obtain ⟨rfl, rfl⟩ := e
  exact Prod.ext (IsTupleKey.inj h1 h1') (IsTupleKey.inj h2 h2')
theorem IsPK.keeps {h h' : Heap} {k : List Int × List Int} {a d : Addr} {o : Obj} {es ep} (x : IsPK prog w h k a) (ho : h.get? d = some o) (hd : o.data = .dict es ep) (hs : Heap.SameBut d h h') : IsPK prog w h' k a := by
  obtain ⟨o', n, b, c, ho', hc, hd', h1, h2⟩ := x
  have hne : a ≠ d := by
    rintro rfl
    obtain rfl : o' = o := Option.some.inj (ho'.symm.trans ho)
    rw [hd] at hd'; exact nomatch hd'
  exact ⟨o', n, b, c, (hs.2 a hne).trans ho', hc, hd', h1.keeps ho hd hs, h2.keeps ho hd hs⟩
end
end L2
namespace L2
open PySem PySem.Spec PyProof.Rows
abbrev PKey := (List Int × List Int) × Addr
def entP (x : PKey) : DictEntry := ⟨hashP x.1, .ref x.2, .bool true⟩
def dP (a : Addr) (xs : List PKey) : HO := .ext fun h => (a == sysModules) = false ∧ ∃ o es ep, h.get? a = some o ∧ o.ExactDict ∧ o.data = .dict es ep ∧ es.toList = xs.map entP
def PkAt (H : Hp) (k : List Int × List Int) (b : Addr) : Prop := ∃ c d, H b = some (.tup [.ref c, .ref d]) ∧ H c = some (.tup (k.1.map V.int)) ∧ H d = some (.tup (k.2.map V.int))
def PKs (H : Hp) (xs : List PKey) : Prop := xs.length ≤ 1000 ∧ (xs.map (·.1)).Nodup ∧ ∀ x ∈ xs, PkAt H x.1 x.2
section
variable {X : Cx}
end
theorem PkAt.keeps {H H' : Hp} {k : List Int × List Int} {b : Addr} (p : PkAt H k b) (ht : ∀ b ys, H b = some (.tup ys) → H' b = some (.tup ys)) : PkAt H' k b := let ⟨c, d, h1, h2, h3⟩ := p; ⟨c, d, ht _ _ h1, ht _ _ h2, ht _ _ h3⟩
theorem PKs.keeps {H H' : Hp} {xs : List PKey} (p : PKs H xs) (ht : ∀ b ys, H b = some (.tup ys) → H' b = some (.tup ys)) : PKs H' xs := ⟨p.1, p.2.1, fun x hx => (p.2.2 x hx).keeps ht⟩
theorem op_eqDK {X : Cx} {K : PySem.W.Frag} {k : Nat} (e : X.K = K) (hr : Room k X.A) : OpR X (compareOp .Eq) (rEqD K) := by subst e; exact op_eqD hr
end L2
namespace L2
open PySem PySem.Spec PyProof.Rows
theorem made_inv {X : Cx} {pins : List (Addr × Obj)} {σ : St} {H : Hp} {s : Shared} {P c' : Addr} {ps : Array Value} {h' : Heap} {tk : Nat} {oc fo : Obj} {cv : Value × Value} (I : Inv X pins σ H s) (hP : H P = some (.tbl ps)) (hx : Heap.ExtBut P s.heap h') (hge : s.heap.objs.size ≤ c') (hlt : c' < h'.objs.size)
    (hoc : h'.get? c' = some oc) (hfr : fo.isFreed = false) (hP' : h'.get? P = some (PySem.W.tabObj (ps ++ #[cv.1, cv.2, .ref c']))) :
    H h'.objs.size = none ∧ H c' = none ∧ h'.objs.size ≠ c' ∧ Inv X pins σ (upd (upd (upd H P (.tbl (ps ++ #[cv.1, cv.2, .ref c']))) c' (exO c' oc)) h'.objs.size (exO h'.objs.size fo)) { s with heap := h'.push fo, toks := tk } := by
  have hsz : s.heap.objs.size ≤ h'.objs.size := Nat.le_of_lt (Nat.lt_of_le_of_lt hge hlt)
  have hcN : s.heap.get? c' = none := Heap.get?_none_of_le hge
  have hfN : s.heap.get? h'.objs.size = none := Heap.get?_none_of_le hsz
  have hHc : H c' = none := I.hok.none_of hcN
  have hHf : H h'.objs.size = none := I.hok.none_of hfN
  have hfc : h'.objs.size ≠ c' := Nat.ne_of_gt hlt
  have hPc : P ≠ c' := ne_of_none hP hHc
  have hPf : P ≠ h'.objs.size := ne_of_none hP hHf
  refine ⟨hHf, hHc, hfc, ?_⟩
  have kp : ∀ b o, b ≠ P → s.heap.get? b = some o → (h'.push fo).get? b = some o := fun b o hb e => Heap.get?_push_of_some _ (hx b o hb e)
  have nPn : ∀ b, H b = none → b ≠ P := fun b n z => by rw [z, hP] at n; cases n
  have new : ∀ b u, s.heap.get? b = some u → b ≠ c' ∧ b ≠ h'.objs.size := fun b u e => ⟨fun z => (by rw [z, hcN] at e; cases e), fun z => (by rw [z, hfN] at e; cases e)⟩
  refine I.step (g' := s.gens) (d' := s.drawn) (ch := []) (fun _ z => nomatch z) (fun b o _ _ _ e n => kp b o (nPn b n) e) (fun b o _ _ _ e n => ⟨o.slots, kp b o (nPn b n) e⟩) (fun b o _ e n => ?_) (fun b o _ e => ?_) (fun b xs e => ?_) (fun b o u e => ?_) (fun b ps' e => ?_) (fun m hm => ?_) (fun b u e => ?_) I.bare
  · rw [upd_ne (new b o e).2, upd_ne (new b o e).1, upd_ne (nPn b n)]; exact n
  · by_cases hb : b = P
    · subst hb; exact ⟨_, Heap.get?_push_of_some _ hP'⟩
    · exact ⟨o, kp b o hb e⟩
  · rw [upd_ne (ne_of_none e hHf), upd_ne (ne_of_none e hHc), upd_ne (ne_of e hP (fun z => nomatch z))]; exact e
  · rw [upd_ne (ne_of_none e hHf), upd_ne (ne_of_none e hHc), upd_ne (ne_of e hP (fun z => nomatch z))]; exact e
  · by_cases hb : b = P
    · subst hb
      rw [hP] at e; cases e
      exact ⟨_, by rw [upd_ne hPf, upd_ne hPc, upd_same]⟩
    · exact ⟨#[], by rw [upd_ne (ne_of_none e hHf), upd_ne (ne_of_none e hHc), upd_ne hb, e]; simp⟩
  · exact (hm.extBut hx (fun z => by rw [← z, I.free] at hP; cases hP)).push _
  · by_cases hbf : b = h'.objs.size
    · subst hbf
      rw [upd_same] at e; cases e
      exact exO_ok (Heap.get?_push_size _ hfr)
    rw [upd_ne hbf] at e
    by_cases hbc : b = c'
    · subst hbc
      rw [upd_same] at e; cases e
      exact exO_ok (Heap.get?_push_of_some _ hoc)
    rw [upd_ne hbc] at e
    by_cases hbP : b = P
    · subst hbP
      rw [upd_same] at e; cases e
      exact Heap.get?_push_of_some _ hP'
    rw [upd_ne hbP] at e
    refine (I.hok b u e).stay (fun b2 u2 hb2 e2 => kp b2 u2 ?_ e2) (fun b2 e2 => ?_) (fun b2 xs e2 => ?_)
    · rcases hb2 with z | z
      · rw [z]; exact hbP
      · exact ne_of z hP (fun z => nomatch z)
    · rw [upd_ne (ne_of_none e2 hHf), upd_ne (ne_of_none e2 hHc), upd_ne (ne_of e2 hP (fun z => nomatch z))]; exact e2
    · rw [upd_ne (ne_of_none e2 hHf), upd_ne (ne_of_none e2 hHc), upd_ne (ne_of e2 hP (fun z => nomatch z))]; exact e2
def tNest (P : Addr) (pos : Pos) (qual : Str) (mk : Addr → Value → Value → Obj) (i : Nat) : TS := fun D σ H => ∃ ps, H P = some (.tbl ps) ∧ TriplesOk ps.toList ∧
  ((codeAmong pos ps.toList = none ∧ ∀ f c' oc ctv doc, H f = none → H c' = none → f ≠ c' → CodeOf oc c' qual → D.nx (σ.set i (some (.ref f))) (upd (upd (upd H P (.tbl (ps ++ #[rawInt pos.line, rawInt pos.col, .ref c']))) c' (exO c' oc)) f (exO f (mk c' ctv doc)))) ∨
   ∃ c', codeAmong pos ps.toList = some (.ref c') ∧ ∀ f ctv doc, H f = none → D.nx (σ.set i (some (.ref f))) (upd H f (exO f (mk c' ctv doc))))
theorem ps_nest {X : Cx} {name : Str} {params : Arguments} {body : List Stmt} {scope : Scope} {pos : Pos} {P c : Addr} {clos : List (Str × Addr)} {i : Nat} (hd0 : params.defaults = []) (hk0 : params.kw_defaults = []) (hann : annTrees params none X.env = []) (hcl : closureFor scope X.env = pure clos) (hcode : X.env.code = .ref c)
    (hC : PySem.W.codeHdIn X.K c P = true) (hB : X.base.BuiltinsAt X.mg P) (hgP : mainGlobals ≠ P) (hN : X.N.Nodup) (hi : X.N[i]? = some name) (hx : Loc X.env.scope name) (hf : X.fn name = true ∨ X.env.scope.names.lookup name = some .local) :
    PS X (.FunctionDef name params body [] none [] scope none name pos) (tNest P pos (qualnameIn X.env name name) (fun c' ctv doc => PySem.W.fnMade name (qualnameIn X.env name name) params body scope clos doc ((X.mg "__name__").getD .none) c' ctv) i) := by
  intro pins s σ H D I h
  obtain ⟨ps, hP, ht, h⟩ := h
  have hPs : s.heap.get? P = some (PySem.W.tabObj ps) := I.hok P _ hP
  have hB' : s.heap.BuiltinsAt X.mg P := let ⟨bm, o, h1, h2, h3, h4, h5, r⟩ := hB; ⟨bm, o, h1, h2, h3, h4, I.bk _ _ h5, r⟩
  refine PySem.W.nestDef_K hd0 hk0 hann ?_
  rcases h with ⟨hnf, q⟩ | ⟨c', hh, q⟩
  · refine PySem.W.makeFunction_K hcl I.ok.glob (I.mod.glob.keeps I.bk) hcode (PySem.W.codeHd_of_K I.kIn hC) hPs ht hnf hgP hB' fun c' ctv doc h' tk hx' hge hlt hrec hP' => ?_
    obtain ⟨oc, hoc⟩ : ∃ oc, h'.get? c' = some oc := by
      obtain ⟨a, o, _, _, e0, e1, _⟩ := hrec
      cases e0
      exact ⟨o, e1⟩
    obtain ⟨hHf, hHc, hfc, I1⟩ := made_inv (cv := (rawInt pos.line, rawInt pos.col)) (tk := tk) (fo := PySem.W.fnMade name (qualnameIn X.env name name) params body scope clos doc ((X.mg "__name__").getD .none) c' ctv) I hP hx' hge hlt hoc rfl hP'
    refine store_ok I1 hN hi hx (v := .ref h'.objs.size) rfl (fun s' I' => ⟨_, _, I', q _ c' oc ctv doc hHf hHc hfc fun h1 e1 => ?_⟩) hf
    obtain ⟨a, o, vs, t, e0, e2, r⟩ := hrec
    cases e0
    rw [hoc] at e2; cases e2
    exact ⟨_, _, vs, t, rfl, e1, r⟩
  · refine PySem.W.makeFunction_hit hcl I.ok.glob (I.mod.glob.keeps I.bk) hcode (PySem.W.codeHd_of_K I.kIn hC) hPs ht hh hB' fun ctv doc h' tk hk hsz => ?_
    have I1 := I.laid (a := h'.objs.size) (o := exO h'.objs.size (PySem.W.fnMade name (qualnameIn X.env name name) params body scope clos doc ((X.mg "__name__").getD .none) c' ctv)) (t' := tk) (h' := h'.push (PySem.W.fnMade name (qualnameIn X.env name name) params body scope clos doc ((X.mg "__name__").getD .none) c' ctv))
      (fun b u e => Heap.get?_push_of_some _ (hk b u e)) hsz (exO_ok (Heap.get?_push_size _ rfl))
    exact store_ok I1 hN hi hx (v := .ref h'.objs.size) rfl (fun s' I' => ⟨_, _, I', q _ ctv doc (I.hok.none_of (Heap.get?_none_of_le hsz))⟩) hf
theorem nest_run {CX : CXT} {P : Program} {w : World} {K : PySem.W.Frag} {mg : Str → Option Value} {base : Heap} {k : Nat} {f c' : Addr} {name qual : Str} {params : Arguments} {body : List Stmt} {scope : Scope} {doc pm ctv : Value} {ps : List Str} {clos : List (Str × Addr)} {A : Around} {outer : List Env} {s : Shared} {H : Hp} {args : Args} {us : List Value} {vs cvs : List V} {Q : VK} {E : XK}
    (ho : s.heap.get? f = some (PySem.W.fnMade name qual params body scope clos doc pm c' ctv)) (hrec : s.heap.CodeRec (.ref c') qual) (S : LamScope ps clos scope) (hr : Room (k + 1) A) (e0 : Env0 P w K mg base A outer s H) (hl : vs.length = ps.length) (r : Vals vs us) (hcl : cvs.length = clos.length)
    (hc : ∀ (i : Nat) x c v, clos[i]? = some (x, c) → cvs[i]? = some v → H c = none ∧ ∃ u, RelV v u ∧ s.heap.IsCell c (some u)) (hb : BindsTo s (PySem.W.fnX name qual params body scope clos .none .none doc pm none (.ref c') ctv) args (ps.zip us))
    (hbody : Room k (A.deeper (lamEnv qual scope clos s.heap.objs.size f (.ref c'))) → ∃ t, PSs (cxLam P w K mg base ps clos qual scope f (.ref c') A outer s H) body t ∧ t { nx := fun _ H' => Q .non H', rt := Q } (vs.map some ++ cvs.map some) H) :
    codeAny (model P w) A (.call (.ref f) args) (CR CX outer P w H s Q E) s := by
  have lim : s.heap.NoLimit := e0.mod.nolimit.keeps fun b o e => (e0.bs b o e).1
  refine codeAny_call_function hr.depth ho rfl S.co S.gen rfl hrec (hb _ _ _ _ ?_)
  refine wpAny_newFunctionEnv S.nocell (fun x hx => S.par x.1 (List.of_mem_zip hx).1) (fun h' hns hsb => ?_) S.kind
  have hk : ∀ b o, s.heap.get? b = some o → h'.get? b = some o := fun b o e => (hsb.2 b (Nat.ne_of_lt (Heap.lt_size e))).trans (Heap.get?_push_of_some _ e)
  refine ⟨lim.keeps hk, codeAny_func ?_⟩
  obtain ⟨t, ht, hq⟩ := hbody (hr.deeper _)
  have I := lam_inv (qual := qual) (f := f) (cd := .ref c') (tk := s.toks + (ps.zip us).length) S hr.hd e0 hl r hcl hc hns hsb
  refine wpAny_mono (ht [] _ _ H _ I hq) (fun fl s' hs => ?_) fun e s' z => False.elim z
  cases fl with
  | ret u =>
    obtain ⟨v, σ', H', J, rv, q⟩ := hs
    exact ⟨v, H', J.os, J.bare, J.base, J.hok, rv, q⟩
  | next =>
    obtain ⟨σ', H', J, q⟩ := hs
    exact ⟨V.non, H', J.os, J.bare, J.base, J.hok, rfl, q⟩
  | brk =>
    obtain ⟨_, _, _, q⟩ := hs
    exact False.elim q
  | cont =>
    obtain ⟨_, _, _, q⟩ := hs
    exact False.elim q
section
variable {X : Cx}
theorem call_nest1 {k : Nat} {name qual y : Str} {params : Arguments} {body : List Stmt} {scope : Scope} {pm : Value} {ps : List Str} {spB : List V → V → Hp → VK → Prop} (hr : Room (k + 1) X.A) (hps : ∀ c, LamScope ps [(y, c)] scope) (len : ∀ vs v H Q, spB vs v H Q → vs.length = ps.length)
    (hb : ∀ (s : Shared) (us : List Value) (c c' : Addr) (doc ctv : Value), us.length = ps.length → BindsTo s (PySem.W.fnX name qual params body scope [(y, c)] .none .none doc pm none (.ref c') ctv) ⟨us, []⟩ (ps.zip us))
    (hbody : ∀ (f c c' : Addr) (A : Around) (outer : List Env) (s : Shared) (H : Hp) (vs : List V) (v : V) (Q : VK), Room k (A.deeper (lamEnv qual scope [(y, c)] s.heap.objs.size f (.ref c'))) → spB vs v H Q → ∃ t, PSs (cxLam X.prog X.w X.K X.mg X.base ps [(y, c)] qual scope f (.ref c') A outer s H) body t ∧ t { nx := fun _ H' => Q .non H', rt := Q } (vs.map some ++ [some v]) H) (f : Addr) :
    CallR X (.ref f) (fun vs H Q => ∃ (c c' : Addr) (ctv doc : Value) (oc o : Obj) (u : Value) (v : V), H f = some (exO f (PySem.W.fnMade name qual params body scope [(y, c)] doc pm c' ctv)) ∧ H c' = some (exO c' oc) ∧ CodeOf oc c' qual ∧ H c = some (exO c o) ∧ o.data = .cell (some u) ∧ RelV v u ∧
      spB vs v (drp H c) fun r H' => H' c = none → Q r (upd H' c (exO c o))) := by
  intro pins s σ H vs us Q I r h
  obtain ⟨c, c', ctv, doc, oc, o, u, v, hf, hc', hcode, hc, hd, rv, q⟩ := h
  have hl := len _ _ _ _ q
  have ho : s.heap.get? c = some o := (I.hok _ _ hc).1
  have hof := (I.hok _ _ hf).1
  have hoc := (I.hok _ _ hc').1
  have nf : c ∉ frs X.stack := fun z => by have := I.stkFree c z; rw [hc] at this; cases this
  refine wpAny_call (codeAny_mono (nest_run (CX := CX0) (E := E0) (Q := fun r H' => H' c = none → Q r (upd H' c (exO c o))) hof (hcode _ hoc) (hps c) hr (I.env0.drp hc) hl r (cvs := [v]) rfl (fun i x d w' e1 e2 => ?_) (hb s us c c' doc ctv (by rw [← r.length]; exact hl)) (fun hr' => hbody f c c' _ _ _ _ _ _ _ hr' q)) fun r s' hq => ?_)
  · cases i with
    | zero =>
      cases e1
      cases e2
      exact ⟨drp_same, u, rv, o, ho, hd⟩
    | succ i => simp at e1
  · cases r with
    | error e => exact False.elim hq
    | ok fl =>
      cases fl with
      | ret u => exact I.after (ce_back hc ho nf hq)
      | next => exact False.elim hq
      | brk => exact False.elim hq
      | cont => exact False.elim hq
theorem call_nest2 {k : Nat} {name qual y z : Str} {params : Arguments} {body : List Stmt} {scope : Scope} {pm : Value} {ps : List Str} {spB : List V → V → V → Hp → VK → Prop} (hr : Room (k + 1) X.A) (hps : ∀ c d, c ≠ d → LamScope ps [(y, c), (z, d)] scope) (len : ∀ vs v w H Q, spB vs v w H Q → vs.length = ps.length)
    (hb : ∀ (s : Shared) (us : List Value) (c d c' : Addr) (doc ctv : Value), us.length = ps.length → BindsTo s (PySem.W.fnX name qual params body scope [(y, c), (z, d)] .none .none doc pm none (.ref c') ctv) ⟨us, []⟩ (ps.zip us))
    (hbody : ∀ (f c d c' : Addr) (A : Around) (outer : List Env) (s : Shared) (H : Hp) (vs : List V) (v w : V) (Q : VK), Room k (A.deeper (lamEnv qual scope [(y, c), (z, d)] s.heap.objs.size f (.ref c'))) → spB vs v w H Q → ∃ t, PSs (cxLam X.prog X.w X.K X.mg X.base ps [(y, c), (z, d)] qual scope f (.ref c') A outer s H) body t ∧ t { nx := fun _ H' => Q .non H', rt := Q } (vs.map some ++ [some v, some w]) H) (f : Addr) :
    CallR X (.ref f) (fun vs H Q => ∃ (c d c' : Addr) (ctv doc : Value) (oc o o2 : Obj) (u u2 : Value) (v v2 : V), H f = some (exO f (PySem.W.fnMade name qual params body scope [(y, c), (z, d)] doc pm c' ctv)) ∧ H c' = some (exO c' oc) ∧ CodeOf oc c' qual ∧ c ≠ d ∧ H c = some (exO c o) ∧ o.data = .cell (some u) ∧ RelV v u ∧ H d = some (exO d o2) ∧ o2.data = .cell (some u2) ∧ RelV v2 u2 ∧
      spB vs v v2 (drp (drp H c) d) fun r H' => H' d = none → upd H' d (exO d o2) c = none → Q r (upd (upd H' d (exO d o2)) c (exO c o))) := by
  intro pins s σ H vs us Q I r h
  obtain ⟨c, d, c', ctv, doc, oc, o, o2, u, u2, v, v2, hf, hc', hcode, cd, hc, hod, rv, hd, hod2, rv2, q⟩ := h
  have hl := len _ _ _ _ _ q
  have ho : s.heap.get? c = some o := (I.hok _ _ hc).1
  have ho2 : s.heap.get? d = some o2 := (I.hok _ _ hd).1
  have hof := (I.hok _ _ hf).1
  have hoc := (I.hok _ _ hc').1
  have nf : c ∉ frs X.stack := fun z => by have := I.stkFree c z; rw [hc] at this; cases this
  have nf2 : d ∉ frs X.stack := fun z => by have := I.stkFree d z; rw [hd] at this; cases this
  have hd' : drp H c d = some (exO d o2) := by rw [drp_ne cd.symm]; exact hd
  refine wpAny_call (codeAny_mono (nest_run (CX := CX0) (E := E0) (Q := fun r H' => H' d = none → upd H' d (exO d o2) c = none → Q r (upd (upd H' d (exO d o2)) c (exO c o))) hof (hcode _ hoc) (hps c d cd) hr ((I.env0.drp hc).drp hd') hl r (cvs := [v, v2]) rfl (fun i x e w' e1 e2 => ?_) (hb s us c d c' doc ctv (by rw [← r.length]; exact hl)) (fun hr' => hbody f c d c' _ _ _ _ _ _ _ _ hr' q)) fun r s' hq => ?_)
  · cases i with
    | zero =>
      cases e1
      cases e2
      exact ⟨drp_none drp_same, u, rv, o, ho, hod⟩
    | succ i =>
      cases i with
      | zero =>
        cases e1
        cases e2
        exact ⟨drp_same, u2, rv2, o2, ho2, hod2⟩
      | succ i => simp at e1
  · cases r with
    | error e => exact False.elim hq
    | ok fl =>
      cases fl with
      | ret u => exact I.after (ce_back hc ho nf (ce_back (Q := fun v H' => H' c = none → Q v (upd H' c (exO c o))) hd' ho2 nf2 hq))
      | next => exact False.elim hq
      | brk => exact False.elim hq
      | cont => exact False.elim hq
end
def PSG (X : Cx) (body : List Stmt) (t : (V → St → Hp → Prop) → St → Hp → Prop) : Prop := ∀ (pins : List (Addr × Obj)) (s : Shared) (σ : St) (H : Hp) (G : V → St → Hp → Prop), Inv X pins σ H s → t G σ H →
  wpAny (model X.prog X.w) X.A (execs body X.env) (fun fl s' => ∃ u v σ' H', fl = .ret u ∧ Inv X pins σ' H' s' ∧ RelV v u ∧ G v σ' H') (fun e s' => X.xe e s') s
section
variable {X : Cx}
theorem psg_ret {e : Expr} {te : TE} {pos : Pos} (he : PE X e te) : PSG X [.Return (some e) pos] (fun G σ H => te σ H fun v H' => G v σ H') := by
  intro pins s σ H G I h
  refine wpAny_execs_cons (wpAny_Return_some (thn (he pins s σ H _ I h) fun v s1 ⟨x, H1, I1, r1, q1⟩ => ?_))
  exact ⟨v, x, σ, H1, rfl, I1, r1, q1⟩
theorem psg_cons {st : Stmt} {rest : List Stmt} {t : TS} {g : (V → St → Hp → Prop) → St → Hp → Prop} (h1 : PS X st t) (h2 : PSG X rest g) : PSG X (st :: rest) (fun G σ H => t { nx := fun σ1 H1 => g G σ1 H1, rt := fun _ _ => False } σ H) := by
  intro pins s σ H G I h
  refine wpAny_execs_cons (thn (h1 pins s σ H _ I h) fun f s1 q => ?_)
  cases f with
  | next =>
    obtain ⟨σ', H', I', q⟩ := q
    exact h2 pins s1 σ' H' G I' q
  | ret u =>
    obtain ⟨_, _, _, _, _, q⟩ := q
    exact False.elim q
  | brk =>
    obtain ⟨_, _, _, q⟩ := q
    exact False.elim q
  | cont =>
    obtain ⟨_, _, _, q⟩ := q
    exact False.elim q
end
theorem Un.own {fs : List Addr} {H H' : Hp} {h h' : Heap} {c : Addr} {x : HO} (u : Un fs [] H H' h h') (hn : h.get? c = none) (hc : H' c = none) : Un fs [] H (upd H' c x) h h' where
  keep := u.keep
  slot := u.slot
  free := fun b o e n hx => by rw [upd_ne (fun z => by rw [z, hn] at e; cases e)]; exact u.free b o e n hx
  there := u.there
  tups := fun b xs e => by have z := u.tups b xs e; rw [upd_ne (ne_of_none z hc)]; exact z
  frzs := fun b o y e => by have z := u.frzs b o y e; rw [upd_ne (ne_of_none z hc)]; exact z
  tbls := fun b ps e => by obtain ⟨more, z⟩ := u.tbls b ps e; exact ⟨more, by rw [upd_ne (ne_of_none z hc)]; exact z⟩
theorem fn_ofC {P : Program} {w : World} {K : PySem.W.Frag} {mg : Str → Option Value} {base : Heap} {k : Nat} {f : Addr} {name qual : Str} {params : Arguments} {body : List Stmt} {scope : Scope} {dV kV doc pm cdv ct oc : Value} {an od : Option Addr}
    {osl : Array (Option Value)} {N ps : List Str} {sp : Sp} {i1 i2 a1 a2 : Nat} {y1 y2 : Str} (lk : K.lookup f = some ⟨oc, od, .func (PySem.W.fnOf name qual params body scope dV kV doc pm an cdv ct), osl⟩) (hcd : PySem.W.codeIn K cdv qual = true) (S : FnScope N ps scope)
    (len : ∀ vs H Q E, sp vs H Q E → vs.length = ps.length) (ne : a1 ≠ a2)
    (h1N : N[i1]? = some y1) (h1k : scope.names.lookup y1 = some .cell) (h1c : ∀ n, (cellsFrom (n + 1) scope.names []).lookup y1 = some (n + a1)) (p1 : 0 < a1)
    (h2N : N[i2]? = some y2) (h2k : scope.names.lookup y2 = some .cell) (h2c : ∀ n, (cellsFrom (n + 1) scope.names []).lookup y2 = some (n + a2)) (p2 : 0 < a2)
    (hbody : ∀ (A : Around) (outer : List Env) (s : Shared) (H : Hp) (vs : List V) (Q : VK) (E : XK), Room k (A.deeper (envOfC qual scope s.heap.objs.size f cdv)) → sp vs H Q E →
      ∃ g, PSG (cxOf CX0 P w K mg base N qual scope f cdv A outer s H E) body g ∧ g (fun v σ H' => ∃ v1 v2, σ[i1]? = some (some v1) ∧ σ[i2]? = some (some v2) ∧ ∀ o1 o2 u1 u2, H' (s.heap.objs.size + a1) = none → H' (s.heap.objs.size + a2) = none → H (s.heap.objs.size + a1) = none → H (s.heap.objs.size + a2) = none →
        o1.data = .cell (some u1) → RelV v1 u1 → o2.data = .cell (some u2) → RelV v2 u2 → Q v (upd (upd H' (s.heap.objs.size + a1) (exO (s.heap.objs.size + a1) o1)) (s.heap.objs.size + a2) (exO (s.heap.objs.size + a2) o2))) (start N vs) H) :
    FnOk P w K mg base CX0 (k + 1) f (PySem.W.fnOf name qual params body scope dV kV doc pm an cdv ct) ps sp := by
  refine ⟨len, fun A outer s H args us vs Q E hr e0 hb r hsp => ?_⟩
  have hl := len _ _ _ _ hsp
  have KX : K.In s.heap := e0.mod.kin.keeps fun b o e => (e0.bs b o e).1
  have lim : s.heap.NoLimit := e0.mod.nolimit.keeps fun b o e => (e0.bs b o e).1
  have hkind : ∀ y ∈ ps.zip us, scope.names.lookup y.1 = some .local ∨ (scope.names.lookup y.1 = some .cell ∧ ((cellsFrom (s.heap.objs.size + 1) scope.names []).lookup y.1).isSome = true) := fun ⟨n, v⟩ hy => by
    rcases S.par n (List.of_mem_zip hy).1 with q | q
    · exact .inl q
    · exact .inr ⟨q, PySem.W.cellsFrom_some _ _ _ (.inl q)⟩
  refine codeAny_call_function hr.depth (KX _ _ lk) rfl S.co S.gen rfl (PySem.W.codeRec_of KX hcd) (hb _ _ _ _ ?_)
  refine wpAny_newFunctionEnv_cells S.kind hkind fun env he s1 x => ?_
  subst he
  refine ⟨lim.keeps x.toInCall.keep, codeAny_func ?_⟩
  obtain ⟨g, hg, hq⟩ := hbody A outer s H vs Q E (hr.deeper _) hsp
  have I : Inv (cxOf CX0 P w K mg base N qual scope f cdv A outer s H E) [] (start N vs) H s1 := inv_start S hr.hd e0 hl r x
  refine wpAny_mono (hg [] s1 (start N vs) H _ I hq) (fun fl s' hs => ?_) fun e s' hs => hs
  obtain ⟨u, v, σ', H', rfl, J, rv, v1, v2, hs1, hs2, q⟩ := hs
  obtain ⟨o1, u1, g1, d1, r1, n1, _, _⟩ := J.ownCell (y := y1) (c := s.heap.objs.size + a1) h1N hs1 h1k (h1c _) (show s.heap.objs.size < s.heap.objs.size + a1 by omega)
  obtain ⟨o2, u2, g2, d2, r2, n2, _, _⟩ := J.ownCell (y := y2) (c := s.heap.objs.size + a2) h2N hs2 h2k (h2c _) (show s.heap.objs.size < s.heap.objs.size + a2 by omega)
  have f1 : s.heap.get? (s.heap.objs.size + a1) = none := Heap.get?_none_of_le (Nat.le_add_right _ _)
  have f2 : s.heap.get? (s.heap.objs.size + a2) = none := Heap.get?_none_of_le (Nat.le_add_right _ _)
  have n2' : upd H' (s.heap.objs.size + a1) (exO (s.heap.objs.size + a1) o1) (s.heap.objs.size + a2) = none := by rw [upd_ne (fun z => ne (Nat.add_left_cancel z).symm)]; exact n2
  exact ⟨v, _, J.os, J.bare, (J.base.own f1 n1).own f2 n2', hok_own (hok_own J.hok n1 g1) n2' g2, rv, q o1 o2 u1 u2 n1 n2 (e0.hok.none_of f1) (e0.hok.none_of f2) d1 r1 d2 r2⟩
theorem PSG.nox {X : Cx} {st : List Stmt} {t : (V → St → Hp → Prop) → St → Hp → Prop} (h : PSG X.nox st t) : PSG X st t := fun pins s σ H G I hw =>
  wpAny_mono (h pins s σ H G (I.wish _) hw) (fun _ _ ⟨u, v, σ', H', e, I', r, q⟩ => ⟨u, v, σ', H', e, I'.unwish, r, q⟩) fun _ _ z => False.elim z
def tbOf (K : PySem.W.Frag) (x : Str) : Addr × Addr := (PySem.W.tabIn K x).getD (0, 0)
section
variable {P : Program} {w : World} {K : PySem.W.Frag} {mg : Str → Option Value} {base : Heap}
theorem Fun.okG {x qual : Str} {st : Stmt} {f : Addr} {fd : FuncData} {N ps : List Str} {k : Nat} {sp : Sp} {cv : Value} {i1 i2 a1 a2 : Nat} {y1 y2 : Str} (F : Fun K x qual st f fd) (hcv : fd.code = cv) (S : FnScope N ps (defScope st)) (len : ∀ vs H Q E, sp vs H Q E → vs.length = ps.length) (ne : a1 ≠ a2)
    (h1N : N[i1]? = some y1) (h1k : (defScope st).names.lookup y1 = some .cell) (h1c : ∀ n, (cellsFrom (n + 1) (defScope st).names []).lookup y1 = some (n + a1)) (p1 : 0 < a1)
    (h2N : N[i2]? = some y2) (h2k : (defScope st).names.lookup y2 = some .cell) (h2c : ∀ n, (cellsFrom (n + 1) (defScope st).names []).lookup y2 = some (n + a2)) (p2 : 0 < a2)
    (hbody : ∀ (A : Around) (outer : List Env) (s : Shared) (H : Hp) (vs : List V) (Q : VK) (E : XK), Room k (A.deeper (envOfC qual (defScope st) s.heap.objs.size f cv)) → sp vs H Q E →
      ∃ g, PSG (cxOf CX0 P w K mg base N qual (defScope st) f cv A outer s H E).nox (defBody st) g ∧ g (fun v σ H' => ∃ v1 v2, σ[i1]? = some (some v1) ∧ σ[i2]? = some (some v2) ∧ ∀ o1 o2 u1 u2, H' (s.heap.objs.size + a1) = none → H' (s.heap.objs.size + a2) = none → H (s.heap.objs.size + a1) = none → H (s.heap.objs.size + a2) = none →
        o1.data = .cell (some u1) → RelV v1 u1 → o2.data = .cell (some u2) → RelV v2 u2 → Q v (upd (upd H' (s.heap.objs.size + a1) (exO (s.heap.objs.size + a1) o1)) (s.heap.objs.size + a2) (exO (s.heap.objs.size + a2) o2))) (start N vs) H) : FnOk P w K mg base CX0 (k + 1) f fd ps sp := by
  obtain ⟨oc, od, kV, doc, pm, an, cdv, ct, osl, rfl, lk, hcd⟩ := F.ex
  cases (show cdv = cv from hcv)
  refine fn_ofC lk hcd S len ne h1N h1k h1c p1 h2N h2k h2c p2 fun A outer s H vs Q E hr hsp => ?_
  obtain ⟨t, h, q⟩ := hbody A outer s H vs Q E hr hsp
  exact ⟨t, h.nox, q⟩
end
end L2
namespace L2
open PySem PySem.Spec PyProof.Rows
def rotL (x : Nat) : Nat := (x * 2147483648) % 18446744073709551616 + x / 8589934592
def rotR (x : Nat) : Nat := x / 2147483648 + (x % 2147483648) * 8589934592
def lane (acc h : Nat) : Nat := rotL ((acc + h * 14029467366897019727) % 18446744073709551616) * 11400714785074694791 % 18446744073709551616
def unmix (y : Nat) : Nat := rotR (y * 614540362697595703 % 18446744073709551616)
theorem rot_lt {x : Nat} (h : x < 18446744073709551616) : rotL x < 18446744073709551616 := by unfold rotL; omega
theorem rotR_rotL {x : Nat} (h : x < 18446744073709551616) : rotR (rotL x) = x := by
  obtain ⟨g, l, rfl, h1, h2⟩ : ∃ g l, x = 8589934592 * g + l ∧ l < 8589934592 ∧ g < 2147483648 := ⟨x / 8589934592, x % 8589934592, by omega, by omega, by omega⟩
  have e : rotL (8589934592 * g + l) = l * 2147483648 + g := by unfold rotL; omega
  rw [e]
  unfold rotR
  omega
theorem mul_inv1 {x : Nat} (h : x < 18446744073709551616) : x * 11400714785074694791 % 18446744073709551616 * 614540362697595703 % 18446744073709551616 = x := by omega
theorem mul_inv2 {x : Nat} (h : x < 18446744073709551616) : x * 14029467366897019727 % 18446744073709551616 * 839798700976720815 % 18446744073709551616 = x := by omega
theorem lane_lt (acc h : Nat) : lane acc h < 18446744073709551616 := by unfold lane; exact Nat.mod_lt _ (by decide)
theorem unmix_lane (acc h : Nat) : unmix (lane acc h) = (acc + h * 14029467366897019727) % 18446744073709551616 := by
  have hx : (acc + h * 14029467366897019727) % 18446744073709551616 < 18446744073709551616 := Nat.mod_lt _ (by decide)
  unfold unmix lane
  rw [mul_inv1 (rot_lt hx), rotR_rotL hx]
theorem hashInt_small {a : Nat} (h : a < 2000000000000000000) : hashInt (a : Int) = a := by
  have e : rawHash (a : Int) = a := by
    unfold rawHash
    have hn : ¬ ((a : Int) < 0) := by omega
    have e1 : ((a : Int).natAbs : Int) % ((2 ^ 61 - 1 : Nat) : Int) = a := by
      rw [Int.natAbs_natCast]
      exact Int.emod_eq_of_lt (by omega) (by omega)
    simp only [hn, if_false]
    first | rw [e1] | simp only [Int.natAbs_natCast]
    rw [if_neg (by intro z; have := eq_of_beq z; omega)]
  unfold hashInt
  rw [e, if_neg (by intro z; have := eq_of_beq z; omega)]
theorem lane_step (acc : Nat) (h : Nat) : ((acc + h * 14029467366897019727) % 2 ^ 64 * 2 ^ 31 % 2 ^ 64 + (acc + h * 14029467366897019727) % 2 ^ 64 / 2 ^ 33) * 11400714785074694791 % 2 ^ 64 = lane acc h := by
  have p64 : (2 : Nat) ^ 64 = 18446744073709551616 := by decide
  have p31 : (2 : Nat) ^ 31 = 2147483648 := by decide
  have p33 : (2 : Nat) ^ 33 = 8589934592 := by decide
  unfold lane rotL
  rw [p64, p31, p33]
def hFin (n acc : Nat) : Int := if ((acc + (n ^^^ (2870177450012600261 ^^^ 3527539))) % 2 ^ 64 == 2 ^ 64 - 1) = true then 1546275796 else
  if (acc + (n ^^^ (2870177450012600261 ^^^ 3527539))) % 2 ^ 64 < 2 ^ 63 then (((acc + (n ^^^ (2870177450012600261 ^^^ 3527539))) % 2 ^ 64 : Nat) : Int) else (((acc + (n ^^^ (2870177450012600261 ^^^ 3527539))) % 2 ^ 64 : Nat) : Int) - ((2 ^ 64 : Nat) : Int)
theorem th_eq (hs : List Int) : Builtin.Tuple.tupleHashOf hs = hFin hs.length (hs.foldl (fun acc h => lane acc (h % ((2 ^ 64 : Nat) : Int)).toNat) 2870177450012600261) := by
  unfold Builtin.Tuple.tupleHashOf
  simp only [lane_step]
  rfl
theorem hFin_of {n c acc : Nat} (hc : n ^^^ (2870177450012600261 ^^^ 3527539) = c) (hne : (acc + c) % 18446744073709551616 ≠ 18446744073709551615) :
    reduceHash (hFin n acc) = if (acc + c) % 18446744073709551616 < 9223372036854775808 then (((acc + c) % 18446744073709551616 : Nat) : Int) else (((acc + c) % 18446744073709551616 : Nat) : Int) - 18446744073709551616 := by
  have hlt : (acc + c) % 18446744073709551616 < 18446744073709551616 := Nat.mod_lt _ (by decide)
  have e : hFin n acc = if (acc + c) % 18446744073709551616 < 9223372036854775808 then (((acc + c) % 18446744073709551616 : Nat) : Int) else (((acc + c) % 18446744073709551616 : Nat) : Int) - 18446744073709551616 := by
    unfold hFin
    rw [hc, show (2 : Nat) ^ 64 = 18446744073709551616 from by decide, show (2 : Nat) ^ 63 = 9223372036854775808 from by decide, if_neg (by intro z; exact hne (by simpa using z))]
    rfl
  rw [e]
  generalize (acc + c) % 18446744073709551616 = f at *
  unfold reduceHash
  split <;> (rw [if_pos (by simp; omega)]; rw [if_neg (by intro z; have := eq_of_beq z; omega)])
end L2
namespace L2
open PySem PySem.Spec PyProof.Rows
def A37 : Nat := lane (lane 2870177450012600261 3) 7
def l3 (a b c : Nat) : Nat := lane (lane (lane 2870177450012600261 a) b) c
def un3 (A u : Nat) : Nat := (u + (18446744073709551616 - A)) * 839798700976720815 % 18446744073709551616
theorem un3_of {A n u : Nat} (hA : A < 18446744073709551616) (hn : n < 18446744073709551616) (e : (A + n * 14029467366897019727) % 18446744073709551616 = u) : n = un3 A u := by
  subst e
  unfold un3
  rw [Nat.mul_mod, Nat.mod_add_mod]
  have : A + n * 14029467366897019727 + (18446744073709551616 - A) = n * 14029467366897019727 + 18446744073709551616 := by
    generalize n * 14029467366897019727 = q
    omega
  rw [this, Nat.add_mod_right, ← Nat.mul_mod]
  have h := mul_inv2 hn
  rw [Nat.mod_mul_mod] at h
  exact h.symm
theorem far3 : ∀ a < 2, ∀ b < 3, ∀ c < 2, 10000000000 ≤ un3 A37 ((lane (lane 2870177450012600261 a) b + c * 14029467366897019727) % 18446744073709551616) := by decide +kernel
theorem far3_ne {a b c n : Nat} (ha : a < 2) (hb : b < 3) (hc : c < 2) (hn : n < 10000000000) : l3 3 7 n ≠ l3 a b c := by
  intro e
  have e1 := congrArg unmix e
  unfold l3 at e1
  rw [unmix_lane, unmix_lane] at e1
  have := un3_of (A := A37) (n := n) (lane_lt _ _) (by omega) e1
  have z := far3 a ha b hb c hc
  rw [← this] at z
  omega
theorem fin3_all : 10000000000 ≤ un3 A37 (unmix ((18446744073709551615 + (18446744073709551616 - 2870177450013471925)) % 18446744073709551616)) := by decide +kernel
theorem fin3_far {n : Nat} (hn : n < 10000000000) : (l3 3 7 n + 2870177450013471925) % 18446744073709551616 ≠ 18446744073709551615 := by
  intro e
  have hl : l3 3 7 n < 18446744073709551616 := lane_lt _ _
  have e' : l3 3 7 n = (18446744073709551615 + (18446744073709551616 - 2870177450013471925)) % 18446744073709551616 := by
    generalize l3 3 7 n = y at *
    omega
  have e1 := congrArg unmix e'
  unfold l3 at e1
  rw [unmix_lane] at e1
  have := un3_of (A := A37) (n := n) (lane_lt _ _) (by omega) e1
  have z := fin3_all
  rw [← this] at z
  omega
theorem fin3_small : ∀ a < 2, ∀ b < 3, ∀ c < 2, (l3 a b c + 2870177450013471925) % 18446744073709551616 ≠ 18446744073709551615 := by decide +kernel
theorem small3i : ∀ i < 12, ∀ j < 12, l3 (i % 2) (i / 2 % 3) (i / 6) = l3 (j % 2) (j / 2 % 3) (j / 6) → i = j := by decide +kernel
theorem small3 (a : Nat) (ha : a < 2) (b : Nat) (hb : b < 3) (c : Nat) (hc : c < 2) (d : Nat) (hd : d < 2) (e : Nat) (he : e < 3) (f : Nat) (hf : f < 2) (q : l3 a b c = l3 d e f) : a = d ∧ b = e ∧ c = f := by
  have := small3i (a + 2 * b + 6 * c) (by omega) (d + 2 * e + 6 * f) (by omega) (by
    rw [show (a + 2 * b + 6 * c) % 2 = a by omega, show (a + 2 * b + 6 * c) / 2 % 3 = b by omega, show (a + 2 * b + 6 * c) / 6 = c by omega, show (d + 2 * e + 6 * f) % 2 = d by omega, show (d + 2 * e + 6 * f) / 2 % 3 = e by omega, show (d + 2 * e + 6 * f) / 6 = f by omega]
    exact q)
  omega
theorem tupHash3 {a b c : Nat} (ha : a < 10000000000) (hb : b < 10000000000) (hc : c < 10000000000) (hne : (l3 a b c + 2870177450013471925) % 18446744073709551616 ≠ 18446744073709551615) :
    hashT [(a : Int), (b : Int), (c : Int)] = if (l3 a b c + 2870177450013471925) % 18446744073709551616 < 9223372036854775808 then (((l3 a b c + 2870177450013471925) % 18446744073709551616 : Nat) : Int) else (((l3 a b c + 2870177450013471925) % 18446744073709551616 : Nat) : Int) - 18446744073709551616 := by
  have hx : 3 ^^^ (2870177450012600261 ^^^ 3527539) = 2870177450013471925 := by decide
  have l : ∀ a : Nat, a < 10000000000 → (((a : Int) % ((2 ^ 64 : Nat) : Int)).toNat) = a := fun a ha => by omega
  unfold hashT
  rw [List.map_cons, List.map_cons, List.map_cons, List.map_nil, hashInt_small (by omega), hashInt_small (by omega), hashInt_small (by omega), th_eq]
  have e : ([(a : Int), (b : Int), (c : Int)].foldl (fun acc h => lane acc (h % ((2 ^ 64 : Nat) : Int)).toNat) 2870177450012600261) = l3 a b c := by
    rw [List.foldl_cons, List.foldl_cons, List.foldl_cons, List.foldl_nil, l a ha, l b hb, l c hc]
    rfl
  rw [e]
  exact hFin_of hx hne
theorem l3_of {x y : Nat} (hx : x < 18446744073709551616) (hy : y < 18446744073709551616) (e : (if (x + 2870177450013471925) % 18446744073709551616 < 9223372036854775808 then (((x + 2870177450013471925) % 18446744073709551616 : Nat) : Int) else (((x + 2870177450013471925) % 18446744073709551616 : Nat) : Int) - 18446744073709551616) =
    if (y + 2870177450013471925) % 18446744073709551616 < 9223372036854775808 then (((y + 2870177450013471925) % 18446744073709551616 : Nat) : Int) else (((y + 2870177450013471925) % 18446744073709551616 : Nat) : Int) - 18446744073709551616) : x = y := by
  split at e <;> split at e <;> omega
inductive SpotN (n : Nat) : List Int → Prop
  | small (a b c : Nat) : a < 2 → b < 3 → c < 2 → SpotN n [(a : Int), (b : Int), (c : Int)]
  | far : SpotN n [3, 7, (n : Int)]
theorem spot_hash {n : Nat} (hn : n < 10000000000) {x y : List Int} (hx : SpotN n x) (hy : SpotN n y) (e : hashT x = hashT y) : x = y := by
  have key : ∀ {x : List Int}, SpotN n x → ∃ a b c : Nat, x = [(a : Int), (b : Int), (c : Int)] ∧ a < 10000000000 ∧ b < 10000000000 ∧ c < 10000000000 ∧ (l3 a b c + 2870177450013471925) % 18446744073709551616 ≠ 18446744073709551615 ∧ ((a < 2 ∧ b < 3 ∧ c < 2) ∨ (a = 3 ∧ b = 7 ∧ c = n)) := by
    intro x hx
    cases hx with
    | small a b c h1 h2 h3 => exact ⟨a, b, c, rfl, by omega, by omega, by omega, fin3_small a h1 b h2 c h3, .inl ⟨h1, h2, h3⟩⟩
    | far => exact ⟨3, 7, n, rfl, by omega, by omega, hn, fin3_far hn, .inr ⟨rfl, rfl, rfl⟩⟩
  obtain ⟨a, b, c, rfl, a1, a2, a3, a4, a5⟩ := key hx
  obtain ⟨d, f, g, rfl, b1, b2, b3, b4, b5⟩ := key hy
  rw [tupHash3 a1 a2 a3 a4, tupHash3 b1 b2 b3 b4] at e
  have el := l3_of (lane_lt _ _) (lane_lt _ _) e
  rcases a5 with ⟨p1, p2, p3⟩ | ⟨rfl, rfl, rfl⟩ <;> rcases b5 with ⟨q1, q2, q3⟩ | ⟨rfl, rfl, rfl⟩
  · obtain ⟨rfl, rfl, rfl⟩ := small3 a p1 b p2 c p3 d q1 f q2 g q3 el
    rfl
  · exact (far3_ne p1 p2 p3 hn el.symm).elim
  · exact (far3_ne q1 q2 q3 hn el).elim
  · rfl
theorem nodup_hash {n : Nat} (hn : n < 10000000000) : ∀ {cs : List (List Int)}, (∀ c ∈ cs, SpotN n c) → cs.Nodup → (cs.map hashT).Nodup
  | [], _, _ => .nil
  | c :: cs, h, nd => by
    rw [List.nodup_cons] at nd
    rw [List.map_cons, List.nodup_cons]
    refine ⟨fun hm => ?_, nodup_hash hn (fun d hd => h d (List.mem_cons_of_mem _ hd)) nd.2⟩
    obtain ⟨d, hd, e⟩ := List.mem_map.mp hm
    have := spot_hash hn (h d (List.mem_cons_of_mem _ hd)) (h c List.mem_cons_self) e
    exact nd.1 (this ▸ hd)
end L2
namespace K32
open PySem L2
def top (i : Nat) : Stmt := PySem.Challenge.pw_wirefloor_k32_gates_and_doors.main.body.getD i (.Pass ⟨0, 0, 0, 0⟩)
abbrev sGate : Stmt := top 1
abbrev sDoorF : Stmt := top 2
abbrev sSpotOf : Stmt := top 3
abbrev sIsD : Stmt := top 4
abbrev sGateA : Stmt := top 5
abbrev sDoorA : Stmt := top 6
abbrev sSplit : Stmt := top 7
abbrev sCell : Stmt := top 9
abbrev sWhole : Stmt := top 10
abbrev sSpots : Stmt := top 11
abbrev sMix : Stmt := top 12
abbrev sLinks : Stmt := top 13
abbrev sLying : Stmt := top 14
abbrev sMark : Stmt := top 15
abbrev sDue : Stmt := top 16
abbrev sAlike : Stmt := top 17
abbrev sAll : Stmt := top 18
abbrev slaw : Stmt := top 19
structure Txt (K : PySem.W.Frag) (mg : Str → Option Value) : Prop where
  len_ : mg "len" = none
  range_ : mg "range" = none
  isinstance_ : mg "isinstance" = none
  int_ : mg "int" = none
  bool_ : mg "bool" = none
  tuple_ : mg "tuple" = none
  list_ : mg "list" = none
  dict_ : mg "dict" = none
  reversed_ : mg "reversed" = none
  ii : PySem.W.kitOne K (.type "int") (.type "int") = some true
  ib : PySem.W.kitOne K (.type "int") (.type "bool") = some false
  tt : PySem.W.kitOne K (.type "tuple") (.type "tuple") = some true
  ll : PySem.W.kitOne K (.type "list") (.type "list") = some true
abbrev Cm (S : Type) := S → Option (Option S)
abbrev T3 := List Int
def iK (x : T3) : List Key := x.map Sum.inl
theorem iK_inj {x y : T3} (h : iK x = iK y) : x = y := by
  have := congrArg (List.map kV) h
  unfold iK at this
  rw [kV_ints, kV_ints] at this
  exact map_int_inj this
theorem iK_at {H : Hp} {b : Addr} {x : T3} (h : H b = some (.tup (x.map V.int))) : H b = some (.tup ((iK x).map kV)) := by unfold iK; rw [kV_ints]; exact h
theorem dg {H : Hp} {d b : Addr} {kvs : List (List Key × V)} {x : T3} (hd : Rd H d (.dT kvs)) (hb : H b = some (.tup (x.map V.int))) : DGet H d (.ref b) (valV kvs (iK x)) := .inr ⟨kvs, iK x, b, hd, rfl, iK_at hb, rfl⟩
theorem vput (kvs : List (List Key × V)) (x y : T3) (v : V) : valV (putK kvs (iK x) v) (iK y) = if y = x then some v else valV kvs (iK y) := by
  rw [valV_put]
  by_cases e : y = x
  · rw [if_pos e, if_pos (by rw [e])]
  · rw [if_neg e, if_neg (fun z => e (iK_inj z))]
def mkI (m : T3 × Bool) : List Int := m.1 ++ [if m.2 then 1 else 0]
theorem mkI_len {m : T3 × Bool} (h : m.1.length = 3) : (mkI m).length = 4 := by unfold mkI; rw [List.length_append, h]; rfl
theorem mkI_cut {m : T3 × Bool} (h : m.1.length = 3) : cutV ((mkI m).map V.int) none (some 3) = m.1.map V.int := by
  obtain ⟨x, b⟩ := m
  match x, h with
  | [a, c, d], _ => cases b <;> rfl
theorem _root_.L2.SpotN.len {n : Nat} {x : T3} (h : SpotN n x) : x.length = 3 := by cases h <;> rfl
structure CmAt (H : Hp) (n : Nat) (kvs : List (List Key × V)) (C : Cm T3) : Prop where
  no : ∀ x, C x = none → valV kvs (iK x) = none
  fi : ∀ x, C x = some none → valV kvs (iK x) = some .non
  ye : ∀ x y, C x = some (some y) → ∃ c, valV kvs (iK x) = some (.ref c) ∧ H c = some (.tup (y.map V.int))
  nd : (kvs.map (·.1)).Nodup
  sp : ∀ p ∈ kvs, ∃ x, p.1 = iK x ∧ SpotN n x
  vl : ∀ x y, C x = some (some y) → SpotN n y
structure SpsAt (K : PySem.W.Frag) (H : Hp) (n : Nat) (p : Addr) (as : List Addr) (sps : List T3) : Prop where
  ls : SqL K H p (as.map V.ref)
  tp : Tups H as sps
  nd : sps.Nodup
  sp : ∀ x ∈ sps, SpotN n x
  l2 : 2 ≤ sps.length
  l12 : sps.length ≤ 12
theorem mkI_cat (x : T3) (d : Bool) : x.map V.int ++ [V.int (if d then 1 else 0)] = (mkI (x, d)).map V.int := by unfold mkI; rw [List.map_append]; rfl
theorem same_at {H0 H' : Hp} {D : Addr} {y : HO} (s : Same H0 H') (nD : H0 D = none) : Same H0 (upd H' D y) := fun b u e => by
  rw [upd_ne (ne_of_none e nD)]; exact s _ _ e
section
variable {tc : TT} {t u : TS} {te ta tb td ty : TE} {D : Ends} {σ : St} {H : Hp} {a d : Addr} {y v : V} {o : Option V} {K : PySem.W.Frag}
theorem ev_dnotin (ha : Ev ty σ H y) (hb : Ev td σ H (.ref a)) (g : DGet H a y o) : Ev (tDNotIn ty td) σ H (.bl (!o.isSome)) := fun _ q => ha _ (hb _ ⟨a, o, rfl, g, q⟩)
theorem et_of {b c : Bool} (h : EvT tc σ H b) (e : b = c) : EvT tc σ H c := e ▸ h
theorem sq_dput {tv : TE} {H4 : Hp} (hv : Ev tv σ H v) (hd : Ev td σ H (.ref a)) (hy : Ev ty σ H y) (p : DPut H a y v H4) (q : u D σ H4) : tSeq (sDPut td ty tv) u D σ H := hv _ (hd _ (hy _ ⟨a, H4, rfl, p, q⟩))
theorem rd_dput {tv : TE} {H4 : Hp} (hv : Ev tv σ H v) (hd : Ev td σ H (.ref a)) (hy : Ev ty σ H y) (p : DPut H a y v H4) (q : D.nx σ H4) : sDPut td ty tv D σ H := hv _ (hd _ (hy _ ⟨a, H4, rfl, p, q⟩))
theorem te_tup {tl : TA} {vs : List V} {Q : VK} (h : EvA tl σ H vs) (hz : vs.length ≤ sizeLine) (q : ∀ p, H p = none → Q (.ref p) (upd H p (.tup vs))) : tTup tl σ H Q := h _ ⟨hz, q⟩
theorem te_lst {tl : TA} {vs : List V} {Q : VK} (h : EvA tl σ H vs) (hz : vs.length ≤ sizeLine) (q : ∀ p, H p = none → Q (.ref p) (upd H p (.lst vs))) : tLst tl σ H Q := h _ ⟨hz, q⟩
theorem te_cal {sp : Sp} {tl : TA} {vs : List V} {Q : VK} (h : EvA tl σ H vs) (q : sp vs H Q E0) : tCall sp [] E0 tl σ H Q := h _ (by rw [List.append_nil]; exact q)
theorem rd_forL {tl : TA} {vs : List V} {g : TG} {tb : TS} (h : EvA tl σ H vs) (hz : vs.length ≤ sizeLine) (q : ∀ p, H p = none → tFor (iList K (fun _ H' Q => Q (.ref p) H')) g tb D σ (upd H p (.lst vs))) : tFor (iList K (tLst tl)) g tb D σ H := h _ ⟨hz, q⟩
end
theorem ev_din2 {ty td : TE} {σ : St} {H : Hp} {a : Addr} {y : V} {o : Option V} (ha : Ev ty σ H y) (hb : Ev td σ H (.ref a)) (g : DGet H a y o) : Ev (tDIn ty td) σ H (.bl o.isSome) := fun _ q => ha _ (hb _ ⟨a, o, rfl, g, q⟩)
theorem tups_app {H : Hp} : ∀ {as bs : List Addr} {cs ds : List T3}, Tups H as cs → Tups H bs ds → Tups H (as ++ bs) (cs ++ ds)
  | _, _, _, _, .nil, t => t
  | _, _, _, _, .cons h s, t => .cons h (tups_app s t)
theorem tups_drop {H : Hp} : ∀ {as : List Addr} {cs : List T3}, Tups H as cs → ∀ m, Tups H (as.drop m) (cs.drop m)
  | _, _, .nil, m => by rw [List.drop_nil, List.drop_nil]; exact .nil
  | _, _, .cons h s, 0 => .cons h s
  | _, _, .cons h s, m + 1 => tups_drop s m
theorem tups_take {H : Hp} : ∀ {as : List Addr} {cs : List T3}, Tups H as cs → ∀ m, Tups H (as.take m) (cs.take m)
  | _, _, .nil, m => by rw [List.take_nil, List.take_nil]; exact .nil
  | _, _, .cons h s, 0 => .nil
  | _, _, .cons h s, m + 1 => .cons h (tups_take s m)
theorem te_cat {K : PySem.W.Frag} {σ : St} {H : Hp} {te : TE} {b : Addr} {x : T3} (d : Bool) {c : Int} {Q : VK} (hc : c = if d then 1 else 0) (ha : Ev te σ H (.ref b)) (hb : H b = some (.tup (x.map V.int))) (hl : x.length = 3) (q : ∀ p H', Same H H' → H p = none → H' p = some (.tup ((mkI (x, d)).map V.int)) → Q (.ref p) H') :
    tOp (rCatT K) te (tTup (tCons (tC (.int c)) tNil)) σ H Q := by
  subst hc
  refine ha _ ⟨by show 1 ≤ sizeLine; decide, fun t ht => ⟨b, t, x.map V.int, [.int (if d then 1 else 0)], rfl, rfl, SqT.of (by rw [upd_ne (ne_of_none hb ht)]; exact hb), SqT.of upd_same, ?_, ?_, (fun z => by cases z), fun _ p hp => ?_⟩⟩
  · intro z; rw [List.map_eq_nil_iff.mp z] at hl; cases hl
  · rw [List.length_map, hl]; show 4 ≤ sizeLine; decide
  · have s1 : Same H (upd H t (.tup [.int (if d then 1 else 0)])) := (Same.refl H).upd ht
    rw [mkI_cat]
    exact q p _ (s1.upd hp) (s1.free hp) upd_same
theorem CmAt.isS {H : Hp} {n : Nat} {kvs : List (List Key × V)} {C : Cm T3} (h : CmAt H n kvs C) (x : T3) : (valV kvs (iK x)).isSome = (C x).isSome := by
  cases e : C x with
  | none => rw [h.no x e]; rfl
  | some o =>
    cases o with
    | none => rw [h.fi x e]; rfl
    | some y => obtain ⟨c, h1, _⟩ := h.ye x y e; rw [h1]; rfl
theorem CmAt.same {H H' : Hp} {n : Nat} {kvs : List (List Key × V)} {C : Cm T3} (h : CmAt H n kvs C) (s : Same H H') : CmAt H' n kvs C :=
  ⟨h.no, h.fi, fun x y e => by obtain ⟨c, h1, h2⟩ := h.ye x y e; exact ⟨c, h1, s _ _ h2⟩, h.nd, h.sp, h.vl⟩
theorem valV_mem {kvs : List (List Key × V)} (nd : (kvs.map (·.1)).Nodup) {p : List Key × V} (h : p ∈ kvs) : valV kvs p.1 = some p.2 := by
  induction kvs with
  | nil => cases h
  | cons q r ih =>
    rw [List.map_cons, List.nodup_cons] at nd
    rcases List.mem_cons.mp h with rfl | h
    · exact valV_pos rfl
    · rw [valV_neg (fun e => nd.1 (e ▸ List.mem_map.mpr ⟨p, h, rfl⟩))]
      exact ih nd.2 h
theorem tk_hash {P : Program} {w : World} (x : T3) : tupleKeyHash (mixKind P w) (iK x) = hashT x := by
  unfold tupleKeyHash hashT iK
  rw [List.map_map]
  rfl
theorem keys_of {n : Nat} : ∀ {kvs : List (List Key × V)}, (∀ p ∈ kvs, ∃ x, p.1 = iK x ∧ SpotN n x) → ∃ us : List T3, kvs.map (·.1) = us.map iK ∧ ∀ x ∈ us, SpotN n x
  | [], _ => ⟨[], rfl, fun _ h => nomatch h⟩
  | p :: kvs, h => by
    obtain ⟨x, e, s⟩ := h p List.mem_cons_self
    obtain ⟨us, e', s'⟩ := keys_of fun q hq => h q (List.mem_cons_of_mem _ hq)
    exact ⟨x :: us, by rw [List.map_cons, List.map_cons, e, e'], fun y hy => (List.mem_cons.mp hy).elim (fun z => z ▸ s) (s' y)⟩
theorem CmAt.hash {P : Program} {w : World} {H : Hp} {n : Nat} {kvs : List (List Key × V)} {C : Cm T3} (h : CmAt H n kvs C) (hn : n < 10000000000) : HashNd P w kvs := by
  obtain ⟨us, e, s⟩ := keys_of h.sp
  have nd := h.nd
  rw [e] at nd
  have nu : us.Nodup := by
    refine List.Pairwise.imp_of_mem ?_ (List.pairwise_map.mp nd)
    intro a b _ _ ne z
    exact ne (by rw [z])
  have := nodup_hash hn s nu
  unfold HashNd
  rw [show (kvs.map fun p => tupleKeyHash (mixKind P w) p.1) = us.map hashT by
    rw [show (kvs.map fun p => tupleKeyHash (mixKind P w) p.1) = (kvs.map (·.1)).map (tupleKeyHash (mixKind P w)) by rw [List.map_map]; rfl, e, List.map_map]
    refine List.map_congr_left fun x _ => ?_
    exact tk_hash x]
  exact this
theorem keys_putK {κ : Type} [DecidableEq κ] (kvs : List (κ × V)) (k : κ) (v : V) : (putK kvs k v).map (·.1) = if (valV kvs k).isSome = true then kvs.map (·.1) else kvs.map (·.1) ++ [k] := by
  cases e : valV kvs k with
  | none => rw [putK_new _ e, List.map_append]; rfl
  | some w =>
    have : (kvs.any fun kv => decide (kv.1 = k)) = true := by rw [valV_any, e]; rfl
    unfold putK
    rw [if_pos this, List.map_map]
    show _ = kvs.map (·.1)
    refine List.map_congr_left fun p _ => ?_
    show (if p.1 = k then (p.1, v) else p).1 = p.1
    split <;> rfl
theorem nd_put {kvs : List (List Key × V)} {k : List Key} {v : V} (h : (kvs.map (·.1)).Nodup) : ((putK kvs k v).map (·.1)).Nodup := by
  cases e : valV kvs k with
  | none => exact nd_putK v h e
  | some u => rw [keys_putK, if_pos (by rw [e]; rfl)]; exact h
theorem put_mem {kvs : List (List Key × V)} {k : List Key} {v : V} {p : List Key × V} (h : p ∈ putK kvs k v) : p.1 ∈ kvs.map (·.1) ∨ p.1 = k := by
  have h1 : p.1 ∈ (putK kvs k v).map (·.1) := List.mem_map.mpr ⟨p, h, rfl⟩
  rw [keys_putK] at h1
  split at h1
  · exact .inl h1
  · exact (List.mem_append.mp h1).imp id List.mem_singleton.mp
theorem CmAt.put {H : Hp} {n : Nat} {kvs : List (List Key × V)} {C : Cm T3} (h : CmAt H n kvs C) {x : T3} (hx : SpotN n x) {v : V} {o : Option T3} (hv : (o = none ∧ v = .non) ∨ ∃ y c, o = some y ∧ v = .ref c ∧ SpotN n y ∧ H c = some (.tup (y.map V.int))) : CmAt H n (putK kvs (iK x) v) (fun z => if z = x then some o else C z) where
  no := fun z e => by
    rw [vput]
    by_cases q : z = x
    · rw [if_pos q] at e; cases e
    · rw [if_neg q] at e ⊢; exact h.no z e
  fi := fun z e => by
    rw [vput]
    by_cases q : z = x
    · rw [if_pos q] at e ⊢
      injection e with e
      subst e
      rcases hv with ⟨_, rfl⟩ | ⟨y, c, e, _⟩
      · rfl
      · cases e
    · rw [if_neg q] at e ⊢; exact h.fi z e
  ye := fun z y e => by
    rw [vput]
    by_cases q : z = x
    · rw [if_pos q] at e ⊢
      injection e with e
      subst e
      rcases hv with ⟨e, _⟩ | ⟨y', c, e, rfl, _, hc⟩
      · cases e
      · injection e with e
        subst e
        exact ⟨c, rfl, hc⟩
    · rw [if_neg q] at e ⊢; exact h.ye z y e
  nd := nd_put h.nd
  sp := fun p hp => by
    rcases put_mem hp with q | q
    · obtain ⟨p', h1, h2⟩ := List.mem_map.mp q
      obtain ⟨z, e, hz⟩ := h.sp p' h1
      exact ⟨z, h2.symm.trans e, hz⟩
    · exact ⟨x, q, hx⟩
  vl := fun z y e => by
    by_cases q : z = x
    · rw [if_pos q] at e
      injection e with e
      subst e
      rcases hv with ⟨e, _⟩ | ⟨y', c, e, _, hy, _⟩
      · cases e
      · injection e with e
        subst e
        exact hy
    · rw [if_neg q] at e; exact h.vl z y e
theorem CmAt.tups {H H' : Hp} {n : Nat} {kvs : List (List Key × V)} {C : Cm T3} (h : CmAt H n kvs C) (s : ∀ b ys, H b = some (.tup ys) → H' b = some (.tup ys)) : CmAt H' n kvs C :=
  ⟨h.no, h.fi, fun x y e => by obtain ⟨c, h1, h2⟩ := h.ye x y e; exact ⟨c, h1, s _ _ h2⟩, h.nd, h.sp, h.vl⟩
def spots13 (n : Nat) : List T3 := [[0, 0, 0], [0, 0, 1], [0, 1, 0], [0, 1, 1], [0, 2, 0], [0, 2, 1], [1, 0, 0], [1, 0, 1], [1, 1, 0], [1, 1, 1], [1, 2, 0], [1, 2, 1], [3, 7, (n : Int)]]
theorem spot13 {n : Nat} {x : T3} (h : SpotN n x) : x ∈ spots13 n := by
  cases h with
  | small a b c h1 h2 h3 =>
    have ha : a = 0 ∨ a = 1 := by omega
    have hb : b = 0 ∨ b = 1 ∨ b = 2 := by omega
    have hc : c = 0 ∨ c = 1 := by omega
    rcases ha with rfl | rfl <;> rcases hb with rfl | rfl | rfl <;> rcases hc with rfl | rfl <;> simp [spots13]
  | far => simp [spots13]
theorem nd_sub_len {α : Type} [DecidableEq α] : ∀ {xs ys : List α}, xs.Nodup → (∀ x ∈ xs, x ∈ ys) → xs.length ≤ ys.length
  | [], _, _, _ => Nat.zero_le _
  | x :: xs, ys, nd, h => by
    rw [List.nodup_cons] at nd
    have := nd_sub_len (ys := ys.erase x) nd.2 fun y hy => (List.mem_erase_of_ne (fun z => nd.1 (by rw [← z]; exact hy))).mpr (h y (List.mem_cons_of_mem _ hy))
    have e := List.length_erase_of_mem (h x List.mem_cons_self)
    have p : 0 < ys.length := List.length_pos_of_mem (h x List.mem_cons_self)
    rw [List.length_cons]
    omega
theorem keys13 {n : Nat} {kvs : List (List Key × V)} (hnd : (kvs.map (·.1)).Nodup) (hsp : ∀ p ∈ kvs, ∃ x, p.1 = iK x ∧ SpotN n x) : kvs.length ≤ 13 := by
  obtain ⟨us, e, s⟩ := keys_of hsp
  have nd := hnd
  rw [e] at nd
  have nu : us.Nodup := by
    refine List.Pairwise.imp_of_mem ?_ (List.pairwise_map.mp nd)
    intro a b _ _ ne z
    exact ne (by rw [z])
  have := nd_sub_len nu fun x hx => spot13 (s x hx)
  have l := congrArg List.length e
  rw [List.length_map, List.length_map] at l
  rw [l]
  exact this
theorem CmAt.len {H : Hp} {n : Nat} {kvs : List (List Key × V)} {C : Cm T3} (h : CmAt H n kvs C) : kvs.length ≤ 13 := keys13 h.nd h.sp
theorem valV_key {kvs : List (List Key × V)} {k : List Key} : (valV kvs k).isSome = true ↔ k ∈ kvs.map (·.1) := by
  rw [← valV_any]
  simp
theorem CmAt.key {H : Hp} {n : Nat} {kvs : List (List Key × V)} {C : Cm T3} (h : CmAt H n kvs C) (x : T3) : iK x ∈ kvs.map (·.1) ↔ (C x).isSome = true := by rw [← valV_key, h.isS]
structure OnAt (n : Nat) (kvs : List (List Key × V)) (S : T3 → Prop) : Prop where
  nd : (kvs.map (·.1)).Nodup
  sp : ∀ p ∈ kvs, ∃ x, p.1 = iK x ∧ SpotN n x
  is : ∀ x, (valV kvs (iK x)).isSome = true ↔ S x
theorem OnAt.put {n : Nat} {kvs : List (List Key × V)} {S S' : T3 → Prop} (h : OnAt n kvs S) {x : T3} (hx : SpotN n x) (v : V) (e : ∀ z, S' z ↔ S z ∨ z = x) : OnAt n (putK kvs (iK x) v) S' where
  nd := nd_put h.nd
  sp := fun p hp => by
    rcases put_mem hp with q | q
    · obtain ⟨p', h1, h2⟩ := List.mem_map.mp q
      obtain ⟨z, e, hz⟩ := h.sp p' h1
      exact ⟨z, h2.symm.trans e, hz⟩
    · exact ⟨x, q, hx⟩
  is := fun z => by
    rw [vput, e]
    by_cases q : z = x
    · rw [if_pos q]; exact ⟨fun _ => .inr q, fun _ => rfl⟩
    · rw [if_neg q, h.is]; exact ⟨.inl, fun w => w.elim id fun w => (q w).elim⟩
theorem cm_nil {H : Hp} {n : Nat} : CmAt H n [] (fun _ => none) := ⟨fun _ _ => rfl, (fun _ e => nomatch e), (fun _ _ e => nomatch e), .nil, (fun _ h => nomatch h), fun _ _ e => nomatch e⟩
theorem CmAt.congr {H : Hp} {n : Nat} {kvs : List (List Key × V)} {C C' : Cm T3} (h : CmAt H n kvs C) (e : ∀ x, C x = C' x) : CmAt H n kvs C' := (funext e : C = C') ▸ h
theorem SpsAt.at {K : PySem.W.Frag} {H : Hp} {n : Nat} {p : Addr} {as : List Addr} {sps : List T3} (h : SpsAt K H n p as sps) {i : Nat} {x : V} (hi : (as.map V.ref)[i]? = some x) : ∃ b c, x = .ref b ∧ as[i]? = some b ∧ sps[i]? = some c ∧ c ∈ sps ∧ H b = some (.tup (c.map V.int)) := by
  rw [List.getElem?_map] at hi
  obtain ⟨b, hb, rfl⟩ := Option.map_eq_some_iff.mp hi
  obtain ⟨c, ec, g⟩ := h.tp.at hb
  exact ⟨b, c, rfl, hb, ec, List.mem_of_getElem? ec, g⟩
theorem SpsAt.same {K : PySem.W.Frag} {H H' : Hp} {n : Nat} {p : Addr} {as : List Addr} {sps : List T3} (h : SpsAt K H n p as sps) (s : Same H H') : SpsAt K H' n p as sps := ⟨s.seq h.ls, h.tp.same s, h.nd, h.sp, h.l2, h.l12⟩
theorem te_nest {sp sp2 : Sp} {tl tr : TA} {σ : St} {H : Hp} {Q : VK} (h : tCall sp [] E0 tl σ H (fun v H1 => tr σ H1 fun vs H2 => sp2 ((v :: vs) ++ []) H2 Q E0)) : tCall sp2 [] E0 (tCons (tCall sp [] E0 tl) tr) σ H Q := h
theorem cm_smd {K : PySem.W.Frag} {H : Hp} {n : Nat} {a b : Addr} {ka kb : List (List Key × V)} {C : Cm T3} (ha : Rd H a (.dT ka)) (hb : Rd H b (.dT kb)) (h1 : CmAt H n ka C) (h2 : CmAt H n kb C) : SmD K H a b := by
  have mem : ∀ {ka kb : List (List Key × V)}, CmAt H n ka C → CmAt H n kb C → ∀ k ∈ ka.map (·.1), k ∈ kb.map (·.1) := fun h1 h2 k hk => by
    obtain ⟨p, hp, rfl⟩ := List.mem_map.mp hk
    obtain ⟨x, ex, _⟩ := h1.sp p hp
    rw [ex] at hk ⊢
    exact (h2.key x).mpr ((h1.key x).mp hk)
  have l1 := nd_sub_len h1.nd (mem h1 h2)
  have l2 := nd_sub_len h2.nd (mem h2 h1)
  rw [List.length_map, List.length_map] at l1 l2
  refine .inr ⟨ka, kb, ha, hb, by omega, fun p hp => ?_⟩
  obtain ⟨x, ex, _⟩ := h1.sp p hp
  have hv := valV_mem h1.nd hp
  rw [ex] at hv ⊢
  cases e : C x with
  | none => rw [h1.no x e] at hv; cases hv
  | some o =>
    cases o with
    | none =>
      rw [h1.fi x e] at hv
      exact ⟨_, h2.fi x e, .inl ⟨(Option.some.inj hv).symm, by rw [← Option.some.inj hv]; rfl⟩⟩
    | some y =>
      obtain ⟨c, e1, e2⟩ := h1.ye x y e
      obtain ⟨c', e3, e4⟩ := h2.ye x y e
      rw [e1] at hv
      rw [← Option.some.inj hv]
      exact ⟨_, e3, .inr ⟨_, _, Dp.ints (SqT.of e2), Dp.ints (SqT.of e4), Nat.le_trans (depth_tints _) (by decide), by rw [eqv_tints]; exact decide_eq_true rfl⟩⟩
theorem ev_neDic {K : PySem.W.Frag} {ta tb : TE} {σ : St} {H : Hp} {a b : Addr} (ha : Ev ta σ H (.ref a)) (hb : Ev tb σ H (.ref b)) (s : SmD K H a b) : Ev (tOp (rNeDic K) ta tb) σ H (.bl false) := fun _ q => ha _ (hb _ ⟨a, b, rfl, rfl, s, q⟩)
def spI (k : Nat) : T3 := [((k % 2 : Nat) : Int), ((k / 2 % 3 : Nat) : Int), ((k / 6 : Nat) : Int)]
theorem spI_inj {j k : Nat} (h : spI j = spI k) : j = k := by
  unfold spI at h
  injection h with h1 h
  injection h with h2 h
  injection h with h3 h
  omega
theorem spI_spot {n k : Nat} (h : k < 12) : SpotN n (spI k) := .small _ _ _ (by omega) (by omega) (by omega)
theorem spI_far {k : Nat} {m : Int} : spI k ≠ [3, 7, m] := fun h => by
  unfold spI at h
  injection h with h1 h
  omega
theorem sq_rng1 {ta : TA} {j : Int} {g : TG} {tb u : TS} {D : Ends} {σ : St} {H : Hp} (h : EvA ta σ H [.int j]) (h1 : -(2 ^ 62) ≤ j) (h2 : j < 2 ^ 62) (q : tFor (fun _ H R => R (Itr 0 j.toNat) H) g tb { D with nx := u D } σ H) : tSeq (tFor (iRng1 ta) g tb) u D σ H := h _ ⟨j, rfl, h1, h2, q⟩
theorem sq_rng2 {ta : TA} {i j : Int} {g : TG} {tb u : TS} {D : Ends} {σ : St} {H : Hp} (h : EvA ta σ H [.int i, .int j]) (h1 : -(2 ^ 62) ≤ i ∧ i < 2 ^ 62 ∧ -(2 ^ 62) ≤ j ∧ j < 2 ^ 62) (q : tFor (fun _ H R => R (Itr i (j - i).toNat) H) g tb { D with nx := u D } σ H) : tSeq (tFor (iRng2 ta) g tb) u D σ H := h _ ⟨i, j, rfl, h1, q⟩
theorem tups_setN {H : Hp} : ∀ {as : List Addr} {cs : List T3}, Tups H as cs → ∀ {b : Addr} {c : T3}, H b = some (.tup (c.map V.int)) → ∀ m, Tups H (as.set m b) (cs.set m c)
  | _, _, .nil, _, _, _, _ => by rw [List.set_nil, List.set_nil]; exact .nil
  | _, _, .cons h s, _, _, g, 0 => .cons g s
  | _, _, .cons h s, _, _, g, m + 1 => .cons h (tups_setN s g m)
theorem nodup_set {α : Type} : ∀ {xs : List α} {y : α}, xs.Nodup → y ∉ xs → ∀ {m : Nat}, (xs.set m y).Nodup
  | [], _, _, _, _ => by rw [List.set_nil]; exact .nil
  | x :: xs, y, nd, hy, 0 => by
    rw [List.set_cons_zero, List.nodup_cons]
    exact ⟨fun h => hy (List.mem_cons_of_mem _ h), (List.nodup_cons.mp nd).2⟩
  | x :: xs, y, nd, hy, m + 1 => by
    rw [List.set_cons_succ, List.nodup_cons]
    refine ⟨fun h => ?_, nodup_set (List.nodup_cons.mp nd).2 fun h => hy (List.mem_cons_of_mem _ h)⟩
    rcases List.mem_or_eq_of_mem_set h with h | h
    · exact (List.nodup_cons.mp nd).1 h
    · exact hy (by rw [← h]; exact List.mem_cons_self)
theorem ev_notV {ta : TE} {σ : St} {H : Hp} {a : Bool} (ha : Ev ta σ H (.bl a)) : Ev (tNotV ta) σ H (.bl (!a)) := fun _ q => ha _ ⟨a, rfl, q⟩
theorem te_modl {tc tl : TE} {N : Nat} {σ : St} {H : Hp} {Q : VK} (hc : ∀ Q : VK, (∀ v : Int, Q (.int v) H) → tc σ H Q) (hl : Ev tl σ H (.int (N : Nat))) (pos : 0 < N) (q : ∀ j : Nat, j < N → Q (.int (j : Nat)) H) :
    tOp (rI (fun _ j => 0 < j) fun i j => V.int (i % j)) tc tl σ H Q := by
  refine hc _ fun v => hl _ ?_
  have m0 := Int.emod_nonneg v (show ((N : Nat) : Int) ≠ 0 by omega)
  have m1 := Int.emod_lt_of_pos v (show (0 : Int) < ((N : Nat) : Int) by omega)
  obtain ⟨j, ej⟩ := Int.eq_ofNat_of_zero_le m0
  rw [ej] at m1
  exact ⟨v, _, rfl, rfl, by omega, by show Q (.int (v % _)) H; rw [ej]; exact q j (by omega)⟩
theorem cut_from {H : Hp} {as : List Addr} {sps : List T3} (ht : Tups H as sps) (k : Nat) : ∃ (bs : List Addr) (cs : List T3), cutV (as.map V.ref) (some ((k + 1 : Nat) : Int)) none = bs.map V.ref ∧ Tups H bs cs := by
  unfold cutV
  rw [HT.sIx_nat, HT.sIx_none]
  generalize min (k + 1) (as.map V.ref).length = m
  exact ⟨(as.drop m).take ((as.map V.ref).length - m), (sps.drop m).take ((as.map V.ref).length - m), by rw [List.map_take, List.map_drop], tups_take (tups_drop ht m) _⟩
abbrev P4 := List Int × Int
def PrI (H : Hp) (b : Addr) (p : P4) : Prop := ∃ c, H b = some (.tup [.ref c, .int p.2]) ∧ H c = some (.tup (p.1.map V.int))
abbrev Prs (H : Hp) (bs : List Addr) (ps : List P4) : Prop := Paired (PrI H) bs ps
theorem PrI.tups {H H' : Hp} {b : Addr} {p : P4} (h : PrI H b p) (tk : ∀ b ys, H b = some (.tup ys) → H' b = some (.tup ys)) : PrI H' b p := let ⟨c, h1, h2⟩ := h; ⟨c, tk _ _ h1, tk _ _ h2⟩
theorem Prs.tups {H H' : Hp} {bs : List Addr} {ps : List P4} (h : Prs H bs ps) (tk : ∀ b ys, H b = some (.tup ys) → H' b = some (.tup ys)) : Prs H' bs ps := Paired.mapP h fun _ _ z => z.tups tk
theorem Prs.same {H H' : Hp} {bs : List Addr} {ps : List P4} (h : Prs H bs ps) (s : Same H H') : Prs H' bs ps := Prs.tups h fun b ys e => s b _ e
theorem prs_app {H : Hp} : ∀ {as bs : List Addr} {cs ds : List P4}, Prs H as cs → Prs H bs ds → Prs H (as ++ bs) (cs ++ ds)
  | _, _, _, _, .nil, t => t
  | _, _, _, _, .cons h s, t => .cons h (prs_app s t)
theorem prs_at {H : Hp} : ∀ {bs : List Addr} {ps : List P4}, Prs H bs ps → ∀ {i : Nat} {b : Addr}, bs[i]? = some b → ∃ p, ps[i]? = some p ∧ PrI H b p
  | _, _, .nil, i, _, h => by simp at h
  | _, _, .cons r t, 0, b, h => ⟨_, rfl, by cases h; exact r⟩
  | _, _, .cons r t, i + 1, b, h => prs_at t (i := i) (by simpa using h)
def dtP (p : P4) : PyData := .tuple [.tuple (p.1.map PyData.int), .int p.2]
theorem PrI.dp {K : PySem.W.Frag} {H : Hp} {b : Addr} {p : P4} (h : PrI H b p) : Dp K H (.ref b) (dtP p) := let ⟨c, h1, h2⟩ := h; .tup (SqT.of h1) (.cons (Dp.ints (SqT.of h2)) (.cons (.int _) .nil))
theorem dtP_depth (p : P4) : (dtP p).depth ≤ 60 := by
  have h1 := depth_tints p.1
  have : PyData.depthAll [PyData.tuple (p.1.map PyData.int), .int p.2] ≤ 1 := depthAll_le fun d hd => by
    rcases List.mem_cons.mp hd with rfl | hd
    · exact h1
    · rw [List.mem_singleton.mp hd]; simp [PyData.depth]
  unfold dtP
  simp only [PyData.depth]
  omega
structure LkAt (H : Hp) (n : Nat) (kvs : List (List Key × V)) (sps : List T3) (L : T3 → List P4) : Prop where
  at' : ∀ x ∈ sps, ∃ l bs, valV kvs (iK x) = some (.ref l) ∧ H l = some (.lst (bs.map V.ref)) ∧ Prs H bs (L x)
  mem : ∀ x ∈ sps, ∀ p ∈ L x, p.1 ∈ sps
  nd : ∀ x ∈ sps, ((L x).map (·.1)).Nodup
  sp : ∀ x ∈ sps, SpotN n x
  ln : ∀ x ∈ sps, (L x).length ≤ 12
theorem LkAt.same {H H' : Hp} {n : Nat} {kvs : List (List Key × V)} {sps : List T3} {L : T3 → List P4} (h : LkAt H n kvs sps L) (s : ∀ b o, (∀ φ, o ≠ .ext φ) → (∀ ps, o ≠ .tbl ps) → H b = some o → H' b = some o) : LkAt H' n kvs sps L :=
  ⟨fun x hx => by obtain ⟨l, bs, h1, h2, h3⟩ := h.at' x hx; exact ⟨l, bs, h1, s _ _ (fun _ z => nomatch z) (fun _ z => nomatch z) h2, Prs.tups h3 fun b ys e => s b _ (fun _ z => nomatch z) (fun _ z => nomatch z) e⟩, h.mem, h.nd, h.sp, h.ln⟩
structure LkI (H0 H : Hp) (kvs : List (List Key × V)) (S : List T3) (lA : T3 → Addr) (L : T3 → List P4) : Prop where
  va : ∀ x ∈ S, valV kvs (iK x) = some (.ref (lA x))
  fr : ∀ x ∈ S, H0 (lA x) = none
  at' : ∀ x ∈ S, ∃ bs, H (lA x) = some (.lst (bs.map V.ref)) ∧ Prs H bs (L x)
  inj : ∀ x ∈ S, ∀ y ∈ S, lA x = lA y → x = y
theorem LkI.same' {H0 H H' : Hp} {kvs : List (List Key × V)} {S : List T3} {lA : T3 → Addr} {L : T3 → List P4} (h : LkI H0 H kvs S lA L) (s : Same H H') : LkI H0 H' kvs S lA L := ⟨h.va, h.fr, fun x hx => by obtain ⟨bs, h1, h2⟩ := h.at' x hx; exact ⟨bs, s _ _ h1, Prs.same h2 s⟩, h.inj⟩
def dueOf (L : T3 → List P4) (C : Cm T3) (m : T3 × Bool) : List P4 :=
  if m.2 = true then (L m.1).map (fun p => (mkI (p.1, false), p.2)) ++ (if (C m.1).isSome = true then [(mkI (m.1, false), 0)] else []) else match C m.1 with
    | none => [(mkI (m.1, true), 0)]
    | some none => []
    | some (some y) => ((L y).filter fun p => decide (p.1 = m.1)).map fun p => (mkI (y, true), 0 - p.2)
theorem due_none {L : T3 → List P4} {C : Cm T3} {x : T3} (h : C x = none) : dueOf L C (x, false) = [(mkI (x, true), 0)] := by unfold dueOf; rw [if_neg (by simp)]; dsimp only; rw [h]
theorem due_first {L : T3 → List P4} {C : Cm T3} {x : T3} (h : C x = some none) : dueOf L C (x, false) = [] := by unfold dueOf; rw [if_neg (by simp)]; dsimp only; rw [h]
theorem due_some {L : T3 → List P4} {C : Cm T3} {x y : T3} (h : C x = some (some y)) : dueOf L C (x, false) = ((L y).filter fun p => decide (p.1 = x)).map fun p => (mkI (y, true), 0 - p.2) := by unfold dueOf; rw [if_neg (by simp)]; dsimp only; rw [h]
theorem due_door (L : T3 → List P4) (C : Cm T3) (x : T3) : dueOf L C (x, true) = (L x).map (fun p => (mkI (p.1, false), p.2)) ++ (if (C x).isSome = true then [(mkI (x, false), 0)] else []) := if_pos rfl
theorem filter_one {ps : List P4} {x : T3} (nd : (ps.map (·.1)).Nodup) {i : Nat} {p : P4} (h : ps[i]? = some p) (e : p.1 = x) : (ps.filter fun p => decide (p.1 = x)) = [p] := by
  induction ps generalizing i with
  | nil => cases h
  | cons q r ih =>
    rw [List.map_cons, List.nodup_cons] at nd
    cases i with
    | zero =>
      cases h
      rw [List.filter_cons_of_pos (by simpa using e)]
      congr 1
      refine List.filter_eq_nil_iff.mpr fun z hz w => nd.1 ?_
      rw [e, ← of_decide_eq_true w]
      exact List.mem_map.mpr ⟨z, hz, rfl⟩
    | succ i =>
      have h : r[i]? = some p := h
      rw [List.filter_cons_of_neg (fun w => nd.1 (by rw [of_decide_eq_true w, ← e]; exact List.mem_map.mpr ⟨p, List.mem_of_getElem? h, rfl⟩))]
      exact ih nd.2 h
theorem due_len {H : Hp} {n : Nat} {kvs : List (List Key × V)} {sps : List T3} {L : T3 → List P4} {C : Cm T3} (hL : LkAt H n kvs sps L) (hdom : ∀ x y, C x = some (some y) → y ∈ sps) {x : T3} (hx : x ∈ sps) (d : Bool) : (dueOf L C (x, d)).length ≤ 13 := by
  cases d with
  | true =>
    rw [due_door, List.length_append, List.length_map]
    have := hL.ln x hx
    split
    · simp only [List.length_cons, List.length_nil]; omega
    · simp only [List.length_nil]; omega
  | false =>
    cases hc : C x with
    | none => rw [due_none hc]; simp
    | some o =>
      cases o with
      | none => rw [due_first hc]; simp
      | some y =>
        rw [due_some hc, List.length_map]
        have := hL.ln y (hdom x y hc)
        have := List.length_filter_le (fun p : P4 => decide (p.1 = x)) (L y)
        omega
def arcSt : Stmt := (defBody slaw).getD 4 (.Pass ⟨0, 0, 0, 0⟩)
def leadSt : Stmt := (defBody sSplit).getD 1 (.Pass ⟨0, 0, 0, 0⟩)
def posOf (s : Stmt) : Pos := match s with
  | .FunctionDef _ _ _ _ _ _ _ _ _ p => p
  | _ => ⟨0, 0, 0, 0⟩
def arcQ : Str := (("law" : Str) ++ ".<locals>.") ++ "_law_arcs"
def leadQ : Str := (("split_arcs" : Str) ++ ".<locals>.") ++ "leads"
theorem scope1 {p y : Str} {sc : Scope} (c : Addr) (h1 : sc.kind = .function) (h2 : sc.isCoroutine = false) (h3 : sc.isGenerator = false) (h4 : ∀ x ∈ sc.names, x.2 ≠ .cell) (h5 : sc.names.lookup p = some .local) (h6 : ∀ q ∈ sc.names, q.2 = .free → q.1 = y) (h7 : sc.names.lookup y = some .free) (h8 : ([p, y] : List Str).Nodup) : LamScope [p] [(y, c)] sc := by
  have one : ∀ (x : Str) (d : Addr), ([(y, c)] : List (Str × Addr)).lookup x = some d → x = y := fun x d h => by
    have := PySem.mem_of_lookup h
    rw [List.mem_singleton] at this
    exact congrArg Prod.fst this
  refine ⟨h1, h2, h3, h4, fun x hx => by rw [List.mem_singleton.mp hx]; exact h5, fun x hx => ?_, fun x hx => ?_, h8, fun x z d e1 e2 => by rw [one x d e1, one z d e2]⟩
  · rw [show x = y from h6 _ (PySem.mem_of_lookup hx) rfl]
    exact ⟨c, by simp⟩
  · rw [show x = y from List.mem_singleton.mp hx]
    exact h7
theorem scope2 {p y z : Str} {sc : Scope} (c d : Addr) (cd : c ≠ d) (h1 : sc.kind = .function) (h2 : sc.isCoroutine = false) (h3 : sc.isGenerator = false) (h4 : ∀ x ∈ sc.names, x.2 ≠ .cell) (h5 : sc.names.lookup p = some .local) (h6 : ∀ q ∈ sc.names, q.2 = .free → q.1 = y ∨ q.1 = z) (h7 : sc.names.lookup y = some .free) (h7' : sc.names.lookup z = some .free) (h8 : ([p, y, z] : List Str).Nodup) : LamScope [p] [(y, c), (z, d)] sc := by
  have nyz : z ≠ y := fun e => by rw [e] at h8; simp at h8
  have one : ∀ (x : Str) (a : Addr), ([(y, c), (z, d)] : List (Str × Addr)).lookup x = some a → (x = y ∧ a = c) ∨ (x = z ∧ a = d) := fun x a h => by
    have := PySem.mem_of_lookup h
    rcases List.mem_cons.mp this with e | e
    · cases e; exact .inl ⟨rfl, rfl⟩
    · rw [List.mem_singleton] at e; cases e; exact .inr ⟨rfl, rfl⟩
  refine ⟨h1, h2, h3, h4, fun x hx => by rw [List.mem_singleton.mp hx]; exact h5, fun x hx => ?_, fun x hx => ?_, h8, fun x w a e1 e2 => ?_⟩
  · rcases h6 _ (PySem.mem_of_lookup hx) rfl with e | e
    · rw [show x = y from e]; exact ⟨c, by simp⟩
    · rw [show x = z from e]
      refine ⟨d, ?_⟩
      rw [List.lookup_cons, show (z == y) = false by simpa using nyz]
      simp
  · rcases List.mem_cons.mp hx with e | e
    · rw [show x = y from e]; exact h7
    · rw [show x = z from List.mem_singleton.mp e]; exact h7'
  · rcases one x a e1 with ⟨rfl, r1⟩ | ⟨rfl, r1⟩ <;> rcases one w a e2 with ⟨rfl, r2⟩ | ⟨rfl, r2⟩
    · rfl
    · exact (cd (r1.symm.trans r2)).elim
    · exact (cd (r2.symm.trans r1)).elim
    · rfl
theorem arcS (c : Addr) : LamScope ["_law_spot"] [("_law_links_here", c)] (defScope arcSt) := scope1 c rfl rfl rfl (by decide +kernel) (by decide +kernel) (by decide +kernel) (by decide +kernel) (by decide +kernel)
theorem leadS (c d : Addr) (h : c ≠ d) : LamScope ["mark"] [("kept", c), ("arcs", d)] (defScope leadSt) := scope2 c d h rfl rfl rfl (by decide +kernel) (by decide +kernel) (by decide +kernel) (by decide +kernel) (by decide +kernel) (by decide +kernel)
abbrev arcObj (mg : Str → Option Value) (c c' : Addr) (doc ctv : Value) : Obj := PySem.W.fnMade "_law_arcs" arcQ (defArgs arcSt) (defBody arcSt) (defScope arcSt) [("_law_links_here", c)] doc ((mg "__name__").getD .none) c' ctv
abbrev leadObj (mg : Str → Option Value) (cA cK c' : Addr) (doc ctv : Value) : Obj := PySem.W.fnMade "leads" leadQ (defArgs leadSt) (defBody leadSt) (defScope leadSt) [("kept", cK), ("arcs", cA)] doc ((mg "__name__").getD .none) c' ctv
theorem arcB (s : Shared) (us : List Value) (c c' : Addr) (pm doc ctv : Value) (h : us.length = 1) : BindsTo s (PySem.W.fnX "_law_arcs" arcQ (defArgs arcSt) (defBody arcSt) (defScope arcSt) [("_law_links_here", c)] .none .none doc pm none (.ref c') ctv) ⟨us, []⟩ ((["_law_spot"] : List Str).zip us) := by
  match us, h with
  | [u], _ => exact .of_eq rfl
theorem leadB (s : Shared) (us : List Value) (c d c' : Addr) (pm doc ctv : Value) (h : us.length = 1) : BindsTo s (PySem.W.fnX "leads" leadQ (defArgs leadSt) (defBody leadSt) (defScope leadSt) [("kept", c), ("arcs", d)] .none .none doc pm none (.ref c') ctv) ⟨us, []⟩ ((["mark"] : List Str).zip us) := by
  match us, h with
  | [u], _ => exact .of_eq rfl
theorem seq_keep {K : PySem.W.Frag} {H H' : Hp} {p : Addr} {xs : List V} (h : SqL K H p xs) (s : ∀ b o, (∀ ps, o ≠ .tbl ps) → (∀ kv, o ≠ .dT kv) → H b = some o → H' b = some o) : SqL K H' p xs := by
  rcases h with (h | ⟨o, h⟩) | h
  · exact .inl (.inl (s _ _ (fun _ z => nomatch z) (fun _ z => nomatch z) h))
  · exact .inl (.inr ⟨o, s _ _ (fun _ z => nomatch z) (fun _ z => nomatch z) h⟩)
  · exact .inr h
structure FnA (mg : Str → Option Value) (H : Hp) (f c c' : Addr) : Prop where
  fn : ∃ doc ctv, H f = some (exO f (arcObj mg c c' doc ctv))
  cd : ∃ oc, H c' = some (exO c' oc) ∧ CodeOf oc c' arcQ
theorem FnA.same {mg : Str → Option Value} {H H' : Hp} {f c c' : Addr} (h : FnA mg H f c c') (s : ∀ b o, (∀ ps, o ≠ .tbl ps) → H b = some o → H' b = some o) : FnA mg H' f c c' :=
  ⟨let ⟨d, t, e⟩ := h.fn; ⟨d, t, s _ _ (fun _ z => nomatch z) e⟩, let ⟨o, e, k⟩ := h.cd; ⟨o, s _ _ (fun _ z => nomatch z) e, k⟩⟩
structure ArcAt (mg : Str → Option Value) (H : Hp) (f c c' : Addr) (n : Nat) (sps : List T3) (L : T3 → List P4) : Prop where
  fa : FnA mg H f c c'
  ce : ∃ o ld kvl, H c = some (exO c o) ∧ o.data = .cell (some (.ref ld)) ∧ H ld = some (.dT kvl) ∧ LkAt H n kvl sps L
abbrev KeepP (H H' : Hp) : Prop := ∀ b o, (∀ φ, o ≠ .ext φ) → (∀ ps, o ≠ .tbl ps) → H b = some o → H' b = some o
theorem ArcAt.mv {mg : Str → Option Value} {H H' : Hp} {f c c' : Addr} {n : Nat} {sps : List T3} {L : T3 → List P4} (h : ArcAt mg H f c c' n sps L) (e1 : H' f = H f) (e2 : H' c = H c) (e3 : H' c' = H c') (s : KeepP H H') : ArcAt mg H' f c c' n sps L :=
  ⟨⟨by rw [e1]; exact h.fa.fn, by rw [e3]; exact h.fa.cd⟩, by
    obtain ⟨o, ld, kvl, h1, h2, h3, h4⟩ := h.ce
    exact ⟨o, ld, kvl, e2.trans h1, h2, s _ _ (fun _ z => nomatch z) (fun _ z => nomatch z) h3, h4.same s⟩⟩
theorem ArcAt.same {mg : Str → Option Value} {H H' : Hp} {f c c' : Addr} {n : Nat} {sps : List T3} {L : T3 → List P4} (h : ArcAt mg H f c c' n sps L) (s : Same H H') : ArcAt mg H' f c c' n sps L := by
  obtain ⟨_, _, e1⟩ := h.fa.fn
  obtain ⟨_, e3, _⟩ := h.fa.cd
  obtain ⟨_, _, _, e2, _⟩ := h.ce
  exact h.mv (by rw [e1]; exact s _ _ e1) (by rw [e2]; exact s _ _ e2) (by rw [e3]; exact s _ _ e3) fun b o _ _ e => s b o e
theorem drp_keep {H : Hp} {c : Addr} {o : Obj} (hc : H c = some (exO c o)) : KeepP H (drp H c) := fun b x n _ e => drp_some e hc (exO_ne n)
theorem back1 {H H1 : Hp} {c : Addr} {o : Obj} (hc : H c = some (exO c o)) (s : Same (drp H c) H1) : Same H (upd H1 c (exO c o)) := fun b x e => by
  by_cases z : b = c
  · rw [z, hc] at e; rw [z, upd_same]; exact e
  · rw [upd_ne z]
    exact s _ _ (by rw [drp_ne z]; exact e)
def spArcB (vs : List V) (v : V) (H : Hp) (Q : VK) : Prop := ∃ (b ld l : Addr) (x : T3) (ys : List V) (kvl : List (List Key × V)), vs = [.ref b] ∧ v = .ref ld ∧ H ld = some (.dT kvl) ∧ H b = some (.tup (x.map V.int)) ∧ valV kvl (iK x) = some (.ref l) ∧ H l = some (.lst ys) ∧ ∀ p, H p = none → Q (.ref p) (upd H p (.lst ys))
def rArc (mg : Str → Option Value) (K : PySem.W.Frag) (f : Addr) (vs : List V) (H : Hp) (Q : VK) : Prop := ∃ (c c' : Addr) (ctv doc : Value) (oc o : Obj) (u : Value) (v : V), H f = some (exO f (arcObj mg c c' doc ctv)) ∧ H c' = some (exO c' oc) ∧ CodeOf oc c' arcQ ∧ H c = some (exO c o) ∧ o.data = .cell (some u) ∧ RelV v u ∧
  spArcB vs v (drp H c) fun r H' => H' c = none → Q r (upd H' c (exO c o))
theorem arc_call {K : PySem.W.Frag} {mg : Str → Option Value} {H : Hp} {f c c' b : Addr} {n : Nat} {sps : List T3} {L : T3 → List P4} {x : T3} {Q : VK} (h : ArcAt mg H f c c' n sps L) (hb : H b = some (.tup (x.map V.int))) (hx : x ∈ sps)
    (q : ∀ (l : Addr) (bs : List Addr) (H' : Hp), Same H H' → H l = none → H' l = some (.lst (bs.map V.ref)) → Prs H' bs (L x) → Q (.ref l) H') : rArc mg K f [.ref b] H Q := by
  obtain ⟨doc, ctv, h1⟩ := h.fa.fn
  obtain ⟨oc, h2, h3⟩ := h.fa.cd
  obtain ⟨o, ld, kvl, h4, h5, h6, h7⟩ := h.ce
  obtain ⟨l, bs, hv, hl, hp⟩ := h7.at' x hx
  have kd := drp_keep h4
  refine ⟨c, c', ctv, doc, oc, o, .ref ld, .ref ld, h1, h2, h3, h4, h5, rfl, b, ld, l, x, bs.map V.ref, kvl, rfl, rfl, kd _ _ (fun _ z => nomatch z) (fun _ z => nomatch z) h6, kd _ _ (fun _ z => nomatch z) (fun _ z => nomatch z) hb, hv, kd _ _ (fun _ z => nomatch z) (fun _ z => nomatch z) hl, fun p np hc => ?_⟩
  have pc : p ≠ c := fun z => by rw [z, upd_same] at hc; cases hc
  have s1 : Same (drp H c) (upd (drp H c) p (.lst (bs.map V.ref))) := (Same.refl _).upd np
  have s2 := back1 h4 s1
  refine q p bs _ s2 (by rw [← drp_ne (H := H) pc]; exact np) (by rw [upd_ne pc, upd_same]) (Prs.same hp s2)
structure LeadAt (mg : Str → Option Value) (H : Hp) (g cA cK c2 f k : Addr) : Prop where
  fn : ∃ doc ctv, H g = some (exO g (leadObj mg cA cK c2 doc ctv))
  cd : ∃ oc, H c2 = some (exO c2 oc) ∧ CodeOf oc c2 leadQ
  ne : cA ≠ cK
  ea : ∃ o, H cA = some (exO cA o) ∧ o.data = .cell (some (.ref f))
  ek : ∃ o, H cK = some (exO cK o) ∧ o.data = .cell (some (.ref k))
theorem LeadAt.same {mg : Str → Option Value} {H H' : Hp} {g cA cK c2 f k : Addr} (h : LeadAt mg H g cA cK c2 f k) (s : ∀ b o, (∀ ps, o ≠ .tbl ps) → H b = some o → H' b = some o) : LeadAt mg H' g cA cK c2 f k :=
  ⟨let ⟨d, t, e⟩ := h.fn; ⟨d, t, s _ _ (fun _ z => nomatch z) e⟩, let ⟨o, e, k⟩ := h.cd; ⟨o, s _ _ (fun _ z => nomatch z) e, k⟩, h.ne, let ⟨o, e, k⟩ := h.ea; ⟨o, s _ _ (fun _ z => nomatch z) e, k⟩, let ⟨o, e, k⟩ := h.ek; ⟨o, s _ _ (fun _ z => nomatch z) e, k⟩⟩
def Leads (mg : Str → Option Value) (H : Hp) (f k : Addr) (n : Nat) (sps : List T3) (L : T3 → List P4) (C : Cm T3) : Prop := (∃ c c', ArcAt mg H f c c' n sps L) ∧ (∃ kvk, H k = some (.dT kvk) ∧ CmAt H n kvk C) ∧ ∀ x y, C x = some (some y) → y ∈ sps
abbrev Got (H : Hp) (Q : VK) (ps : List P4) : Prop := ∀ (l : Addr) (bs : List Addr) (H' : Hp), Same H H' → H l = none → H' l = some (.lst (bs.map V.ref)) → Prs H' bs ps → Q (.ref l) H'
def spArcs (_K : PySem.W.Frag) (mg : Str → Option Value) (d : Bool) : Sp := fun vs H Q _ => ∃ (f k b : Addr) (n : Nat) (sps : List T3) (L : T3 → List P4) (C : Cm T3) (x : T3), vs = [.ref f, .ref k, .ref b] ∧ Leads mg H f k n sps L C ∧ H b = some (.tup (x.map V.int)) ∧ x ∈ sps ∧ Got H Q (dueOf L C (x, d))
def spLeadB (mg : Str → Option Value) (vs : List V) (v w : V) (H : Hp) (Q : VK) : Prop := ∃ (f k b : Addr) (n : Nat) (sps : List T3) (L : T3 → List P4) (C : Cm T3) (m : T3 × Bool), vs = [.ref b] ∧ v = .ref k ∧ w = .ref f ∧ Leads mg H f k n sps L C ∧ H b = some (.tup ((mkI m).map V.int)) ∧ m.1 ∈ sps ∧ Got H Q (dueOf L C m)
def rLead (mg : Str → Option Value) (K : PySem.W.Frag) (g : Addr) (vs : List V) (H : Hp) (Q : VK) : Prop := ∃ (c d c' : Addr) (ctv doc : Value) (oc o o2 : Obj) (u u2 : Value) (v v2 : V), H g = some (exO g (leadObj mg d c c' doc ctv)) ∧ H c' = some (exO c' oc) ∧ CodeOf oc c' leadQ ∧ c ≠ d ∧ H c = some (exO c o) ∧ o.data = .cell (some u) ∧ RelV v u ∧ H d = some (exO d o2) ∧ o2.data = .cell (some u2) ∧ RelV v2 u2 ∧
  spLeadB mg vs v v2 (drp (drp H c) d) fun r H' => H' d = none → upd H' d (exO d o2) c = none → Q r (upd (upd H' d (exO d o2)) c (exO c o))
structure LeadFn (mg : Str → Option Value) (H : Hp) (g : Addr) (n : Nat) (sps : List T3) (L : T3 → List P4) (C : Cm T3) : Prop where
  ex : ∃ cA cK c2 f k c c' kvk, LeadAt mg H g cA cK c2 f k ∧ ArcAt mg H f c c' n sps L ∧ (f ≠ cA ∧ c ≠ cA ∧ c' ≠ cA ∧ f ≠ cK ∧ c ≠ cK ∧ c' ≠ cK) ∧ H k = some (.dT kvk) ∧ CmAt H n kvk C
  dom : ∀ x y, C x = some (some y) → y ∈ sps
theorem LeadFn.same {mg : Str → Option Value} {H H' : Hp} {g : Addr} {n : Nat} {sps : List T3} {L : T3 → List P4} {C : Cm T3} (h : LeadFn mg H g n sps L C) (s : Same H H') : LeadFn mg H' g n sps L C := by
  obtain ⟨cA, cK, c2, f, k, c, c', kvk, h1, h2, h3, h4, h5⟩ := h.ex
  exact ⟨⟨cA, cK, c2, f, k, c, c', kvk, h1.same (fun b o _ e => s b o e), h2.same s, h3, s _ _ h4, h5.same s⟩, h.dom⟩
theorem lead_call {K : PySem.W.Frag} {mg : Str → Option Value} {H : Hp} {g b : Addr} {n : Nat} {sps : List T3} {L : T3 → List P4} {C : Cm T3} {m : T3 × Bool} {Q : VK} (h : LeadFn mg H g n sps L C) (hb : H b = some (.tup ((mkI m).map V.int))) (hm : m.1 ∈ sps) (q : Got H Q (dueOf L C m)) : rLead mg K g [.ref b] H Q := by
  obtain ⟨cA, cK, c2, f, k, c, c', kvk, h1, h2, ⟨n1, n2, n3, n4, n5, n6⟩, h4, h5⟩ := h.ex
  obtain ⟨doc, ctv, e1⟩ := h1.fn
  obtain ⟨oc, e2, e3⟩ := h1.cd
  obtain ⟨oA, e4, e5⟩ := h1.ea
  obtain ⟨oK, e6, e7⟩ := h1.ek
  have e4' : drp H cK cA = some (exO cA oA) := by rw [drp_ne h1.ne]; exact e4
  have kp : KeepP H (drp (drp H cK) cA) := fun b o a1 a2 e => drp_keep e4' b o a1 a2 (drp_keep e6 b o a1 a2 e)
  have dd : ∀ {z : Addr}, z ≠ cA → z ≠ cK → drp (drp H cK) cA z = H z := fun a1 a2 => by rw [drp_ne a1, drp_ne a2]
  refine ⟨cK, cA, c2, ctv, doc, oc, oK, oA, .ref k, .ref f, .ref k, .ref f, e1, e2, e3, h1.ne.symm, e6, e7, rfl, e4, e5, rfl, f, k, b, n, sps, L, C, m, rfl, rfl, rfl, ⟨⟨c, c', h2.mv (dd n1 n4) (dd n2 n5) (dd n3 n6) kp⟩, ⟨kvk, kp _ _ (fun _ z => nomatch z) (fun _ z => nomatch z) h4, h5.tups fun b ys e => kp _ _ (fun _ z => nomatch z) (fun _ z => nomatch z) e⟩, h.dom⟩, kp _ _ (fun _ z => nomatch z) (fun _ z => nomatch z) hb, hm, fun l bs H' s nl el hp nA nK => ?_⟩
  have lA : l ≠ cA := fun z => by rw [z, nA] at el; cases el
  have lK : l ≠ cK := fun z => by rw [upd_ne (z ▸ lA), ← z, el] at nK; cases nK
  have s1 := back1 e4' s
  have s2 := back1 e6 s1
  refine q l bs _ s2 (by rw [← dd lA lK]; exact nl) (by rw [upd_ne lK, upd_ne lA]; exact el) (Prs.tups hp fun b ys e => ?_)
  rw [upd_ne (ne_of_none (show upd H' cA (exO cA oA) b = some (.tup ys) by rw [upd_ne (ne_of_none e nA)]; exact e) nK), upd_ne (ne_of_none e nA)]
  exact e
theorem lead_with {mg : Str → Option Value} {H : Hp} {g cA cK c2 f k c c' d : Addr} {n : Nat} {sps : List T3} {L : T3 → List P4} {kvl kvk : List (List Key × V)} {C : Cm T3} {o : Obj} (nc : H c = none) (ho : o.data = .cell (some (.ref d))) (hl : LeadAt mg H g cA cK c2 f k) (hf : FnA mg H f c c') (ne : f ≠ cA ∧ c' ≠ cA ∧ f ≠ cK ∧ c' ≠ cK) (ed : H d = some (.dT kvl)) (hL : LkAt H n kvl sps L) (ek : H k = some (.dT kvk)) (hk : CmAt H n kvk C) (dom : ∀ x y, C x = some (some y) → y ∈ sps) :
    LeadFn mg (upd H c (exO c o)) g n sps L C := by
  have s : Same H (upd H c (exO c o)) := (Same.refl H).upd nc
  obtain ⟨oA, eA, _⟩ := hl.ea
  obtain ⟨oK, eK, _⟩ := hl.ek
  exact ⟨⟨cA, cK, c2, f, k, c, c', kvk, hl.same (fun b o _ e => s b o e), ⟨hf.same (fun b o _ e => s b o e), ⟨o, d, kvl, upd_same, ho, s _ _ ed, hL.same fun b o _ _ e => s b o e⟩⟩, ⟨ne.1, (ne_of_none eA nc).symm, ne.2.1, ne.2.2.1, (ne_of_none eK nc).symm, ne.2.2.2⟩, s _ _ ek, hk.same s⟩, dom⟩
theorem same_drp {H H' : Hp} {c : Addr} {x : HO} (nc : H c = none) (s : Same (upd H c x) H') : Same H (drp H' c) := fun b o e => by
  have hb := ne_of_none e nc
  rw [drp_ne hb]
  exact s _ _ (by rw [upd_ne hb]; exact e)
theorem tups_rev {H : Hp} : ∀ {as : List Addr} {cs : List T3}, Tups H as cs → Tups H as.reverse cs.reverse
  | _, _, .nil => .nil
  | _, _, .cons h s => by rw [List.reverse_cons, List.reverse_cons]; exact tups_app (tups_rev s) (.cons h .nil)
theorem SpsAt.keep {K : PySem.W.Frag} {H H' : Hp} {n : Nat} {p : Addr} {as : List Addr} {sps : List T3} (h : SpsAt K H n p as sps) (s : ∀ b o, (∀ ps, o ≠ .tbl ps) → H b = some o → H' b = some o) : SpsAt K H' n p as sps :=
  ⟨seq_keep h.ls fun b o n _ e => s b o n e, Paired.mapP h.tp fun _ _ e => s _ _ (fun _ z => nomatch z) e, h.nd, h.sp, h.l2, h.l12⟩
theorem SpsAt.keepL {K : PySem.W.Frag} {H H' : Hp} {n : Nat} {p : Addr} {as : List Addr} {sps : List T3} (h : SpsAt K H n p as sps) (s : ∀ b o, (∀ kv, o ≠ .dT kv) → H b = some o → H' b = some o) : SpsAt K H' n p as sps :=
  ⟨seq_keep h.ls fun b o _ n e => s b o n e, Paired.mapP h.tp fun _ _ e => s _ _ (fun _ z => nomatch z) e, h.nd, h.sp, h.l2, h.l12⟩
def spCell (K : PySem.W.Frag) : Sp := fun vs H Q _ => ∃ (a : Addr) (ns : List Int) (i : Int), vs = [.ref a, .int i] ∧ SqL K H a (ns.map V.int) ∧ 0 ≤ i ∧ ∀ v : Int, Q (.int v) H
def spMix : Sp := fun vs H Q _ => ∃ c k p : Int, vs = [.int c, .int k, .int p] ∧ 0 < p ∧ p < 10000000 ∧ 0 ≤ k ∧ k < 1000 ∧ ∀ v : Int, Q (.int v) H
def spWhole : Sp := fun vs H Q _ => ∃ i : Int, vs = [.int i] ∧ Q (.bl true) H
def spSpots (K : PySem.W.Frag) : Sp := fun vs H Q _ => ∃ (a : Addr) (ns : List Int), vs = [.ref a] ∧ SqL K H a (ns.map V.int) ∧ ∀ (n : Nat) (p : Addr) (as : List Addr) (sps : List T3) (H' : Hp), n < 10000000000 → Same H H' → H p = none → SpsAt K H' n p as sps → Q (.ref p) H'
def spLinks (K : PySem.W.Frag) : Sp := fun vs H Q _ => ∃ (a p : Addr) (ns : List Int) (n : Nat) (as : List Addr) (sps : List T3), vs = [.ref a, .ref p] ∧ SqL K H a (ns.map V.int) ∧ ns.length ≤ 63 ∧ SpsAt K H n p as sps ∧
  ∀ d H' kvs L, Same H H' → H d = none → H' d = some (.dT kvs) → LkAt H' n kvs sps L → Q (.ref d) H'
def spLying (K : PySem.W.Frag) : Sp := fun vs H Q _ => ∃ (a p d : Addr) (ns : List Int) (n : Nat) (as : List Addr) (sps : List T3) (kvs : List (List Key × V)) (L : T3 → List P4), vs = [.ref a, .ref p, .ref d] ∧ SqL K H a (ns.map V.int) ∧ SpsAt K H n p as sps ∧
  H d = some (.dT kvs) ∧ LkAt H n kvs sps L ∧ ∀ e H' kvs' C, Same H H' → H e = none → H' e = some (.dT kvs') → CmAt H' n kvs' C → (∀ x y, C x = some (some y) → y ∈ sps) → Q (.ref e) H'
def spCat (_K : PySem.W.Frag) (d : Bool) : Sp := fun vs H Q _ => ∃ (b : Addr) (x : T3), vs = [.ref b] ∧ x.length = 3 ∧ H b = some (.tup (x.map V.int)) ∧ ∀ p H', Same H H' → H p = none → H' p = some (.tup ((mkI (x, d)).map V.int)) → Q (.ref p) H'
def spMark : Sp := fun vs H Q _ => ∃ (b : Addr) (x : T3) (d : Bool) (i : Int), vs = [.ref b, .int i] ∧ i = (if d then 1 else 0) ∧ x.length = 3 ∧ H b = some (.tup (x.map V.int)) ∧ ∀ p H', Same H H' → H p = none → H' p = some (.tup ((mkI (x, d)).map V.int)) → Q (.ref p) H'
def spSpotOf : Sp := fun vs H Q _ => ∃ (b : Addr) (m : T3 × Bool), vs = [.ref b] ∧ m.1.length = 3 ∧ H b = some (.tup ((mkI m).map V.int)) ∧ ∀ p, H p = none → Q (.ref p) (upd H p (.tup (m.1.map V.int)))
def spDoor : Sp := fun vs H Q _ => ∃ (b : Addr) (m : T3 × Bool), vs = [.ref b] ∧ m.1.length = 3 ∧ H b = some (.tup ((mkI m).map V.int)) ∧ Q (.bl m.2) H
def spDue (K : PySem.W.Frag) : Sp := fun vs H Q _ => ∃ (d e b : Addr) (n : Nat) (sps : List T3) (kvs kvs' : List (List Key × V)) (L : T3 → List P4) (C : Cm T3) (x : T3) (sd : Bool) (i : Int), vs = [.ref d, .ref e, .ref b, .int i] ∧ i = (if sd then 1 else 0) ∧ H d = some (.dT kvs) ∧ LkAt H n kvs sps L ∧ H e = some (.dT kvs') ∧ CmAt H n kvs' C ∧ (∀ x y, C x = some (some y) → y ∈ sps) ∧ x ∈ sps ∧ H b = some (.tup (x.map V.int)) ∧ Got H Q (dueOf L C (x, sd))
def spAlike (K : PySem.W.Frag) : Sp := fun vs H Q _ => ∃ (l m : Addr) (bs cs : List Addr) (ps : List P4), vs = [.ref l, .ref m] ∧ H l = some (.lst (bs.map V.ref)) ∧ H m = some (.lst (cs.map V.ref)) ∧ Prs H bs ps ∧ Prs H cs ps ∧ ps.length ≤ 100 ∧ Q (.bl true) H
def spAll (K : PySem.W.Frag) (mg : Str → Option Value) : Sp := fun vs H Q _ => ∃ (g d e p : Addr) (n : Nat) (as : List Addr) (sps sq : List T3) (kvs kvs' : List (List Key × V)) (L : T3 → List P4) (C : Cm T3), vs = [.ref g, .ref d, .ref e, .ref p] ∧ LeadFn mg H g n sps L C ∧ H d = some (.dT kvs) ∧ LkAt H n kvs sps L ∧ H e = some (.dT kvs') ∧ CmAt H n kvs' C ∧ SpsAt K H n p as sq ∧ (∀ x ∈ sq, x ∈ sps) ∧ ∀ H', Same H H' → Q (.bl true) H'
def TbL (K : PySem.W.Frag) (H : Hp) : Prop := H (tbOf K "split_arcs").2 = some (.tbl #[]) ∨ ∃ (c' : Addr) (oc : Obj), H (tbOf K "split_arcs").2 = some (.tbl #[rawInt (posOf leadSt).line, rawInt (posOf leadSt).col, .ref c']) ∧ H c' = some (exO c' oc) ∧ CodeOf oc c' leadQ
def spSplit (K : PySem.W.Frag) (mg : Str → Option Value) : Sp := fun vs H Q _ => ∃ (f e : Addr) (n : Nat) (kvs : List (List Key × V)) (C : Cm T3) (u : HO), vs = [.ref f, .ref e] ∧ n < 10000000000 ∧ H f = some u ∧ (∀ ps, u ≠ .tbl ps) ∧ H e = some (.dT kvs) ∧ CmAt H n kvs C ∧ TbL K H ∧
  ∀ g H' cA cK c2 k, (∀ b o, (∀ ps, o ≠ .tbl ps) → H b = some o → H' b = some o) → (∀ b o, b ≠ (tbOf K "split_arcs").2 → H b = some o → H' b = some o) → TbL K H' → H cA = none → H cK = none → LeadAt mg H' g cA cK c2 f k → H' k = some (.dT kvs) → H k = none → CmAt H' n kvs C → Q (.ref g) H'
def spLaw (K : PySem.W.Frag) : Sp := fun vs H Q _ => ∃ (a : Addr) (ns : List Int), vs = [.ref a] ∧ SqL K H a (ns.map V.int) ∧ ns.length ≤ 63 ∧ H (tbOf K "law").2 = some (.tbl #[]) ∧ H (tbOf K "split_arcs").2 = some (.tbl #[]) ∧ (tbOf K "law").2 ≠ (tbOf K "split_arcs").2 ∧ ∀ H', Q (.bl true) H'
section
variable {P : Program} {w : World} {K : PySem.W.Frag} {mg : Str → Option Value} {base : Heap}
set_option maxHeartbeats 1000000
theorem arcCall {X : Cx} (T : Txt X.K X.mg) (hr : Room 1 X.A) (f : Addr) : CallR X (.ref f) (rArc X.mg X.K f) := by
  refine call_nest1 (k := 0) (name := "_law_arcs") (qual := arcQ) (params := defArgs arcSt) (body := defBody arcSt) (scope := defScope arcSt) (pm := (X.mg "__name__").getD .none) (y := "_law_links_here") (ps := ["_law_spot"]) (spB := spArcB) hr arcS (fun vs v H Q h => by obtain ⟨_, _, _, _, _, _, rfl, _⟩ := h; rfl) (fun s us c c' doc ctv h => arcB s us c c' _ doc ctv h) (fun f c c' A outer s H vs v Q hr h => ?_) f
  obtain ⟨b, ld, l, x, ys, kvl, rfl, rfl, h1, h2, h3, h4, q⟩ := h
  refine ⟨_, (pss_one (ps_ret (pe_callTy call_list_of (by rfl) T.list_ bt_list (pa_cons (pe_dget (Room.one hr) (pv 1) (pv 0) (fun _ _ => rfl)) pa_nil)))), ?_⟩
  have g := dg (.inl h1) h2
  rw [h3] at g
  exact ⟨_, rfl, _, rfl, ld, .ref l, rfl, g, l, ys, rfl, .inl (SqL.of h4), q⟩
theorem leadCall {X : Cx} (T : Txt X.K X.mg) (gIsD : Callee X.prog X.w X.K X.mg X.base "is_door" 1 ["mark"] spDoor) (gDoorA : Callee X.prog X.w X.K X.mg X.base "door_arcs" 2 ["arcs", "comes", "spot"] (spArcs X.K X.mg true)) (gGateA : Callee X.prog X.w X.K X.mg X.base "gate_arcs" 2 ["arcs", "comes", "spot"] (spArcs X.K X.mg false)) (gSpotOf : Callee X.prog X.w X.K X.mg X.base "spot_of_mark" 1 ["mark"] spSpotOf) (hr : Room 3 X.A) (f : Addr) : CallR X (.ref f) (rLead X.mg X.K f) := by
  refine call_nest2 (k := 2) (name := "leads") (qual := leadQ) (params := defArgs leadSt) (body := defBody leadSt) (scope := defScope leadSt) (pm := (X.mg "__name__").getD .none) (y := "kept") (z := "arcs") (ps := ["mark"]) (spB := spLeadB X.mg) hr leadS (fun vs v w H Q h => by obtain ⟨_, _, _, _, _, _, _, _, rfl, _⟩ := h; rfl) (fun s us c d c' doc ctv h => leadB s us c d c' _ doc ctv h) (fun f c d c' A outer s H vs v w Q hr h => ?_) f
  obtain ⟨f0, k, b, n, sps, L, C, ⟨x, sd⟩, rfl, rfl, rfl, hL, hb, hx, q⟩ := h
  refine ⟨_, (pss_cons (ps_if (pt_val (pe_cal gIsD (hr.mono (by decide)) (by rfl) (pa_cons (pv 0) pa_nil)))
  (pss_one (ps_ret (pe_cal gDoorA (hr.mono (by decide)) (by rfl) (pa_cons (pv 2) (pa_cons (pv 1) (pa_cons (pe_cal gSpotOf (hr.mono (by decide)) (by rfl) (pa_cons (pv 0) pa_nil)) pa_nil))))))
  pss_nil)
  (pss_one (ps_ret (pe_cal gGateA (hr.mono (by decide)) (by rfl) (pa_cons (pv 2) (pa_cons (pv 1) (pa_cons (pe_cal gSpotOf (hr.mono (by decide)) (by rfl) (pa_cons (pv 0) pa_nil)) pa_nil))))))), ?_⟩
  have hx : x ∈ sps := hx
  obtain ⟨⟨ca, ca', hA⟩, ⟨kvk, hk1, hk2⟩, hdom⟩ := hL
  obtain ⟨_, _, _, _, _, _, hLk⟩ := hA.ce
  have l3 : x.length = 3 := (hLk.sp x hx).len
  refine te_cal (ea_cons (ev_var rfl) ea_nil) ⟨b, (x, sd), rfl, l3, hb, _, rfl, ?_⟩
  cases sd with
  | true =>
    refine iteT ?_
    refine ⟨_, rfl, _, rfl, te_cal (ea_cons (ev_var rfl) ea_nil) ⟨b, (x, true), rfl, l3, hb, fun p np => ?_⟩⟩
    have s : Same H (upd H p (.tup (x.map V.int))) := (Same.refl H).upd np
    exact ⟨f0, k, p, n, sps, L, C, x, rfl, ⟨⟨ca, ca', hA.same s⟩, ⟨kvk, s _ _ hk1, hk2.same s⟩, hdom⟩, upd_same, hx, fun l bs H' s' nl el hp => q l bs H' (s.trans s') (s.free nl) el hp⟩
  | false =>
    refine iteF ?_
    refine ⟨_, rfl, _, rfl, te_cal (ea_cons (ev_var rfl) ea_nil) ⟨b, (x, false), rfl, l3, hb, fun p np => ?_⟩⟩
    have s : Same H (upd H p (.tup (x.map V.int))) := (Same.refl H).upd np
    exact ⟨f0, k, p, n, sps, L, C, x, rfl, ⟨⟨ca, ca', hA.same s⟩, ⟨kvk, s _ _ hk1, hk2.same s⟩, hdom⟩, upd_same, hx, fun l bs H' s' nl el hp => q l bs H' (s.trans s') (s.free nl) el hp⟩
theorem ok_Gate {f : Addr} {fd : FuncData} (F : Fun K "gate" "gate" sGate f fd) (T : Txt K mg) : FnOk P w K mg base CX0 1 f fd ["spot"] (spCat K false) := by
  have sc : FnScope ["spot"] ["spot"] (defScope sGate) := ⟨rfl, rfl, rfl, by decide +kernel, rfl, by decide +kernel, by decide +kernel⟩
  refine F.ok sc (fun vs H Q E h => by repeat (first | (obtain ⟨rfl, _⟩ := h; rfl) | (obtain ⟨_, h⟩ := h))) (fun cdv A outer s H vs Q E hr h => ?_)
  obtain ⟨b, x, rfl, hl, hb, q⟩ := h
  refine ⟨_, (pss_one (ps_ret (pe_op op_catT (pv 0) (pe_tup (pa_cons pe_int pa_nil))))), ?_⟩
  exact te_cat false rfl (ev_var rfl) hb hl q
theorem ok_DoorF {f : Addr} {fd : FuncData} (F : Fun K "door" "door" sDoorF f fd) (T : Txt K mg) : FnOk P w K mg base CX0 1 f fd ["spot"] (spCat K true) := by
  have sc : FnScope ["spot"] ["spot"] (defScope sDoorF) := ⟨rfl, rfl, rfl, by decide +kernel, rfl, by decide +kernel, by decide +kernel⟩
  refine F.ok sc (fun vs H Q E h => by repeat (first | (obtain ⟨rfl, _⟩ := h; rfl) | (obtain ⟨_, h⟩ := h))) (fun cdv A outer s H vs Q E hr h => ?_)
  obtain ⟨b, x, rfl, hl, hb, q⟩ := h
  refine ⟨_, (pss_one (ps_ret (pe_op op_catT (pv 0) (pe_tup (pa_cons pe_int pa_nil))))), ?_⟩
  exact te_cat true rfl (ev_var rfl) hb hl q
theorem ok_SpotOf {f : Addr} {fd : FuncData} (F : Fun K "spot_of_mark" "spot_of_mark" sSpotOf f fd) (T : Txt K mg) : FnOk P w K mg base CX0 1 f fd ["mark"] spSpotOf := by
  have sc : FnScope ["mark"] ["mark"] (defScope sSpotOf) := ⟨rfl, rfl, rfl, by decide +kernel, rfl, by decide +kernel, by decide +kernel⟩
  refine F.ok sc (fun vs H Q E h => by repeat (first | (obtain ⟨rfl, _⟩ := h; rfl) | (obtain ⟨_, h⟩ := h))) (fun cdv A outer s H vs Q E hr h => ?_)
  obtain ⟨b, m, rfl, hl, hb, q⟩ := h
  refine ⟨_, (pss_one (ps_ret (pe_slice sl_tup (pv 0) po_none (po_some pe_int)))), ?_⟩
  refine ⟨_, rfl, 3, rfl, b, _, rfl, SqT.of hb, ?_, fun p hp => ?_⟩
  · rw [List.length_map, mkI_len hl]
    decide
  · rw [mkI_cut hl]
    exact q p hp
theorem ok_IsD {f : Addr} {fd : FuncData} (F : Fun K "is_door" "is_door" sIsD f fd) (T : Txt K mg) : FnOk P w K mg base CX0 1 f fd ["mark"] spDoor := by
  have sc : FnScope ["mark"] ["mark"] (defScope sIsD) := ⟨rfl, rfl, rfl, by decide +kernel, rfl, by decide +kernel, by decide +kernel⟩
  refine F.ok sc (fun vs H Q E h => by repeat (first | (obtain ⟨rfl, _⟩ := h; rfl) | (obtain ⟨_, h⟩ := h))) (fun cdv A outer s H vs Q E hr h => ?_)
  obtain ⟨b, ⟨x, d⟩, rfl, hl, hb, q⟩ := h
  refine ⟨_, (pss_one (ps_ret (pe_cmpR op_eq (pe_ix ix_tup (pv 0) pe_int (fun _ _ => rfl)) pe_int (nomark _)))), ?_⟩
  match x, hl, hb with
  | [i, j, k], _, hb =>
    cases d
    · exact rd_ret (ev_eqI (ev_ixT (v := .int 0) (ev_var rfl) ev_c (SqT.of hb) rfl) ev_c) q
    · exact rd_ret (ev_eqI (ev_ixT (v := .int 1) (ev_var rfl) ev_c (SqT.of hb) rfl) ev_c) q
theorem ok_GateA {f : Addr} {fd : FuncData} (F : Fun K "gate_arcs" "gate_arcs" sGateA f fd) (T : Txt K mg) (gDoorF : Callee P w K mg base "door" 1 ["spot"] (spCat K true)) : FnOk P w K mg base CX0 2 f fd ["arcs", "comes", "spot"] (spArcs K mg false) := by
  have sc : FnScope ["arcs", "comes", "spot", "ahead"] ["arcs", "comes", "spot"] (defScope sGateA) := ⟨rfl, rfl, rfl, by decide +kernel, rfl, by decide +kernel, by decide +kernel⟩
  refine F.ok sc (fun vs H Q E h => by repeat (first | (obtain ⟨rfl, _⟩ := h; rfl) | (obtain ⟨_, h⟩ := h))) (fun cdv A outer s H vs Q E hr h => ?_)
  obtain ⟨f0, k, b, n, sps, L, C, x, rfl, ⟨⟨c, c', hA⟩, ⟨kvk, hk, hC⟩, hdom⟩, hb, hx, q⟩ := h
  refine ⟨_, (pss_cons (ps_if (pt_cmp (pc_dnotin (Room.one hr) (pv 2) (pv 1)))
  (pss_one (ps_ret (pe_lst (pa_cons (pe_tup (pa_cons (pe_cal gDoorF (hr.mono (by decide)) (by rfl) (pa_cons (pv 2) pa_nil)) (pa_cons pe_int pa_nil))) pa_nil))))
  pss_nil)
  (pss_cons (ps_set (i := 3) sc.nd rfl (Or.inr rfl) (pe_dget (Room.one hr) (pv 1) (pv 2) (fun _ _ => rfl)))
  (pss_cons (ps_if (pt_cmpR op_isN (pv 3) pe_non (nomark _))
  (pss_one (ps_ret (pe_lst pa_nil)))
  pss_nil)
  (pss_one (ps_ret (pe_lc (ls := ["other", "price"]) (ys := ["ahead", "spot"]) (ix := [3, 2]) rfl ⟨rfl, by rfl, by rfl, by rfl, by rfl, rfl⟩ (pi_list (pe_callV (r := rArc mg K) (pv 0) (arcCall T (hr.mono (by decide))) (pa_cons (pv 3) pa_nil))) (fun _ _ _ _ _ => (pg_tupK (K := K) (n := 2) rfl rfl (pgs_cons (pg_name (i := 0) (show (["other", "price", "ahead", "spot"] : List Str).Nodup by decide +kernel) rfl (Or.inl rfl) (hf := .inr rfl)) (pgs_cons (pg_name (i := 1) (show (["other", "price", "ahead", "spot"] : List Str).Nodup by decide +kernel) rfl (Or.inl rfl) (hf := .inr rfl)) pgs_nil)) rfl rfl)) (fun _ _ _ _ _ => (pf_one (pt_cmpR (op_eqDK (K := K) rfl (by exact hr)) (pv 0) (pv 3) (nomark _)))) (fun _ _ _ _ _ => (pe_tup (pa_cons (pe_cal (by exact gDoorF) (by exact (hr.mono (by decide))) (by rfl) (pa_cons (pv 2) pa_nil)) (pa_cons (pe_op op_sub pe_int (pv 1)) pa_nil)))))))))), ?_⟩
  obtain ⟨_, _, _, _, _, _, hLk⟩ := hA.ce
  have l3 : x.length = 3 := (hLk.sp x hx).len
  have dep : ∀ y : T3, (PyData.tuple (y.map PyData.int)).depth ≤ 60 := fun y => Nat.le_trans (depth_tints _) (by decide)
  have g := dg (.inl hk) hb
  cases hc : C x with
  | none =>
    rw [hC.no x hc] at g
    refine sq_if (b := true) (et_B (ev_dnotin (ev_var rfl) (ev_var rfl) g)) (fun _ => ?_) (fun z => nomatch z)
    refine te_cal (ea_cons (ev_var rfl) ea_nil) ⟨b, x, rfl, l3, hb, fun m H1 s1 nm em => ⟨by show 2 ≤ sizeLine; decide, fun t nt => ⟨by show 1 ≤ sizeLine; decide, fun l nl => ?_⟩⟩⟩
    have s2 : Same H1 (upd H1 t (.tup [.ref m, .int 0])) := (Same.refl H1).upd nt
    have e2 : upd H1 t (.tup [.ref m, .int 0]) t = some (.tup [.ref m, .int 0]) := upd_same
    revert s2 e2 nl
    generalize upd H1 t (.tup [.ref m, .int 0]) = H2
    intro nl s2 e2
    have s3 : Same H2 (upd H2 l (.lst [.ref t])) := (Same.refl H2).upd nl
    have S := (s1.trans s2).trans s3
    refine q l [t] _ S ((s1.trans s2).free nl) upd_same ?_
    rw [due_none hc]
    exact .cons ⟨m, s3 _ _ e2, s3 _ _ (s2 _ _ em)⟩ .nil
  | some o =>
    refine sq_if (b := false) (et_of (et_B (ev_dnotin (ev_var rfl) (ev_var rfl) g)) (by rw [hC.isS, hc]; rfl)) (fun z => nomatch z) (fun _ => ?_)
    cases o with
    | none =>
      rw [hC.fi x hc] at g
      refine sq_set (ev_dget (ev_var rfl) (ev_var rfl) g) ?_
      refine sq_if (b := true) (et_of (et_test (ev_isN (x := .non) (ev_var rfl) ev_c)) rfl) (fun _ => ?_) (fun z => nomatch z)
      refine ⟨Nat.zero_le _, fun l nl => ?_⟩
      refine q l [] _ ((Same.refl H).upd nl) nl upd_same ?_
      rw [due_first hc]
      exact .nil
    | some y =>
      obtain ⟨a2, h1, h2⟩ := hC.ye x y hc
      have hy := hdom x y hc
      rw [h1] at g
      refine sq_set (ev_dget (ev_var rfl) (ev_var rfl) g) ?_
      refine sq_if (b := false) (et_of (et_test (ev_isN (x := .ref a2) (ev_var rfl) ev_c)) rfl) (fun z => nomatch z) (fun _ => ?_)
      obtain ⟨doc, ctv, hf⟩ := hA.fa.fn
      refine ⟨_, rfl, f0, _, _, rfl, rfl, (ea_cons (ev_var rfl) ea_nil) _ ⟨hf, arc_call hA h2 hy fun l bs H1 s1 nl el hp => ⟨l, rfl, ⟨_, SqL.of el⟩, fun D nD => ?_⟩⟩⟩
      have lb : bs.length = (L y).length := Paired.length hp
      have l12 := hLk.ln y hy
      refine lc_listG (K := K) (xs := bs.map V.ref) (fun i τ H' => ∃ (x0 x1 : Option V) (rs : List Addr), τ = [x0, x1, some (.ref a2), some (.ref b)] ∧ Same H1 H' ∧ H' D = some (.lst (rs.map V.ref)) ∧ Prs H' rs ((((L y).take i).filter fun p => decide (p.1 = x)).map fun p => (mkI (y, true), 0 - p.2)) ∧ rs.length ≤ i)
        ⟨none, none, [], rfl, (Same.refl _).upd nD, upd_same, .nil, Nat.le_refl _⟩ (fun i τ H' _ ⟨_, _, _, _, s, _⟩ => s.seq (SqL.of el)) ?_ ?_
      · rintro i v τ H5 hi ⟨x0, x1, rs, rfl, s5, hD, hrs, hrl⟩
        have hib : i < bs.length := by have := (List.getElem?_eq_some_iff.mp hi).1; rwa [List.length_map] at this
        have hv : v = .ref bs[i] := by
          rw [List.getElem?_map, List.getElem?_eq_getElem hib] at hi
          exact (Option.some.inj hi).symm
        subst hv
        obtain ⟨p, ep, cp, g1, g2⟩ := prs_at (Prs.same hp s5) (i := i) (b := bs[i]) (by simp [hib])
        refine ⟨bs[i], _, rfl, SqT.of g1, rfl, _, _, rfl, _, _, rfl, rfl, ?_⟩
        have hb5 := s5 _ _ (s1 _ _ hb)
        refine (et_of (et_test (ev_eqD (ev_var rfl) (ev_var rfl) (Dp.ints (SqT.of g2)) (Dp.ints (SqT.of hb5)) (dep _))) (eqv_tints _ _)) _ ?_
        rw [show (L y).take (i + 1) = (L y).take i ++ [p] by rw [List.take_succ, ep]; rfl, List.filter_append, List.map_append]
        by_cases e : p.1 = x
        · rw [decide_eq_true e]
          refine iteT ?_
          refine te_cal (ea_cons (ev_var rfl) ea_nil) ⟨a2, y, rfl, (hLk.sp y hy).len, s5 _ _ (s1 _ _ h2), fun m H6 s6 nm em => ⟨_, rfl, 0, p.2, rfl, rfl, by show 2 ≤ sizeLine; decide, fun t nt => ?_⟩⟩
          have s7 : Same H6 (upd H6 t (.tup [.ref m, .int (0 - p.2)])) := (Same.refl H6).upd nt
          have e7 : upd H6 t (.tup [.ref m, .int (0 - p.2)]) t = some (.tup [.ref m, .int (0 - p.2)]) := upd_same
          revert s7 e7
          generalize upd H6 t (.tup [.ref m, .int (0 - p.2)]) = H7
          intro s7 e7
          have hD7 := s7 _ _ (s6 _ _ hD)
          refine ⟨_, hD7, (by rw [List.length_map]; exact small1000 (by omega)), _, _, rs ++ [t], rfl, same_at ((s5.trans s6).trans s7) nD, ?_, ?_, ?_⟩
          · rw [upd_same, List.map_append]; rfl
          · have up : ∀ b' ys, H7 b' = some (.tup ys) → upd H7 D (.lst (rs.map V.ref ++ [.ref t])) b' = some (.tup ys) := fun b' ys eb => by rw [upd_ne (ne_of eb hD7 (by intro z; cases z))]; exact eb
            rw [List.filter_cons_of_pos (by simpa using e), List.filter_nil]
            exact prs_app (Prs.tups (Prs.same (Prs.same hrs s6) s7) up) (.cons ⟨m, up _ _ e7, up _ _ (s7 _ _ em)⟩ .nil)
          · rw [List.length_append]; simp only [List.length_cons, List.length_nil]; omega
        · rw [decide_eq_false e]
          refine iteF ?_
          refine ⟨_, _, rs, rfl, s5, hD, ?_, by omega⟩
          rw [List.filter_cons_of_neg (by simpa using e), List.filter_nil, List.map_nil, List.append_nil]
          exact hrs
      · rintro τ H5 ⟨x0, x1, rs, rfl, s5, hD, hrs, hrl⟩
        rw [List.length_map, lb, List.take_length, ← due_some hc] at hrs
        exact q D rs H5 (s1.trans s5) (s1.free nD) hD hrs
theorem ok_DoorA {f : Addr} {fd : FuncData} (F : Fun K "door_arcs" "door_arcs" sDoorA f fd) (T : Txt K mg) (gGate : Callee P w K mg base "gate" 1 ["spot"] (spCat K false)) : FnOk P w K mg base CX0 2 f fd ["arcs", "comes", "spot"] (spArcs K mg true) := by
  have sc : FnScope ["arcs", "comes", "spot", "onward"] ["arcs", "comes", "spot"] (defScope sDoorA) := ⟨rfl, rfl, rfl, by decide +kernel, rfl, by decide +kernel, by decide +kernel⟩
  refine F.ok sc (fun vs H Q E h => by repeat (first | (obtain ⟨rfl, _⟩ := h; rfl) | (obtain ⟨_, h⟩ := h))) (fun cdv A outer s H vs Q E hr h => ?_)
  obtain ⟨f0, k, b, n, sps, L, C, x, rfl, ⟨⟨c, c', hA⟩, ⟨kvk, hk, hC⟩, hdom⟩, hb, hx, q⟩ := h
  refine ⟨_, (pss_cons (ps_lcset (i := 3) (ls := ["other", "price"]) (ys := []) (ix := []) rfl sc.nd rfl (Or.inl rfl) ⟨rfl, by rfl, by rfl, by rfl, by rfl, rfl⟩ (pi_list (pe_callV (r := rArc mg K) (pv 0) (arcCall T (hr.mono (by decide))) (pa_cons (pv 2) pa_nil))) (fun _ _ _ _ _ => (pg_tupK (K := K) (n := 2) rfl rfl (pgs_cons (pg_name (i := 0) (show (["other", "price"] : List Str).Nodup by decide +kernel) rfl (Or.inl rfl) (hf := .inr rfl)) (pgs_cons (pg_name (i := 1) (show (["other", "price"] : List Str).Nodup by decide +kernel) rfl (Or.inl rfl) (hf := .inr rfl)) pgs_nil)) rfl rfl)) (fun _ _ _ _ _ => pf_nil) (fun _ _ _ _ _ => (pe_tup (pa_cons (pe_cal (by exact gGate) (by exact (hr.mono (by decide))) (by rfl) (pa_cons (pv 0) pa_nil)) (pa_cons (pv 1) pa_nil)))))
  (pss_one (ps_ret (pe_ifExp (pt_cmp (pc_din (Room.one hr) (pv 2) (pv 1))) (pe_op op_cat (pv 3) (pe_lst (pa_cons (pe_tup (pa_cons (pe_cal gGate (hr.mono (by decide)) (by rfl) (pa_cons (pv 2) pa_nil)) (pa_cons pe_int pa_nil))) pa_nil))) (pv 3))))), ?_⟩
  obtain ⟨_, _, _, _, _, _, hLk⟩ := hA.ce
  have l3 : x.length = 3 := (hLk.sp x hx).len
  obtain ⟨doc, ctv, hf⟩ := hA.fa.fn
  refine ⟨_, rfl, f0, _, _, rfl, rfl, (ea_cons (ev_var rfl) ea_nil) _ ⟨hf, arc_call hA hb hx fun l bs H1 s1 nl el hp => ⟨l, rfl, ⟨_, SqL.of el⟩, fun D nD => ?_⟩⟩⟩
  have lb : bs.length = (L x).length := Paired.length hp
  have l12 := hLk.ln x hx
  refine lc_listG (K := K) (xs := bs.map V.ref) (fun i τ H' => ∃ (x0 x1 : Option V) (rs : List Addr), τ = [x0, x1] ∧ Same H1 H' ∧ H' D = some (.lst (rs.map V.ref)) ∧ Prs H' rs (((L x).take i).map fun p => (mkI (p.1, false), p.2)) ∧ rs.length ≤ i)
    ⟨none, none, [], rfl, (Same.refl _).upd nD, upd_same, .nil, Nat.le_refl _⟩ (fun i τ H' _ ⟨_, _, _, _, s, _⟩ => s.seq (SqL.of el)) ?_ ?_
  · rintro i v τ H5 hi ⟨x0, x1, rs, rfl, s5, hD, hrs, hrl⟩
    have hib : i < bs.length := by have := (List.getElem?_eq_some_iff.mp hi).1; rwa [List.length_map] at this
    have hv : v = .ref bs[i] := by
      rw [List.getElem?_map, List.getElem?_eq_getElem hib] at hi
      exact (Option.some.inj hi).symm
    subst hv
    obtain ⟨p, ep, cp, g1, g2⟩ := prs_at (Prs.same hp s5) (i := i) (b := bs[i]) (by simp [hib])
    refine ⟨bs[i], _, rfl, SqT.of g1, rfl, _, _, rfl, _, _, rfl, rfl, ?_⟩
    rw [show (L x).take (i + 1) = (L x).take i ++ [p] by rw [List.take_succ, ep]; rfl, List.map_append]
    dsimp only [tYes]
    rw [if_pos rfl]
    have pm := hLk.mem x hx p (List.mem_of_getElem? ep)
    refine te_cal (ea_cons (ev_var rfl) ea_nil) ⟨cp, p.1, rfl, (hLk.sp _ pm).len, g2, fun m H6 s6 nm em => ⟨_, rfl, by show 2 ≤ sizeLine; decide, fun t nt => ?_⟩⟩
    have s7 : Same H6 (upd H6 t (.tup [.ref m, .int p.2])) := (Same.refl H6).upd nt
    have e7 : upd H6 t (.tup [.ref m, .int p.2]) t = some (.tup [.ref m, .int p.2]) := upd_same
    revert s7 e7
    generalize upd H6 t (.tup [.ref m, .int p.2]) = H7
    intro s7 e7
    have hD7 := s7 _ _ (s6 _ _ hD)
    refine ⟨_, hD7, (by rw [List.length_map]; exact small1000 (by omega)), _, _, rs ++ [t], rfl, same_at ((s5.trans s6).trans s7) nD, ?_, ?_, ?_⟩
    · rw [upd_same, List.map_append]; rfl
    · have up : ∀ b' ys, H7 b' = some (.tup ys) → upd H7 D (.lst (rs.map V.ref ++ [.ref t])) b' = some (.tup ys) := fun b' ys eb => by rw [upd_ne (ne_of eb hD7 (by intro z; cases z))]; exact eb
      exact prs_app (Prs.tups (Prs.same (Prs.same hrs s6) s7) up) (.cons ⟨m, up _ _ e7, up _ _ (s7 _ _ em)⟩ .nil)
    · rw [List.length_append]; simp only [List.length_cons, List.length_nil]; omega
  · rintro τ H5 ⟨x0, x1, rs, rfl, s5, hD, hrs, hrl⟩
    rw [List.length_map] at hrl
    rw [List.length_map, lb, List.take_length] at hrs
    have S5 := s1.trans s5
    have g := dg (.inl (S5 _ _ hk)) (S5 _ _ hb)
    refine (et_of (et_B (ev_din2 (ev_var rfl) (ev_var rfl) g)) (hC.isS x)) _ ?_
    cases hc : (C x).isSome with
    | true =>
      refine iteT ?_
      refine ⟨_, rfl, te_cal (ea_cons (ev_var rfl) ea_nil) ⟨b, x, rfl, l3, S5 _ _ hb, fun m H6 s6 nm em => ⟨by show 2 ≤ sizeLine; decide, fun t nt => ⟨by show 1 ≤ sizeLine; decide, fun l2 nl2 => ?_⟩⟩⟩⟩
      have s7 : Same H6 (upd H6 t (.tup [.ref m, .int 0])) := (Same.refl H6).upd nt
      have e7 : upd H6 t (.tup [.ref m, .int 0]) t = some (.tup [.ref m, .int 0]) := upd_same
      revert s7 e7 nl2
      generalize upd H6 t (.tup [.ref m, .int 0]) = H7
      intro nl2 s7 e7
      have s8 : Same H7 (upd H7 l2 (.lst [.ref t])) := (Same.refl H7).upd nl2
      have e8 : upd H7 l2 (.lst [.ref t]) l2 = some (.lst [.ref t]) := upd_same
      revert s8 e8
      generalize upd H7 l2 (.lst [.ref t]) = H8
      intro s8 e8
      have S8 := (s6.trans s7).trans s8
      refine ⟨D, l2, _, _, rfl, rfl, S8 _ _ hD, e8, (by rw [List.length_map]; exact Nat.le_of_lt (small1000 (n := rs.length + 1) (by omega))), fun r nr => ?_⟩
      have s9 : Same H8 (upd H8 r (.lst (rs.map V.ref ++ [.ref t]))) := (Same.refl H8).upd nr
      refine q r (rs ++ [t]) _ ((S5.trans S8).trans s9) ((S5.trans S8).free nr) (by rw [upd_same, List.map_append]; rfl) ?_
      rw [due_door, hc, if_pos rfl]
      exact prs_app (Prs.same (Prs.same hrs S8) s9) (.cons ⟨m, s9 _ _ (s8 _ _ e7), s9 _ _ (s8 _ _ (s7 _ _ em))⟩ .nil)
    | false =>
      refine iteF ?_
      refine ⟨_, rfl, q D rs H5 S5 (s1.free nD) hD ?_⟩
      rw [due_door, hc, if_neg (by simp), List.append_nil]
      exact hrs
theorem ok_Split {f : Addr} {fd : FuncData} (F : Fun K "split_arcs" "split_arcs" sSplit f fd) (T : Txt K mg) (hcv : fd.code = .ref (tbOf K "split_arcs").1) (hCH : PySem.W.codeHdIn K (tbOf K "split_arcs").1 (tbOf K "split_arcs").2 = true) (hBA : base.BuiltinsAt mg (tbOf K "split_arcs").2) (hgP : mainGlobals ≠ (tbOf K "split_arcs").2) (gSpotOf : Callee P w K mg base "spot_of_mark" 1 ["mark"] spSpotOf) (gIsD : Callee P w K mg base "is_door" 1 ["mark"] spDoor) (gGateA : Callee P w K mg base "gate_arcs" 2 ["arcs", "comes", "spot"] (spArcs K mg false)) (gDoorA : Callee P w K mg base "door_arcs" 2 ["arcs", "comes", "spot"] (spArcs K mg true)) : FnOk P w K mg base CX0 3 f fd ["arcs", "comes"] (spSplit K mg) := by
  have sc : FnScope ["arcs", "comes", "kept", "leads"] ["arcs", "comes"] (defScope sSplit) := ⟨rfl, rfl, rfl, by decide +kernel, rfl, by decide +kernel, by decide +kernel⟩
  refine F.okG (i1 := 0) (i2 := 2) (y1 := "arcs") (y2 := "kept") (a1 := 1) (a2 := 2) hcv sc (fun vs H Q E h => by repeat (first | (obtain ⟨rfl, _⟩ := h; rfl) | (obtain ⟨_, h⟩ := h))) (by decide) rfl (by decide +kernel) (fun _ => rfl) (by decide) rfl (by decide +kernel) (fun _ => rfl) (by decide) (fun A outer s H vs Q E hr h => ?_)
  obtain ⟨f0, e, n, kvs, C, u, rfl, n10, hf, hu, he, hC, hT, q⟩ := h
  refine ⟨_, (psg_cons (ps_set (i := 2) sc.nd rfl (Or.inr rfl) (pe_callTy call_dict (by rfl) T.dict_ bt_dict (pa_cons (pv 1) pa_nil)))
  (psg_cons (ps_nest (i := 3) rfl rfl (by rfl) (by rfl) rfl hCH hBA hgP sc.nd rfl (Or.inl rfl) (.inl rfl))
  (psg_ret (pv 3)))), ?_⟩
  refine ⟨_, rfl, e, rfl, .inr ⟨kvs, .inl he, hC.hash n10, fun k nk => ?_⟩⟩
  have s1 : Same H (upd H k (.dT kvs)) := (Same.refl H).upd nk
  have e1 : upd H k (.dT kvs) k = some (.dT kvs) := upd_same
  revert s1 e1
  generalize upd H k (.dT kvs) = H1
  intro s1 e1
  have fin : ∀ (H3 : Hp) (g c2 cA cK : Addr) (oc o1 o2 : Obj) (doc ctv : Value), cA ≠ cK → (∀ b o, b ≠ (tbOf K "split_arcs").2 → H1 b = some o → H3 b = some o) → H3 (tbOf K "split_arcs").2 = some (.tbl #[rawInt (posOf leadSt).line, rawInt (posOf leadSt).col, .ref c2]) → H3 c2 = some (exO c2 oc) → CodeOf oc c2 leadQ → H3 g = some (exO g (leadObj mg cA cK c2 doc ctv)) →
      H3 cA = none → H3 cK = none → H cA = none → H cK = none → o1.data = .cell (some (.ref f0)) → o2.data = .cell (some (.ref k)) → Q (.ref g) (upd (upd H3 cA (exO cA o1)) cK (exO cK o2)) := by
    intro H3 g c2 cA cK oc o1 o2 doc ctv ne kp hP hc2 hco hg nA nK hA hK d1 d2
    have up : ∀ {b : Addr} {o : HO}, H3 b = some o → upd (upd H3 cA (exO cA o1)) cK (exO cK o2) b = some o := fun e => by
      rw [upd_ne (ne_of_none e nK), upd_ne (ne_of_none e nA)]; exact e
    have hPt : ∃ ps, H1 (tbOf K "split_arcs").2 = some (.tbl ps) := by
      rcases hT with h | ⟨_, _, h, _⟩
      · exact ⟨_, s1 _ _ h⟩
      · exact ⟨_, s1 _ _ h⟩
    obtain ⟨ps, hPt⟩ := hPt
    have kt : ∀ b o, (∀ ps, o ≠ .tbl ps) → H b = some o → upd (upd H3 cA (exO cA o1)) cK (exO cK o2) b = some o := fun b o no e => up (kp b o (ne_of (s1 _ _ e) hPt (no _)) (s1 _ _ e))
    have kk := up (kp k _ (ne_of e1 hPt (fun z => nomatch z)) e1)
    refine q g _ cA cK c2 k kt (fun b o nb e => up (kp b o nb (s1 _ _ e))) (.inr ⟨c2, oc, up hP, up hc2, hco⟩) hA hK ⟨⟨doc, ctv, up hg⟩, ⟨oc, up hc2, hco⟩, ne, ⟨o1, ?_, d1⟩, ⟨o2, upd_same, d2⟩⟩ kk nk (hC.tups fun b ys e => kt b _ (fun _ z => nomatch z) e)
    rw [upd_ne ne, upd_same]
  rcases hT with hT | ⟨c2, oc, hT, hc2, hco⟩
  · have hP1 := s1 _ _ hT
    refine ⟨#[], hP1, trivial, .inl ⟨rfl, fun g c2 oc ctv doc ng nc2 gc hco => ?_⟩⟩
    refine ⟨_, rfl, .ref f0, .ref k, rfl, rfl, fun o1 o2 u1 u2 n1 n2 m1 m2 d1 r1 d2 r2 => ?_⟩
    cases r1
    cases r2
    have Pg := ne_of_none hP1 ng
    have Pc := ne_of_none hP1 nc2
    refine fin _ g c2 (s.heap.objs.size + 1) (s.heap.objs.size + 2) oc o1 o2 doc ctv (fun z => absurd (Nat.add_left_cancel z) (by decide)) (fun b o nb eb => ?_) ?_ ?_ hco ?_ n1 n2 m1 m2 d1 d2
    · rw [upd_ne (ne_of_none eb ng), upd_ne (ne_of_none eb nc2), upd_ne nb]; exact eb
    · rw [upd_ne Pg, upd_ne Pc, upd_same]; rfl
    · rw [upd_ne gc.symm, upd_same]
    · exact upd_same.trans rfl
  · have hP1 := s1 _ _ hT
    refine ⟨_, hP1, (by show TriplesOk [rawInt _, rawInt _, .ref c2]; exact trivial), .inr ⟨c2, (by rfl), fun g ctv doc ng => ?_⟩⟩
    refine ⟨_, rfl, .ref f0, .ref k, rfl, rfl, fun o1 o2 u1 u2 n1 n2 m1 m2 d1 r1 d2 r2 => ?_⟩
    cases r1
    cases r2
    refine fin _ g c2 (s.heap.objs.size + 1) (s.heap.objs.size + 2) oc o1 o2 doc ctv (fun z => absurd (Nat.add_left_cancel z) (by decide)) (fun b o nb eb => ?_) ?_ ?_ hco ?_ n1 n2 m1 m2 d1 d2
    · rw [upd_ne (ne_of_none eb ng)]; exact eb
    · rw [upd_ne (ne_of_none hP1 ng)]; exact hP1
    · rw [upd_ne (ne_of_none (s1 _ _ hc2) ng)]; exact s1 _ _ hc2
    · exact upd_same.trans rfl
theorem ok_Cell {f : Addr} {fd : FuncData} (F : Fun K "_law_cell_at" "_law_cell_at" sCell f fd) (T : Txt K mg) : FnOk P w K mg base CX0 1 f fd ["_law_script", "_law_k"] (spCell K) := by
  have sc : FnScope ["_law_script", "_law_k"] ["_law_script", "_law_k"] (defScope sCell) := ⟨rfl, rfl, rfl, by decide +kernel, rfl, by decide +kernel, by decide +kernel⟩
  refine F.ok sc (fun vs H Q E h => by repeat (first | (obtain ⟨rfl, _⟩ := h; rfl) | (obtain ⟨_, h⟩ := h))) (fun cdv A outer s H vs Q E hr h => ?_)
  obtain ⟨a, ns, i, rfl, ha, h0, q⟩ := h
  refine ⟨_, (pss_cons (ps_if (pt_cmpR op_lt (pv 1) (pe_callB call_len (by rfl) T.len_ bt_len (pa_cons (pv 0) pa_nil)) (nomark _))
  (pss_one (ps_ret (pe_ix ix_list (pv 0) (pv 1) (fun _ _ => rfl))))
  pss_nil)
  (pss_one (ps_ret pe_int))), ?_⟩
  refine rd_if (et_test (ev_I0 (ev_var rfl) (ev_cb (ea_cons (ev_var rfl) ea_nil) fun Q' q' => ⟨_, _, rfl, by first | exact .inl ⟨_, by assumption, rfl⟩ | exact .inl ⟨_, SqL.of (by assumption), rfl⟩ | exact .inr ⟨_, by assumption, rfl⟩ | exact .inr ⟨_, SqT.of (by assumption), rfl⟩, q'⟩))) (fun e => ?_) (fun _ => ?_)
  · have hlt : i < ((ns.map V.int).length : Int) := of_decide_eq_true e
    rw [List.length_map] at hlt
    obtain ⟨j, rfl⟩ := Int.eq_ofNat_of_zero_le h0
    have hj : j < ns.length := by omega
    exact rd_ret (ev_ixL (v := .int ns[j]) (ev_var rfl) (ev_var rfl) ha (atI_nat (by simp [hj]))) (q _)
  · exact q 0
theorem ok_Whole {f : Addr} {fd : FuncData} (F : Fun K "_law_whole" "_law_whole" sWhole f fd) (T : Txt K mg) : FnOk P w K mg base CX0 1 f fd ["_law_found"] spWhole := by
  have sc : FnScope ["_law_found"] ["_law_found"] (defScope sWhole) := ⟨rfl, rfl, rfl, by decide +kernel, rfl, by decide +kernel, by decide +kernel⟩
  refine F.ok sc (fun vs H Q E h => by repeat (first | (obtain ⟨rfl, _⟩ := h; rfl) | (obtain ⟨_, h⟩ := h))) (fun cdv A outer s H vs Q E hr h => ?_)
  obtain ⟨i, rfl, q⟩ := h
  refine ⟨_, (pss_one (ps_ret (pe_and (pe_callB call_isinst (by rfl) T.isinstance_ bt_isinstance (pa_cons (pv 0) (pa_cons (pe_bltn (v := .ty "int") (by rfl) T.int_ bt_int (by rfl)) pa_nil))) (pe_one (pe_not (pe_callB call_isinst (by rfl) T.isinstance_ bt_isinstance (pa_cons (pv 0) (pa_cons (pe_bltn (v := .ty "bool") (by rfl) T.bool_ bt_bool (by rfl)) pa_nil)))))))), ?_⟩
  exact rd_ret (ev_and (a := true) (ev_cb (ea_cons (ev_var rfl) (ea_cons ev_c ea_nil)) fun Q' q' => ⟨_, _, _, _, _, rfl, .ty "int", .int i, T.ii, q'⟩) fun _ => ev_notV (ev_cb (v := .bl false) (ea_cons (ev_var rfl) (ea_cons ev_c ea_nil)) fun Q' q' => ⟨_, _, _, _, _, rfl, .ty "bool", .int i, T.ib, q'⟩)) q
theorem ok_Spots {f : Addr} {fd : FuncData} (F : Fun K "_law_spots" "_law_spots" sSpots f fd) (T : Txt K mg) (gCell : Callee P w K mg base "_law_cell_at" 1 ["_law_script", "_law_k"] (spCell K)) : FnOk P w K mg base CX0 2 f fd ["_law_script"] (spSpots K) := by
  have sc : FnScope ["_law_script", "_law_found"] ["_law_script"] (defScope sSpots) := ⟨rfl, rfl, rfl, by decide +kernel, rfl, by decide +kernel, by decide +kernel⟩
  refine F.ok sc (fun vs H Q E h => by repeat (first | (obtain ⟨rfl, _⟩ := h; rfl) | (obtain ⟨_, h⟩ := h))) (fun cdv A outer s H vs Q E hr h => ?_)
  obtain ⟨a, ns, rfl, ha, q⟩ := h
  refine ⟨_, (pss_cons (ps_lcset (i := 1) (ls := ["_law_k"]) (ys := []) (ix := []) rfl sc.nd rfl (Or.inl rfl) ⟨rfl, by rfl, by rfl, by rfl, by rfl, rfl⟩ (pi_range1 (by rfl) T.range_ (pa_cons (pe_op op_add pe_int (pe_op op_mod (pe_cal gCell (hr.mono (by decide)) (by rfl) (pa_cons (pv 0) (pa_cons pe_int pa_nil))) pe_int)) pa_nil)) (fun _ _ _ _ _ => (pg_name (i := 0) (show (["_law_k"] : List Str).Nodup by decide +kernel) rfl (Or.inl rfl))) (fun _ _ _ _ _ => pf_nil) (fun _ _ _ _ _ => (pe_tup (pa_cons (pe_op op_mod (pv 0) pe_int) (pa_cons (pe_op op_mod (pe_op op_fdivB (pv 0) pe_int) pe_int) (pa_cons (pe_op op_fdivB (pv 0) pe_int) pa_nil))))))
  (pss_cons (ps_if (pt_cmpR op_eq (pe_op op_mod (pe_cal gCell (hr.mono (by decide)) (by rfl) (pa_cons (pv 0) (pa_cons pe_int pa_nil))) pe_int) pe_int (nomark _))
  (pss_one (ps_asg (pe_tup (pa_cons pe_int (pa_cons pe_int (pa_cons (pe_op op_add pe_int (pe_op op_mod (pe_op op_fdivB (pe_cal gCell (hr.mono (by decide)) (by rfl) (pa_cons (pv 0) (pa_cons pe_int pa_nil))) pe_int) (pe_op op_pow pe_int pe_int))) pa_nil)))) (pg_sub (pv 1) (pe_un un_neg pe_int) set_list)))
  pss_nil)
  (pss_one (ps_ret (pv 1))))), ?_⟩
  refine te_cal (ea_cons (ev_var rfl) (ea_cons ev_c ea_nil)) ⟨a, ns, 0, rfl, ha, by decide, fun v => ⟨v, 10, rfl, rfl, (by show (0 : Int) < 10; decide), 2, _, rfl, rfl, ?_⟩⟩
  have v0 := Int.emod_nonneg v (show (10 : Int) ≠ 0 by decide)
  have v1 := Int.emod_lt_of_pos v (show (0 : Int) < 10 by decide)
  obtain ⟨N, eN⟩ := Int.eq_ofNat_of_zero_le (show 0 ≤ 2 + v % 10 by omega)
  have N2 : 2 ≤ N := by omega
  have N12 : N ≤ 12 := by omega
  refine ⟨2 + v % 10, rfl, by omega, by omega, fun p np => ?_⟩
  rw [eN]
  refine lc_range (fun i τ H' => ∃ (x0 : Option V) (rs : List Addr), τ = [x0] ∧ Same H H' ∧ H' p = some (.lst (rs.map V.ref)) ∧ Tups H' rs ((List.range i).map spI) ∧ rs.length = i)
    ⟨none, [], rfl, (Same.refl _).upd np, upd_same, .nil, rfl⟩ ?_ ?_
  · rintro i τ H5 hi ⟨x0, rs, rfl, s5, hp, hrs, hrl⟩
    have hi : i < N := hi
    rw [Int.zero_add]
    dsimp only [gName, tYes]
    rw [if_pos rfl]
    refine te_tup (ea_cons (ev_I (ev_var rfl) ev_c (by show (0 : Int) < 2; decide)) (ea_cons (ev_I (ev_I (ev_var rfl) ev_c (by constructor <;> decide)) ev_c (by show (0 : Int) < 3; decide)) (ea_cons (ev_I (ev_var rfl) ev_c (by constructor <;> decide)) ea_nil))) (by show 3 ≤ sizeLine; decide) fun b nb => ?_
    have s6 : Same H5 (upd H5 b (.tup [.int ((i : Int) % 2), .int ((i : Int) / 2 % 3), .int ((i : Int) / 6)])) := (Same.refl H5).upd nb
    have e6 : upd H5 b (.tup [.int ((i : Int) % 2), .int ((i : Int) / 2 % 3), .int ((i : Int) / 6)]) b = some (.tup ((spI i).map V.int)) := upd_same
    revert s6 e6
    generalize upd H5 b (.tup [.int ((i : Int) % 2), .int ((i : Int) / 2 % 3), .int ((i : Int) / 6)]) = H6
    intro s6 e6
    have hp6 := s6 _ _ hp
    refine ⟨_, hp6, (by rw [List.length_map]; exact small1000 (by omega)), _, rs ++ [b], rfl, same_at (s5.trans s6) np, ?_, ?_, ?_⟩
    · rw [upd_same, List.map_append]; rfl
    · have up : ∀ b' ys, H6 b' = some (.tup ys) → upd H6 p (.lst (rs.map V.ref ++ [.ref b])) b' = some (.tup ys) := fun b' ys eb => by rw [upd_ne (ne_of eb hp6 (by intro z; cases z))]; exact eb
      rw [List.range_succ, List.map_append]
      exact tups_app (Paired.mapP (hrs.same s6) fun _ _ z => up _ _ z) (.cons (up _ _ e6) .nil)
    · rw [List.length_append, hrl]; rfl
  · rintro τ H5 ⟨x0, rs, rfl, s5, hp, hrs, hrl⟩
    have hrl : rs.length = N := hrl
    have hrs : Tups H5 rs ((List.range N).map spI) := hrs
    have ha5 := s5.seq ha
    dsimp only
    have nd0 : ((List.range N).map spI).Nodup := List.Pairwise.map _ (fun _ _ ne e => ne (spI_inj e)) List.nodup_range
    refine sq_R (fun σ H' => ∃ (n : Nat) (as : List Addr) (sps : List T3), n < 10000000000 ∧ σ = [some (.ref a), some (.ref p)] ∧ Same H H' ∧ SpsAt K H' n p as sps) (fun R hR => ?_) ?_
    · refine te_cal (ea_cons (ev_var rfl) (ea_cons ev_c ea_nil)) ⟨a, ns, 1, rfl, ha5, by decide, fun v => ⟨v, 2, rfl, rfl, (by show (0 : Int) < 2; decide), rfl, _, rfl, ?_⟩⟩
      dsimp only
      split
      · refine te_cal (ea_cons (ev_var rfl) (ea_cons ev_c ea_nil)) ⟨a, ns, 1, rfl, ha5, by decide, fun u => ⟨u, 2, rfl, rfl, (by constructor <;> decide), 10, 9, rfl, rfl, ⟨by decide, by decide, by decide⟩, _, _, rfl, rfl, (by show (0 : Int) < 10 ^ (9 : Int).toNat; decide), 2, _, rfl, rfl, ?_⟩⟩
        dsimp only [tNil]
        have m0 := Int.emod_nonneg (u / 2) (show (10 : Int) ^ Int.toNat 9 ≠ 0 by decide)
        have m1 := Int.emod_lt_of_pos (u / 2) (show (0 : Int) < 10 ^ Int.toNat 9 by decide)
        revert m0 m1
        generalize u / 2 % 10 ^ Int.toNat 9 = m
        intro m0 m1
        obtain ⟨m, rfl⟩ := Int.eq_ofNat_of_zero_le m0
        have m1 : (m : Int) < 1000000000 := m1
        obtain ⟨n, en⟩ : ∃ n : Nat, (2 + (m : Int)) = (n : Int) := ⟨2 + m, by omega⟩
        rw [en]
        refine ⟨by show 3 ≤ sizeLine; decide, fun b nb => ⟨_, rfl, 1, rfl, p, _, -1, N - 1, rfl, rfl, (by rw [upd_ne (ne_of_none hp nb)]; exact hp), ?_, ?_⟩⟩
        · rw [List.length_map, hrl]
          unfold ixN
          rw [if_neg (by decide), if_pos (by omega)]
          congr 1
          omega
        have s6 : Same H5 (upd H5 b (.tup [.int 3, .int 7, .int (n : Int)])) := (Same.refl H5).upd nb
        have e6 : upd H5 b (.tup [.int 3, .int 7, .int (n : Int)]) b = some (.tup (([3, 7, (n : Int)] : T3).map V.int)) := upd_same
        revert s6 e6
        generalize upd H5 b (.tup [.int 3, .int 7, .int (n : Int)]) = H6
        intro s6 e6
        have hp6 := s6 _ _ hp
        have up : ∀ b' ys, H6 b' = some (.tup ys) → upd H6 p (.lst ((rs.map V.ref).set (N - 1) (.ref b))) b' = some (.tup ys) := fun b' ys eb => by rw [upd_ne (ne_of eb hp6 (by intro z; cases z))]; exact eb
        refine hR _ _ ⟨n, rs.set (N - 1) b, ((List.range N).map spI).set (N - 1) [3, 7, (n : Int)], by omega, rfl, same_at (s5.trans s6) np, ⟨SqL.of (by rw [upd_same, List.map_set]), Paired.mapP (tups_setN (hrs.same s6) e6 _) fun _ _ z => up _ _ z, ?_, ?_, ?_, ?_⟩⟩
        · refine nodup_set nd0 fun hm => ?_
          obtain ⟨j, _, ej⟩ := List.mem_map.mp hm
          exact spI_far ej
        · intro x hx
          rcases List.mem_or_eq_of_mem_set hx with hx | rfl
          · obtain ⟨j, hj, rfl⟩ := List.mem_map.mp hx
            exact spI_spot (by have := List.mem_range.mp hj; omega)
          · exact .far
        · rw [List.length_set, List.length_map, List.length_range]; exact N2
        · rw [List.length_set, List.length_map, List.length_range]; exact N12
      · refine hR _ _ ⟨0, rs, (List.range N).map spI, by decide, rfl, s5, SqL.of hp, hrs, nd0, ?_, ?_, ?_⟩
        · intro x hx
          obtain ⟨k, hk, rfl⟩ := List.mem_map.mp hx
          exact spI_spot (by have := List.mem_range.mp hk; omega)
        · rw [List.length_map, List.length_range]; exact N2
        · rw [List.length_map, List.length_range]; exact N12
    · rintro σ H6 ⟨n, as, sps, n10, rfl, s6, hs⟩
      exact ⟨_, rfl, q n p as sps H6 n10 s6 np hs⟩
theorem ok_Mix {f : Addr} {fd : FuncData} (F : Fun K "_law_mix" "_law_mix" sMix f fd) (T : Txt K mg) : FnOk P w K mg base CX0 1 f fd ["_law_cell", "_law_k", "_law_prime"] spMix := by
  have sc : FnScope ["_law_cell", "_law_k", "_law_prime", "_law_mixed"] ["_law_cell", "_law_k", "_law_prime"] (defScope sMix) := ⟨rfl, rfl, rfl, by decide +kernel, rfl, by decide +kernel, by decide +kernel⟩
  refine F.ok sc (fun vs H Q E h => by repeat (first | (obtain ⟨rfl, _⟩ := h; rfl) | (obtain ⟨_, h⟩ := h))) (fun cdv A outer s H vs Q E hr h => ?_)
  obtain ⟨c, k, p, rfl, hp, hp2, hk, hk2, q⟩ := h
  refine ⟨_, (pss_cons (ps_set (i := 3) sc.nd rfl (Or.inl rfl) (pe_op op_mod (pe_op op_mul (pe_op op_add (pe_op op_add (pe_op op_mod (pv 0) (pv 2)) (pe_op op_mul pe_int (pv 1))) pe_int) pe_int) (pv 2)))
  (pss_one (ps_ret (pe_op op_mod (pe_op op_mul (pv 3) (pv 3)) pe_int)))), ?_⟩
  have m0 := Int.emod_nonneg c (show p ≠ 0 by omega)
  have m1 := Int.emod_lt_of_pos c hp
  refine sq_set (ev_I (ev_I (ev_I0 (ev_I0 (ev_I (ev_var rfl) (ev_var rfl) (by first | (show (0 : Int) < _; omega) | (show (0 : Int) < _; decide))) (ev_I ev_c (ev_var rfl) (by first | exact cmR (by omega) (by omega) | exact cmL (by omega) (by omega)))) ev_c) ev_c (by first | exact cmR (by omega) (by omega) | exact cmL (by omega) (by omega))) (ev_var rfl) (by first | (show (0 : Int) < _; omega) | (show (0 : Int) < _; decide))) ?_
  have n0 := Int.emod_nonneg ((c % p + 31 * k + 7) * 48271) (show p ≠ 0 by omega)
  have n1 := Int.emod_lt_of_pos ((c % p + 31 * k + 7) * 48271) hp
  revert n0 n1
  generalize (c % p + 31 * k + 7) * 48271 % p = x
  intro n0 n1
  exact rd_ret (ev_I (ev_I (ev_var rfl) (ev_var rfl) (by first | exact cmR (by omega) (by omega) | exact cmL (by omega) (by omega))) ev_c (by first | (show (0 : Int) < _; omega) | (show (0 : Int) < _; decide))) (q _)
theorem ok_Links {f : Addr} {fd : FuncData} (F : Fun K "_law_links" "_law_links" sLinks f fd) (T : Txt K mg) (gMix : Callee P w K mg base "_law_mix" 1 ["_law_cell", "_law_k", "_law_prime"] spMix) : FnOk P w K mg base CX0 2 f fd ["_law_script", "_law_spots_here"] (spLinks K) := by
  have sc : FnScope ["_law_script", "_law_spots_here", "_law_links_here", "_law_spot", "_law_seen", "_law_k", "_law_one", "_law_two"] ["_law_script", "_law_spots_here"] (defScope sLinks) := ⟨rfl, rfl, rfl, by decide +kernel, rfl, by decide +kernel, by decide +kernel⟩
  refine F.ok sc (fun vs H Q E h => by repeat (first | (obtain ⟨rfl, _⟩ := h; rfl) | (obtain ⟨_, h⟩ := h))) (fun cdv A outer s H vs Q E hr h => ?_)
  obtain ⟨a, p, ns, n, as, sps, rfl, ha, hn, hs, q⟩ := h
  refine ⟨_, (pss_cons (ps_set (i := 2) sc.nd rfl (Or.inl rfl) pe_dnewT)
  (pss_cons (ps_for PassesOwn.never rfl (pi_list (pv 1)) (pg_name (i := 3) sc.nd rfl (Or.inl rfl))
  (pss_one (ps_dput (Room.one hr) (pv 2) (pv 3) (pe_lst pa_nil) (by rfl))))
  (pss_cons (ps_set (i := 4) sc.nd rfl (Or.inl rfl) pe_dnewT)
  (pss_cons (ps_for PassesOwn.never rfl (pi_range2 (by rfl) T.range_ (pa_cons pe_int (pa_cons (pe_callB call_len (by rfl) T.len_ bt_len (pa_cons (pv 0) pa_nil)) pa_nil))) (pg_name (i := 5) sc.nd rfl (Or.inl rfl))
  (pss_cons (ps_set (i := 6) sc.nd rfl (Or.inl rfl) (pe_op op_mod (pe_cal gMix (hr.mono (by decide)) (by rfl) (pa_cons (pe_ix ix_list (pv 0) (pv 5) (fun _ _ => rfl)) (pa_cons (pv 5) (pa_cons pe_int pa_nil)))) (pe_callB call_len (by rfl) T.len_ bt_len (pa_cons (pv 1) pa_nil))))
  (pss_cons (ps_set (i := 7) sc.nd rfl (Or.inl rfl) (pe_op op_mod (pe_cal gMix (hr.mono (by decide)) (by rfl) (pa_cons (pe_ix ix_list (pv 0) (pv 5) (fun _ _ => rfl)) (pa_cons (pv 5) (pa_cons pe_int pa_nil)))) (pe_callB call_len (by rfl) T.len_ bt_len (pa_cons (pv 1) pa_nil))))
  (pss_one (ps_if (pw_and (pt_cmpR op_ne (pv 6) (pv 7) (nomark _)) (pw_and1 (pt_cmp (pc_dnotin (Room.one hr) (pe_tup (pa_cons (pv 6) (pa_cons (pv 7) pa_nil))) (pv 4))))).pt
  (pss_cons (ps_dput (Room.one hr) (pv 4) (pe_tup (pa_cons (pv 6) (pa_cons (pv 7) pa_nil))) pe_bl (by rfl))
  (pss_one (ps_expr (pe_bm PySem.F.plainAttrs_list PySem.F.slot_list_append PySem.F.type_list_append mt_append (pe_dget (Room.one hr) (pv 2) (pe_ix ix_list (pv 1) (pv 6) (fun _ _ => rfl)) (fun _ _ => rfl)) (pa_cons (pe_tup (pa_cons (pe_ix ix_list (pv 1) (pv 7) (fun _ _ => rfl)) (pa_cons (pe_op op_mod (pe_op op_fdivB (pe_ix ix_list (pv 0) (pv 5) (fun _ _ => rfl)) pe_int) (pe_op op_add (pe_op op_pow pe_int pe_int) pe_int)) pa_nil))) pa_nil)))))
  pss_nil)))))
  (pss_one (ps_ret (pv 2))))))), ?_⟩
  have la : as.length = sps.length := Paired.length hs.tp
  refine sq_asg fun d nd => ?_
  have s1 : Same H (upd H d (.dT [])) := (Same.refl H).upd nd
  have e1 : upd H d (.dT []) d = some (.dT []) := upd_same
  revert s1 e1
  generalize upd H d (.dT []) = H1
  intro s1 e1
  refine ⟨_, rfl, p, rfl, ⟨_, s1.seq hs.ls⟩, for_list (K := K) (a := p) (xs := as.map V.ref) (fun i σ H' => ∃ (kvs : List (List Key × V)) (lA : T3 → Addr) (x3 : Option V), σ = [some (.ref a), some (.ref p), some (.ref d), x3, none, none, none, none] ∧ Same H H' ∧ H' d = some (.dT kvs) ∧ kvs.length ≤ i ∧ LkI H H' kvs (sps.take i) lA (fun _ => []))
    ⟨[], fun _ => 0, none, rfl, s1, e1, Nat.le_refl _, (fun x h => nomatch h), (fun x h => nomatch h), (fun x h => nomatch h), (fun x h => nomatch h)⟩ (fun i σ H' _ ⟨_, _, _, _, s, _⟩ => s.seq hs.ls) ?_ ?_⟩
  · rintro i y σ H5 hi ⟨kvs, lA, x3, rfl, s5, ed, hk, lk⟩
    obtain ⟨b, x, rfl, hb, hx, xm, g⟩ := (hs.same s5).at hi
    have il : i < as.length := (List.getElem?_eq_some_iff.mp hb).1
    have l12 := hs.l12
    refine gn ?_
    refine te_lst ea_nil (by decide) fun l nl => ?_
    have s6 : Same H5 (upd H5 l (.lst [])) := (Same.refl H5).upd nl
    have e6 : upd H5 l (.lst []) l = some (.lst []) := upd_same
    revert s6 e6
    generalize upd H5 l (.lst []) = H6
    intro s6 e6
    have ed6 := s6 _ _ ed
    refine ⟨_, rfl, _, rfl, d, _, rfl, DPut.t ed6 (iK_at (s6 _ _ g)) (small1000 (by omega)), ?_⟩
    have xn : x ∉ sps.take i := fun hm => by
      obtain ⟨j, hj⟩ := List.mem_iff_getElem?.mp hm
      have hj1 : j < i := by have := (List.getElem?_eq_some_iff.mp hj).1; rw [List.length_take] at this; omega
      rw [List.getElem?_take_of_lt hj1] at hj
      exact Nat.ne_of_lt hj1 ((List.getElem?_inj (by omega) hs.nd).mp (hj.trans hx.symm))
    have nl0 : H l = none := s5.free nl
    have tk : ∀ b u, (∀ kv, u ≠ .dT kv) → H6 b = some u → upd H6 d (.dT (putK kvs (iK x) (.ref l))) b = some u := fun b u nu eb => by rw [upd_ne (ne_of eb ed6 (nu _))]; exact eb
    refine ⟨_, fun z => if z = x then l else lA z, _, rfl, same_at (s5.trans s6) nd, upd_same, ?_, ?_⟩
    · have := length_putK kvs (iK x) (.ref l); omega
    rw [show sps.take (i + 1) = sps.take i ++ [x] by rw [List.take_succ, hx]; rfl]
    have nx : ∀ z ∈ sps.take i, z ≠ x := fun z hz w => xn (w ▸ hz)
    have ne : ∀ z ∈ sps.take i, lA z ≠ l := fun z hz w => by
      obtain ⟨bs, h1, _⟩ := lk.at' z hz
      rw [w, nl] at h1; cases h1
    refine ⟨fun z hz => ?_, fun z hz => ?_, fun z hz => ?_, fun z hz z' hz' => ?_⟩
    · rw [vput]
      rcases List.mem_append.mp hz with h | h
      · rw [if_neg (nx z h), if_neg (nx z h)]; exact lk.va z h
      · have := List.mem_singleton.mp h
        rw [if_pos this, if_pos this]
    · rcases List.mem_append.mp hz with h | h
      · rw [if_neg (nx z h)]; exact lk.fr z h
      · rw [if_pos (List.mem_singleton.mp h)]; exact nl0
    · rcases List.mem_append.mp hz with h | h
      · rw [if_neg (nx z h)]
        obtain ⟨bs, h1, h2⟩ := lk.at' z h
        exact ⟨bs, tk _ _ (fun _ z => by cases z) (s6 _ _ h1), Prs.tups (Prs.same h2 s6) fun _ _ w => tk _ _ (fun _ z => by cases z) w⟩
      · rw [if_pos (List.mem_singleton.mp h)]
        exact ⟨[], tk _ _ (fun _ z => by cases z) e6, .nil⟩
    · rcases List.mem_append.mp hz with h | h <;> rcases List.mem_append.mp hz' with h' | h'
      · rw [if_neg (nx z h), if_neg (nx z' h')]; exact lk.inj z h z' h'
      · rw [if_neg (nx z h), if_pos (List.mem_singleton.mp h')]; exact fun w => (ne z h w).elim
      · rw [if_pos (List.mem_singleton.mp h), if_neg (nx z' h')]; exact fun w => (ne z' h' w.symm).elim
      · exact fun _ => (List.mem_singleton.mp h).trans (List.mem_singleton.mp h').symm
  · rintro σ H5 ⟨kvs, lA, x3, rfl, s5, ed, hk, lk⟩
    rw [List.length_map, la, List.take_length] at lk
    dsimp only
    refine sq_asg fun sn nsn => ?_
    have s5' : Same H5 (upd H5 sn (.dT [])) := (Same.refl H5).upd nsn
    have es5 : upd H5 sn (.dT []) sn = some (.dT []) := upd_same
    have hsn : H sn = none := s5.free nsn
    have dsn : d ≠ sn := ne_of_none ed nsn
    have lk := lk.same' s5'
    revert s5' es5 lk
    generalize upd H5 sn (.dT []) = H5'
    intro s5' es5 lk
    have s5 := s5.trans s5'
    have ed := s5' _ _ ed
    have ha5 := s5.seq ha
    have l2 := hs.l2
    have l12 := hs.l12
    refine sq_rng2 (i := 3) (j := ((ns.map V.int).length : Nat)) (ea_cons ev_c (ea_cons (ev_cb (ea_cons (ev_var rfl) ea_nil) fun Q' q' => ⟨_, _, rfl, by first | exact .inl ⟨_, by assumption, rfl⟩ | exact .inl ⟨_, SqL.of (by assumption), rfl⟩ | exact .inr ⟨_, by assumption, rfl⟩ | exact .inr ⟨_, SqT.of (by assumption), rfl⟩, q'⟩) ea_nil)) (by rw [List.length_map]; omega) (for_range (fun i σ H' => ∃ (L : T3 → List P4) (kvn : List (List Key × V)) (x3 x5 x6 x7 : Option V), σ = [some (.ref a), some (.ref p), some (.ref d), x3, some (.ref sn), x5, x6, x7] ∧ Same H H' ∧ H' d = some (.dT kvs) ∧ H' sn = some (.dT kvn) ∧ kvn.length ≤ i ∧ LkI H H' kvs sps lA L ∧ (∀ x ∈ sps, ∀ y ∈ L x, y.1 ∈ sps) ∧ (∀ x ∈ sps, ((L x).map (·.1)).Nodup) ∧ ∀ (i j : Nat) x y, sps[i]? = some x → sps[j]? = some y → y ∈ (L x).map (·.1) → (valV kvn (iK [(i : Int), (j : Int)])).isSome = true)
      ⟨fun _ => [], [], _, _, _, _, rfl, s5, ed, es5, Nat.le_refl _, lk, (fun _ _ _ h => nomatch h), (fun _ _ => .nil), fun _ _ _ _ _ _ h => nomatch h⟩ ?_ ?_)
    · rintro i σ H6 hi ⟨L, kvn, x3, x5, x6, x7, rfl, s6, ed, en, hkn, lk, lm, ln, lsn⟩
      rw [List.length_map] at hi
      refine gn ?_
      have k0 : 3 + i < ns.length := by omega
      have ha6 := s6.seq ha
      have hs6 := hs.same s6
      have lsp := hs6.ls
      have mx : ∀ {σ : St} {pr : Int} {Q : VK}, 0 < pr → pr < 10000000 → σ[0]? = some (some (.ref a)) → σ[5]? = some (some (.int (3 + i))) → (∀ v : Int, Q (.int v) H6) → tCall spMix [] E0 (tCons (tOp (rIxL K) (tVar 0) (tVar 5)) (tCons (tVar 5) (tCons (tC (.int pr)) tNil))) σ H6 Q := fun h1 h2 h3 h4 z =>
        te_cal (ea_cons (ev_ixL (v := .int ns[3 + i]) (ev_var h3) (ev_var h4) ha6 (atI_nat (j := 3 + i) (by simp [k0]))) (ea_cons (ev_var h4) (ea_cons ev_c ea_nil))) ⟨_, _, _, rfl, h1, h2, by omega, by omega, z⟩
      refine te_modl (N := (as.map V.ref).length) (fun Q z => mx (by decide) (by decide) rfl rfl z) (ev_cb (ea_cons (ev_var rfl) ea_nil) fun Q' q' => ⟨_, _, rfl, by first | exact .inl ⟨_, by assumption, rfl⟩ | exact .inl ⟨_, SqL.of (by assumption), rfl⟩ | exact .inr ⟨_, by assumption, rfl⟩ | exact .inr ⟨_, SqT.of (by assumption), rfl⟩, q'⟩) (by rw [List.length_map]; omega) fun j1 hj1 => ?_
      refine te_modl (N := (as.map V.ref).length) (fun Q z => mx (by decide) (by decide) rfl rfl z) (ev_cb (ea_cons (ev_var rfl) ea_nil) fun Q' q' => ⟨_, _, rfl, by first | exact .inl ⟨_, by assumption, rfl⟩ | exact .inl ⟨_, SqL.of (by assumption), rfl⟩ | exact .inr ⟨_, by assumption, rfl⟩ | exact .inr ⟨_, SqT.of (by assumption), rfl⟩, q'⟩) (by rw [List.length_map]; omega) fun j2 hj2 => ?_
      rw [List.length_map] at hj1 hj2
      obtain ⟨b1, x1, eb1, hb1, hx1, xm1, t1⟩ := hs6.at (i := j1) (x := .ref as[j1]) (by rw [List.getElem?_map, List.getElem?_eq_getElem hj1]; rfl)
      obtain ⟨b2, x2, eb2, hb2, hx2, xm2, t2⟩ := hs6.at (i := j2) (x := .ref as[j2]) (by rw [List.getElem?_map, List.getElem?_eq_getElem hj2]; rfl)
      refine ⟨_, rfl, _, rfl, rfl, _, rfl, ?_⟩
      by_cases e12 : j1 = j2
      · rw [show (!decide (V.int (j1 : Nat) = V.int (j2 : Nat))) = false by rw [e12]; simp]
        refine iteF ?_
        refine iteF ?_
        exact ⟨L, kvn, _, _, _, _, rfl, s6, ed, en, by omega, lk, lm, ln, lsn⟩
      rw [show (!decide (V.int (j1 : Nat) = V.int (j2 : Nat))) = true by simp; omega]
      refine iteT ?_
      refine ⟨_, rfl, _, rfl, by show 2 ≤ sizeLine; decide, fun t nt => ?_⟩
      have s7 : Same H6 (upd H6 t (.tup [.int j1, .int j2])) := (Same.refl H6).upd nt
      have e7 : upd H6 t (.tup [.int j1, .int j2]) t = some (.tup (([(j1 : Int), (j2 : Int)] : T3).map V.int)) := upd_same
      revert s7 e7
      generalize upd H6 t (.tup [.int j1, .int j2]) = H7
      intro s7 e7
      refine ⟨_, rfl, sn, _, rfl, dg (.inl (s7 _ _ en)) e7, _, rfl, ?_⟩
      have S7 := s6.trans s7
      cases hv : (valV kvn (iK [(j1 : Int), (j2 : Int)])).isSome with
      | true =>
        refine iteF ?_
        exact ⟨L, kvn, _, _, _, _, rfl, S7, s7 _ _ ed, s7 _ _ en, by omega, lk.same' s7, lm, ln, lsn⟩
      | false =>
        refine iteT ?_
        refine ⟨_, rfl, _, rfl, _, rfl, by show 2 ≤ sizeLine; decide, fun u nu => ?_⟩
        have s8 : Same H7 (upd H7 u (.tup [.int j1, .int j2])) := (Same.refl H7).upd nu
        have e8 : upd H7 u (.tup [.int j1, .int j2]) u = some (.tup (([(j1 : Int), (j2 : Int)] : T3).map V.int)) := upd_same
        revert s8 e8
        generalize upd H7 u (.tup [.int j1, .int j2]) = H8
        intro s8 e8
        have en8 := s8 _ _ (s7 _ _ en)
        refine ⟨sn, _, rfl, DPut.t en8 (iK_at e8) (small1000 (by omega)), ?_⟩
        have lk8 := (lk.same' s7).same' s8
        have kn : ∀ b o, (∀ kv, o ≠ .dT kv) → H8 b = some o → upd H8 sn (.dT (putK kvn (iK [(j1 : Int), (j2 : Int)]) (.bl true))) b = some o := fun b o no eb => by rw [upd_ne (ne_of eb en8 (no _))]; exact eb
        have s9 : Same H (upd H8 sn (.dT (putK kvn (iK [(j1 : Int), (j2 : Int)]) (.bl true)))) := same_at (S7.trans s8) hsn
        have en9 : upd H8 sn (.dT (putK kvn (iK [(j1 : Int), (j2 : Int)]) (.bl true))) sn = some (.dT (putK kvn (iK [(j1 : Int), (j2 : Int)]) (.bl true))) := upd_same
        have ed9 : upd H8 sn (.dT (putK kvn (iK [(j1 : Int), (j2 : Int)]) (.bl true))) d = some (.dT kvs) := by rw [upd_ne dsn]; exact s8 _ _ (s7 _ _ ed)
        have lk9 : LkI H (upd H8 sn (.dT (putK kvn (iK [(j1 : Int), (j2 : Int)]) (.bl true)))) kvs sps lA L := ⟨lk8.va, lk8.fr, fun x hx => by
          obtain ⟨bs, h1, h2⟩ := lk8.at' x hx
          exact ⟨bs, kn _ _ (fun _ z => nomatch z) h1, Prs.tups h2 fun b ys e => kn _ _ (fun _ z => nomatch z) e⟩, lk8.inj⟩
        revert s9 en9 ed9 lk9
        generalize upd H8 sn (.dT (putK kvn (iK [(j1 : Int), (j2 : Int)]) (.bl true))) = H9
        intro s9 en9 ed9 lk9
        have ha9 := s9.seq ha
        have lsp9 := s9.seq hs.ls
        obtain ⟨_, _, eb1', _, hx1', _, t1'⟩ := (hs.same s9).at (i := j1) (x := .ref as[j1]) (by rw [List.getElem?_map, List.getElem?_eq_getElem hj1]; rfl)
        obtain ⟨_, _, eb2', _, hx2', _, t2'⟩ := (hs.same s9).at (i := j2) (x := .ref as[j2]) (by rw [List.getElem?_map, List.getElem?_eq_getElem hj2]; rfl)
        cases eb1'
        cases eb2'
        rw [hx1] at hx1'; cases hx1'
        rw [hx2] at hx2'; cases hx2'
        obtain ⟨bs, hl1, hl2⟩ := lk9.at' x1 xm1
        have g : DGet H9 d (.ref as[j1]) (some (.ref (lA x1))) := by rw [← lk9.va x1 xm1]; exact dg (.inl ed9) t1'
        have lb : bs.length ≤ 12 := by
          have e1 : bs.length = (L x1).length := Paired.length hl2
          have := nd_sub_len (ln x1 xm1) fun y hy => by obtain ⟨q, hq, rfl⟩ := List.mem_map.mp hy; exact lm x1 xm1 q hq
          rw [List.length_map] at this
          omega
        refine (ev_dget (ev_var rfl) (ev_ixL (v := .ref as[j1]) (ev_var rfl) (ev_var rfl) lsp9 (atI_nat (by rw [List.getElem?_map, List.getElem?_eq_getElem hj1]; rfl))) g) _ ⟨.inl ⟨rfl, _, SqL.of hl1⟩, te_tup (ea_cons (ev_ixL (v := .ref as[j2]) (ev_var rfl) (ev_var rfl) lsp9 (atI_nat (by rw [List.getElem?_map, List.getElem?_eq_getElem hj2]; rfl))) (ea_cons (ev_I (ev_I (ev_ixL (v := .int ns[3 + i]) (ev_var rfl) (ev_var rfl) ha9 (atI_nat (j := 3 + i) (by simp [k0]))) ev_c (by constructor <;> decide)) (ev_I0 (ev_I ev_c ev_c ⟨by decide, by decide, by decide⟩) ev_c) (by show (0 : Int) < 10 ^ (12 : Int).toNat + 1; decide)) ea_nil)) (by show 2 ≤ sizeLine; decide) fun w nw => ⟨lA x1, _, _, rfl, rfl, (by rw [upd_ne (ne_of_none hl1 nw)]; exact hl1), (by rw [List.length_map]; exact small1000 (by omega)), ?_⟩⟩
        generalize ns[3 + i] / 3 % (10 ^ (12 : Int).toNat + 1) = pr
        have s10 : Same H9 (upd H9 w (.tup [.ref as[j2], .int pr])) := (Same.refl H9).upd nw
        have e10 : upd H9 w (.tup [.ref as[j2], .int pr]) w = some (.tup [.ref as[j2], .int pr]) := upd_same
        revert s10 e10
        generalize upd H9 w (.tup [.ref as[j2], .int pr]) = H10
        intro s10 e10
        have hl10 := s10 _ _ hl1
        have lk10 := lk9.same' s10
        have tk : ∀ b ys, H10 b = some (.tup ys) → upd H10 (lA x1) (.lst (bs.map V.ref ++ [.ref w])) b = some (.tup ys) := fun b ys eb => by rw [upd_ne (ne_of eb hl10 (by intro z; cases z))]; exact eb
        have x2n : x2 ∉ (L x1).map (·.1) := fun hm => by have := lsn j1 j2 x1 x2 hx1 hx2 hm; rw [hv] at this; cases this
        refine ⟨fun z => if z = x1 then L x1 ++ [(x2, pr)] else L z, _, _, _, _, _, rfl, same_at (s9.trans s10) (lk10.fr x1 xm1), (by rw [upd_ne (ne_of (s10 _ _ ed9) hl10 (by intro z; cases z))]; exact s10 _ _ ed9), (by rw [upd_ne (ne_of (s10 _ _ en9) hl10 (by intro z; cases z))]; exact s10 _ _ en9), ?_, ⟨lk10.va, lk10.fr, fun z hz => ?_, lk10.inj⟩, fun z hz y hy => ?_, fun z hz => ?_, fun i' j' x y hx hy hm => ?_⟩
        · have := length_putK kvn (iK [(j1 : Int), (j2 : Int)]) (.bl true); omega
        · by_cases e : z = x1
          · subst e
            rw [if_pos rfl]
            exact ⟨bs ++ [w], by rw [upd_same, List.map_append]; rfl, prs_app (Prs.tups (Prs.same hl2 s10) tk) (.cons ⟨as[j2], tk _ _ e10, tk _ _ (s10 _ _ t2')⟩ .nil)⟩
          · rw [if_neg e]
            obtain ⟨bz, h1, h2⟩ := lk10.at' z hz
            exact ⟨bz, by rw [upd_ne (fun w => e (lk10.inj z hz x1 xm1 w))]; exact h1, Prs.tups h2 tk⟩
        · dsimp only at hy
          by_cases e : z = x1
          · subst e
            rw [if_pos rfl] at hy
            rcases List.mem_append.mp hy with h | h
            · exact lm z hz y h
            · rw [List.mem_singleton.mp h]; exact xm2
          · rw [if_neg e] at hy
            exact lm z hz y hy
        · dsimp only
          by_cases e : z = x1
          · subst e
            rw [if_pos rfl, List.map_append, List.nodup_append]
            exact ⟨ln z hz, by simp, fun u hu v hv w => x2n (by rw [show x2 = u from (w.trans (List.mem_singleton.mp hv)).symm]; exact hu)⟩
          · rw [if_neg e]
            exact ln z hz
        · dsimp only at hm
          rw [vput]
          by_cases e : ([(i' : Int), (j' : Int)] : T3) = [(j1 : Int), (j2 : Int)]
          · rw [if_pos e]; rfl
          · rw [if_neg e]
            by_cases ex : x = x1
            · subst ex
              rw [if_pos rfl, List.map_append] at hm
              rcases List.mem_append.mp hm with h | h
              · exact lsn i' j' x y hx hy h
              · have hy2 : y = x2 := List.mem_singleton.mp h
                subst hy2
                exfalso
                apply e
                have a1 : i' = j1 := (List.getElem?_inj (by have := (List.getElem?_eq_some_iff.mp hx).1; exact this) hs.nd).mp (hx.trans hx1.symm)
                have a2 : j' = j2 := (List.getElem?_inj (by have := (List.getElem?_eq_some_iff.mp hy).1; exact this) hs.nd).mp (hy.trans hx2.symm)
                rw [a1, a2]
            · rw [if_neg ex] at hm
              exact lsn i' j' x y hx hy hm
    · rintro σ H6 ⟨L, kvn, x3, x5, x6, x7, rfl, s6, ed, en, hkn, lk, lm, ln, lsn⟩
      refine ⟨_, rfl, q d H6 kvs L s6 nd ed ⟨fun x hx => ?_, lm, ln, hs.sp, fun x hx => ?_⟩⟩
      · obtain ⟨bs, h1, h2⟩ := lk.at' x hx
        exact ⟨_, bs, lk.va x hx, h1, h2⟩
      · have := nd_sub_len (ln x hx) fun y hy => by obtain ⟨q, hq, rfl⟩ := List.mem_map.mp hy; exact lm x hx q hq
        rw [List.length_map] at this
        exact Nat.le_trans this hs.l12
theorem ok_Lying {f : Addr} {fd : FuncData} (F : Fun K "_law_lying" "_law_lying" sLying f fd) (T : Txt K mg) (gCell : Callee P w K mg base "_law_cell_at" 1 ["_law_script", "_law_k"] (spCell K)) : FnOk P w K mg base CX0 2 f fd ["_law_script", "_law_spots_here", "_law_links_here"] (spLying K) := by
  have sc : FnScope ["_law_script", "_law_spots_here", "_law_links_here", "_law_comes", "_law_begins", "_law_shift", "_law_k", "_law_pair"] ["_law_script", "_law_spots_here", "_law_links_here"] (defScope sLying) := ⟨rfl, rfl, rfl, by decide +kernel, rfl, by decide +kernel, by decide +kernel⟩
  refine F.ok sc (fun vs H Q E h => by repeat (first | (obtain ⟨rfl, _⟩ := h; rfl) | (obtain ⟨_, h⟩ := h))) (fun cdv A outer s H vs Q E hr h => ?_)
  obtain ⟨a, p, d, ns, n, as, sps, kvs, L, rfl, ha, hs, hd, hL, q⟩ := h
  refine ⟨_, (pss_cons (ps_set (i := 3) sc.nd rfl (Or.inl rfl) pe_dnewT)
  (pss_cons (ps_set (i := 4) sc.nd rfl (Or.inl rfl) pe_dnewT)
  (pss_cons (ps_set (i := 5) sc.nd rfl (Or.inl rfl) (pe_op op_mod (pe_cal gCell (hr.mono (by decide)) (by rfl) (pa_cons (pv 0) (pa_cons pe_int pa_nil))) pe_int))
  (pss_cons (ps_for PassesOwn.never rfl (pi_range1 (by rfl) T.range_ (pa_cons (pe_callB call_len (by rfl) T.len_ bt_len (pa_cons (pv 1) pa_nil)) pa_nil)) (pg_name (i := 6) sc.nd rfl (Or.inl rfl))
  (pss_one (ps_for PassesOwn.never rfl (pi_list (pe_dget (Room.one hr) (pv 2) (pe_ix ix_list (pv 1) (pv 6) (fun _ _ => rfl)) (fun _ _ => rfl))) (pg_name (i := 7) sc.nd rfl (Or.inl rfl))
  (pss_one (ps_if (pw_and (pt_cmpR (op_inT hr) (pe_ix ix_tup (pv 7) pe_int (fun _ _ => rfl)) (pe_slice sl_list (pv 1) (po_some (pe_op op_add (pv 6) pe_int)) po_none) (by with_unfolding_all rfl)) (pw_and (pt_cmp (pc_dnotin (Room.one hr) (pe_ix ix_tup (pv 7) pe_int (fun _ _ => rfl)) (pv 3))) (pw_and (pt_cmp (pc_dnotin (Room.one hr) (pe_ix ix_list (pv 1) (pv 6) (fun _ _ => rfl)) (pv 4))) (pw_and1 (pt_cmpR op_gt (pe_op op_mod (pe_op op_add (pv 6) (pv 5)) pe_int) pe_int (nomark _)))))).pt
  (pss_cons (ps_dput (Room.one hr) (pv 3) (pe_ix ix_tup (pv 7) pe_int (fun _ _ => rfl)) (pe_ix ix_list (pv 1) (pv 6) (fun _ _ => rfl)) (by rfl))
  (pss_one (ps_dput (Room.one hr) (pv 4) (pe_ix ix_list (pv 1) (pv 6) (fun _ _ => rfl)) pe_bl (by rfl))))
  pss_nil)))))
  (pss_cons (ps_for PassesOwn.never rfl (pi_range1 (by rfl) T.range_ (pa_cons (pe_callB call_len (by rfl) T.len_ bt_len (pa_cons (pv 1) pa_nil)) pa_nil)) (pg_name (i := 6) sc.nd rfl (Or.inl rfl))
  (pss_one (ps_if (pw_and (pt_cmp (pc_dnotin (Room.one hr) (pe_ix ix_list (pv 1) (pv 6) (fun _ _ => rfl)) (pv 3))) (pw_and1 (pw_or (pt_cmp (pc_din (Room.one hr) (pe_ix ix_list (pv 1) (pv 6) (fun _ _ => rfl)) (pv 4))) (pw_or1 (pt_cmpR op_eq (pe_op op_mod (pe_op op_add (pv 6) (pv 5)) pe_int) pe_int (nomark _)))).pt)).pt
  (pss_one (ps_dput (Room.one hr) (pv 3) (pe_ix ix_list (pv 1) (pv 6) (fun _ _ => rfl)) pe_non (by rfl)))
  pss_nil)))
  (pss_one (ps_ret (pv 3)))))))), ?_⟩
  have la : as.length = sps.length := Paired.length hs.tp
  have l2 := hs.l2
  have l12 := hs.l12
  refine sq_asg fun c nc => ?_
  have s1 : Same H (upd H c (.dT [])) := (Same.refl H).upd nc
  have e1 : upd H c (.dT []) c = some (.dT []) := upd_same
  revert s1 e1
  generalize upd H c (.dT []) = H1
  intro s1 e1
  refine sq_asg fun b nb => ?_
  have s2 : Same H1 (upd H1 b (.dT [])) := (Same.refl H1).upd nb
  have e2 : upd H1 b (.dT []) b = some (.dT []) := upd_same
  have cb : c ≠ b := ne_of_none e1 nb
  have hnb : H b = none := s1.free nb
  revert s2 e2
  generalize upd H1 b (.dT []) = H2
  intro s2 e2
  have e3 := s2 _ _ e1
  have s3 := s1.trans s2
  refine te_cal (ea_cons (ev_var rfl) (ea_cons ev_c ea_nil)) ⟨a, ns, 2, rfl, s3.seq ha, by decide, fun v => ⟨v, 5, rfl, rfl, (by show (0 : Int) < 5; decide), ?_⟩⟩
  dsimp only
  generalize v % 5 = sh
  have spK : ∀ {H' : Hp} {i : Nat} {σ : St} {ts ti : TE}, Same H H' → Ev ts σ H' (.ref p) → Ev ti σ H' (.int i) → i < sps.length → ∃ (b : Addr) (x : T3), sps[i]? = some x ∧ x ∈ sps ∧ H' b = some (.tup (x.map V.int)) ∧ Ev (tOp (rIxL K) ts ti) σ H' (.ref b) := fun {H'} {i} {σ} {ts} {ti} s h1 h2 hi => by
    have hi' : i < as.length := by omega
    obtain ⟨b, x, eb, _, hx, xm, g⟩ := (hs.same s).at (i := i) (x := .ref as[i]) (by rw [List.getElem?_map, List.getElem?_eq_getElem hi']; rfl)
    refine ⟨b, x, hx, xm, g, ?_⟩
    rw [← eb]
    exact ev_ixL h1 h2 (s.seq hs.ls) (atI_nat (by rw [List.getElem?_map, List.getElem?_eq_getElem hi']; rfl))
  have lsp := s3.seq hs.ls
  refine sq_rng1 (ea_cons (ev_cb (ea_cons (ev_var rfl) ea_nil) fun Q' q' => ⟨_, _, rfl, by first | exact .inl ⟨_, by assumption, rfl⟩ | exact .inl ⟨_, SqL.of (by assumption), rfl⟩ | exact .inr ⟨_, by assumption, rfl⟩ | exact .inr ⟨_, SqT.of (by assumption), rfl⟩, q'⟩) ea_nil) (by rw [List.length_map]; omega) (by rw [List.length_map]; omega) (for_range (fun i σ H' => ∃ (kvc kvb : List (List Key × V)) (C : Cm T3) (B : T3 → Prop) (x6 x7 : Option V), σ = [some (.ref a), some (.ref p), some (.ref d), some (.ref c), some (.ref b), some (.int sh), x6, x7] ∧ Same H H' ∧ H' c = some (.dT kvc) ∧ CmAt H' n kvc C ∧ H' b = some (.dT kvb) ∧ OnAt n kvb B ∧ ∀ x y, C x = some (some y) → y ∈ sps)
    ⟨[], [], fun _ => none, fun _ => False, none, none, rfl, s3, e3, cm_nil, e2, ⟨.nil, (fun _ h => nomatch h), fun x => ⟨(fun h => nomatch h), fun h => h.elim⟩⟩, fun _ _ h => nomatch h⟩ ?_ ?_)
  · rintro i σ H5 hi ⟨kvc, kvb, C, B, x6, x7, rfl, s5, ec, hc, eb, ob, lm⟩
    rw [List.length_map, la] at hi
    rw [Int.zero_add]
    refine gn ?_
    have hi : i < sps.length := by omega
    obtain ⟨bk, xk, hxk, xmk, gk, evk⟩ := spK (ts := tVar 1) (ti := tVar 6) (σ := [some (.ref a), some (.ref p), some (.ref d), some (.ref c), some (.ref b), some (.int sh), some (.int i), x7]) s5 (ev_var rfl) (ev_var rfl) hi
    obtain ⟨l, bs, hv, hll, ht⟩ := hL.at' xk xmk
    have g : DGet H5 d (.ref bk) (some (.ref l)) := by rw [← hv]; exact dg (.inl (s5 _ _ hd)) gk
    refine ev_dget (ev_var rfl) evk g _ ⟨l, rfl, ⟨_, s5.seq (SqL.of hll)⟩, for_list (K := K) (a := l) (xs := bs.map V.ref) (fun j σ H' => ∃ (kvc kvb : List (List Key × V)) (C : Cm T3) (B : T3 → Prop) (x7 : Option V), σ = [some (.ref a), some (.ref p), some (.ref d), some (.ref c), some (.ref b), some (.int sh), some (.int i), x7] ∧ Same H H' ∧ H' c = some (.dT kvc) ∧ CmAt H' n kvc C ∧ H' b = some (.dT kvb) ∧ OnAt n kvb B ∧ ∀ x y, C x = some (some y) → y ∈ sps)
      ⟨kvc, kvb, C, B, _, rfl, s5, ec, hc, eb, ob, lm⟩ (fun j σ H' _ ⟨_, _, _, _, _, _, s, _⟩ => s.seq (SqL.of hll)) ?_ ?_⟩
    · clear hc ob lm ec eb s5 g evk gk
      rintro j y σ H6 hj ⟨kvc, kvb, C, B, x7, rfl, s6, ec, hc, eb, ob, lm⟩
      have hjb : j < bs.length := by have := (List.getElem?_eq_some_iff.mp hj).1; rwa [List.length_map] at this
      have hy : y = .ref bs[j] := by
        rw [List.getElem?_map, List.getElem?_eq_getElem hjb] at hj
        exact (Option.some.inj hj).symm
      subst hy
      obtain ⟨pr, ep, cp, g1, g2⟩ := prs_at (Prs.same ht s6) (i := j) (b := bs[j]) (by simp [hjb])
      obtain ⟨x, price⟩ := pr
      have xm : x ∈ sps := hL.mem xk xmk _ (List.mem_of_getElem? ep)
      have g2 : H6 cp = some (.tup (x.map V.int)) := g2
      refine gn ?_
      dsimp only
      refine (ev_ixT (v := .ref cp) (ev_var rfl) ev_c (SqT.of g1) rfl) _ ⟨_, rfl, _, rfl, _, _, rfl, rfl, _, rfl, p, _, rfl, s6.seq hs.ls, fun sl nsl => ?_⟩
      obtain ⟨us, cs, hcut, hus⟩ := cut_from (hs.tp.same s6) i
      have hcut : cutV (as.map V.ref) (some ((i : Int) + 1)) none = us.map V.ref := hcut
      have s7 : Same H6 (upd H6 sl (.lst (cutV (as.map V.ref) (some ((i : Int) + 1)) none))) := (Same.refl H6).upd nsl
      have e7 : upd H6 sl (.lst (cutV (as.map V.ref) (some ((i : Int) + 1)) none)) sl = some (.lst (us.map V.ref)) := by rw [upd_same, hcut]
      revert s7 e7
      generalize upd H6 sl (.lst (cutV (as.map V.ref) (some ((i : Int) + 1)) none)) = H7
      intro s7 e7
      refine ⟨cp, sl, us, x, cs, rfl, rfl, s7 _ _ g2, SqL.of e7, hus.same s7, _, rfl, ?_⟩
      have s7' := s6.trans s7
      have ec7 := s7 _ _ ec
      have eb7 := s7 _ _ eb
      have hc7 := hc.same s7
      have g7 := s7 _ _ g2
      have gp7 := s7 _ _ g1
      by_cases mc : x ∈ cs
      · rw [decide_eq_true mc]
        refine iteT ?_
        obtain ⟨bk, xk', hxk', _, gk, evk⟩ := spK (ts := tVar 1) (ti := tVar 6) (σ := [some (.ref a), some (.ref p), some (.ref d), some (.ref c), some (.ref b), some (.int sh), some (.int i), some (.ref bs[j])]) s7' (ev_var rfl) (ev_var rfl) hi
        rw [hxk] at hxk'
        cases hxk'
        have gc := dg (.inl ec7) g7
        have gb := dg (.inl eb7) gk
        have evp : Ev (tOp (rIxT K) (tVar 7) (tC (.int 0))) [some (.ref a), some (.ref p), some (.ref d), some (.ref c), some (.ref b), some (.int sh), some (.int i), some (.ref bs[j])] H7 (.ref cp) := ev_ixT (v := .ref cp) (ev_var rfl) ev_c (SqT.of gp7) rfl
        refine rd_if (t := tSeq _ _) (et_and (et_B (ev_dnotin evp (ev_var rfl) gc)) fun _ => et_and (et_B (ev_dnotin evk (ev_var rfl) gb)) fun _ => (et_test (ev_I0 (ev_I (ev_I0 (ev_var rfl) (ev_var rfl)) ev_c (by first | (show (0 : Int) < _; omega) | (show (0 : Int) < _; decide))) ev_c))) (fun w => ?_) (fun _ => ⟨kvc, kvb, C, B, _, rfl, s7', ec7, hc7, eb7, ob, lm⟩)
        refine sq_dput evk (ev_var rfl) evp (DPut.t ec7 (iK_at g7) (small1000 (by have := hc7.len; omega))) ?_
        have tk : ∀ b ys, H7 b = some (.tup ys) → upd H7 c (.dT (putK kvc (iK x) (.ref bk))) b = some (.tup ys) := fun b ys eb => by rw [upd_ne (ne_of eb ec7 (by intro z; cases z))]; exact eb
        have s8 : Same H (upd H7 c (.dT (putK kvc (iK x) (.ref bk)))) := same_at s7' nc
        have ec8 : upd H7 c (.dT (putK kvc (iK x) (.ref bk))) c = some (.dT (putK kvc (iK x) (.ref bk))) := upd_same
        have eb8 : upd H7 c (.dT (putK kvc (iK x) (.ref bk))) b = some (.dT kvb) := by rw [upd_ne cb.symm]; exact eb7
        have hc8 := (hc7.put (hs.sp x xm) (.inr ⟨xk, bk, rfl, rfl, hs.sp xk xmk, gk⟩)).tups tk
        revert s8 ec8 eb8 hc8
        generalize upd H7 c (.dT (putK kvc (iK x) (.ref bk))) = H8
        intro s8 ec8 eb8 hc8
        obtain ⟨bk2, xk', hxk', _, gk2, evk2⟩ := spK (ts := tVar 1) (ti := tVar 6) (σ := [some (.ref a), some (.ref p), some (.ref d), some (.ref c), some (.ref b), some (.int sh), some (.int i), some (.ref bs[j])]) s8 (ev_var rfl) (ev_var rfl) hi
        rw [hxk] at hxk'
        cases hxk'
        refine rd_dput ev_c (ev_var rfl) evk2 (DPut.t eb8 (iK_at gk2) (small1000 (by have := keys13 ob.nd ob.sp; omega))) ?_
        refine ⟨_, _, _, _, _, rfl, same_at s8 hnb, (by rw [upd_ne cb]; exact ec8), hc8.tups (fun b ys eb => by rw [upd_ne (ne_of eb eb8 (by intro z; cases z))]; exact eb), upd_same, ob.put (S' := fun z => B z ∨ z = xk) (hs.sp xk xmk) _ (fun _ => Iff.rfl), fun z y e => ?_⟩
        by_cases w : z = x
        · rw [if_pos w] at e; cases e; exact xmk
        · rw [if_neg w] at e; exact lm z y e
      · rw [decide_eq_false mc]
        refine iteF ?_
        refine iteF ?_
        exact ⟨kvc, kvb, C, B, _, rfl, s7', ec7, hc7, eb7, ob, lm⟩
    · rintro σ H6 ⟨kvc, kvb, C, B, x7, rfl, s6, ec, hc, eb, ob, lm⟩
      exact ⟨kvc, kvb, C, B, _, _, rfl, s6, ec, hc, eb, ob, lm⟩
  · rintro σ H5 ⟨kvc, kvb, C, B, x6, x7, rfl, s5, ec, hc, eb, ob, lm⟩
    have lsp5 := s5.seq hs.ls
    dsimp only
    refine sq_rng1 (ea_cons (ev_cb (ea_cons (ev_var rfl) ea_nil) fun Q' q' => ⟨_, _, rfl, by first | exact .inl ⟨_, by assumption, rfl⟩ | exact .inl ⟨_, SqL.of (by assumption), rfl⟩ | exact .inr ⟨_, by assumption, rfl⟩ | exact .inr ⟨_, SqT.of (by assumption), rfl⟩, q'⟩) ea_nil) (by rw [List.length_map]; omega) (by rw [List.length_map]; omega) (for_range (fun i σ H' => ∃ (kvc : List (List Key × V)) (C' : Cm T3) (x6 : Option V), σ = [some (.ref a), some (.ref p), some (.ref d), some (.ref c), some (.ref b), some (.int sh), x6, x7] ∧ Same H H' ∧ H' c = some (.dT kvc) ∧ CmAt H' n kvc C' ∧ H' b = some (.dT kvb) ∧ ∀ x y, C' x = some (some y) → y ∈ sps)
      ⟨kvc, C, _, rfl, s5, ec, hc, eb, lm⟩ ?_ ?_)
    · clear hc ec eb
      rintro i σ H6 hi ⟨kvc, C', x6, rfl, s6, ec, hc, eb, c1⟩
      rw [List.length_map, la] at hi
      rw [Int.zero_add]
      refine gn ?_
      have hi : i < sps.length := by omega
      obtain ⟨bk, xk, hxk, xmk, gk, evk⟩ := spK (ts := tVar 1) (ti := tVar 6) (σ := [some (.ref a), some (.ref p), some (.ref d), some (.ref c), some (.ref b), some (.int sh), some (.int i), x7]) s6 (ev_var rfl) (ev_var rfl) hi
      have gc := dg (.inl ec) gk
      have gb := dg (.inl eb) gk
      refine rd_if (et_and (et_B (ev_dnotin evk (ev_var rfl) gc)) fun _ => et_or (et_B (ev_din2 evk (ev_var rfl) gb)) fun _ => (et_test (ev_eqI (ev_I (ev_I0 (ev_var rfl) (ev_var rfl)) ev_c (by first | (show (0 : Int) < _; omega) | (show (0 : Int) < _; decide))) ev_c))) (fun w => ?_) (fun w => ?_)
      · refine rd_dput ev_c (ev_var rfl) evk (DPut.t ec (iK_at gk) (small1000 (by have := hc.len; omega))) ?_
        refine ⟨_, _, _, rfl, same_at s6 nc, upd_same, (hc.put (hs.sp xk xmk) (.inl ⟨rfl, rfl⟩)).tups (fun b ys eb => by rw [upd_ne (ne_of eb ec (by intro z; cases z))]; exact eb), (by rw [upd_ne cb.symm]; exact eb), fun z y e => ?_⟩
        by_cases w : z = xk
        · rw [if_pos w] at e; cases e
        · rw [if_neg w] at e; exact c1 z y e
      · exact ⟨kvc, C', _, rfl, s6, ec, hc, eb, c1⟩
    · clear hc ec eb
      rintro σ H6 ⟨kvc, C', x6, rfl, s6, ec, hc, eb, c1⟩
      exact ⟨_, rfl, q c H6 kvc C' s6 nc ec hc c1⟩
theorem ok_Mark {f : Addr} {fd : FuncData} (F : Fun K "_law_mark" "_law_mark" sMark f fd) (T : Txt K mg) : FnOk P w K mg base CX0 1 f fd ["_law_spot", "_law_side"] spMark := by
  have sc : FnScope ["_law_spot", "_law_side"] ["_law_spot", "_law_side"] (defScope sMark) := ⟨rfl, rfl, rfl, by decide +kernel, rfl, by decide +kernel, by decide +kernel⟩
  refine F.ok sc (fun vs H Q E h => by repeat (first | (obtain ⟨rfl, _⟩ := h; rfl) | (obtain ⟨_, h⟩ := h))) (fun cdv A outer s H vs Q E hr h => ?_)
  obtain ⟨b, x, d, i, rfl, hi, hl, hb, q⟩ := h
  refine ⟨_, (pss_one (ps_ret (pe_op op_catT (pv 0) (pe_tup (pa_cons (pv 1) pa_nil))))), ?_⟩
  refine ⟨_, rfl, _, rfl, by show 1 ≤ sizeLine; decide, fun t ht => ⟨b, t, x.map V.int, [.int i], rfl, rfl, SqT.of (by rw [upd_ne (ne_of_none hb ht)]; exact hb), SqT.of upd_same, ?_, ?_, (fun z => by cases z), fun _ p hp => ?_⟩⟩
  · intro z; rw [List.map_eq_nil_iff.mp z] at hl; cases hl
  · rw [List.length_map, hl]; show 4 ≤ sizeLine; decide
  · have s1 : Same H (upd H t (.tup [.int i])) := (Same.refl H).upd ht
    rw [hi, mkI_cat]
    rw [hi] at s1 hp
    exact q p _ (s1.upd hp) (s1.free hp) upd_same
theorem ok_Due {f : Addr} {fd : FuncData} (F : Fun K "_law_due" "_law_due" sDue f fd) (T : Txt K mg) (gMark : Callee P w K mg base "_law_mark" 1 ["_law_spot", "_law_side"] spMark) : FnOk P w K mg base CX0 2 f fd ["_law_links_here", "_law_comes", "_law_spot", "_law_side"] (spDue K) := by
  have sc : FnScope ["_law_links_here", "_law_comes", "_law_spot", "_law_side", "_law_due_here", "_law_pair"] ["_law_links_here", "_law_comes", "_law_spot", "_law_side"] (defScope sDue) := ⟨rfl, rfl, rfl, by decide +kernel, rfl, by decide +kernel, by decide +kernel⟩
  refine F.ok sc (fun vs H Q E h => by repeat (first | (obtain ⟨rfl, _⟩ := h; rfl) | (obtain ⟨_, h⟩ := h))) (fun cdv A outer s H vs Q E hr h => ?_)
  obtain ⟨d, e, b, n, sps, kvs, kvs', L, C, x, sd, i, rfl, hi, hd, hL, he, hC, hdom, hx, hb, q⟩ := h
  refine ⟨_, (pss_cons (ps_if (pt_cmpR op_eq (pv 3) pe_int (nomark _))
  (pss_cons (ps_lcset (i := 4) (ls := ["_law_pair"]) (ys := []) (ix := []) rfl sc.nd rfl (Or.inl rfl) ⟨rfl, by rfl, by rfl, by rfl, by rfl, rfl⟩ (pi_list (pe_dget (Room.one hr) (pv 0) (pv 2) (fun _ _ => rfl))) (fun _ _ _ _ _ => (pg_name (i := 0) (show (["_law_pair"] : List Str).Nodup by decide +kernel) rfl (Or.inl rfl))) (fun _ _ _ _ _ => pf_nil) (fun _ _ _ _ _ => (pe_tup (pa_cons (pe_cal (by exact gMark) (by exact (hr.mono (by decide))) (by rfl) (pa_cons (pe_ix (ix_tupK (K := K) rfl) (pv 0) pe_int (fun _ _ => rfl)) (pa_cons pe_int pa_nil))) (pa_cons (pe_ix (ix_tupK (K := K) rfl) (pv 0) pe_int (fun _ _ => rfl)) pa_nil)))))
  (pss_cons (ps_if (pt_cmp (pc_din (Room.one hr) (pv 2) (pv 1)))
  (pss_one (ps_expr (pe_bm PySem.F.plainAttrs_list PySem.F.slot_list_append PySem.F.type_list_append mt_append (pv 4) (pa_cons (pe_tup (pa_cons (pe_cal gMark (hr.mono (by decide)) (by rfl) (pa_cons (pv 2) (pa_cons pe_int pa_nil))) (pa_cons pe_int pa_nil))) pa_nil))))
  pss_nil)
  (pss_one (ps_ret (pv 4)))))
  pss_nil)
  (pss_cons (ps_if (pt_cmp (pc_dnotin (Room.one hr) (pv 2) (pv 1)))
  (pss_one (ps_ret (pe_lst (pa_cons (pe_tup (pa_cons (pe_cal gMark (hr.mono (by decide)) (by rfl) (pa_cons (pv 2) (pa_cons pe_int pa_nil))) (pa_cons pe_int pa_nil))) pa_nil))))
  pss_nil)
  (pss_cons (ps_if (pt_cmpR op_isN (pe_dget (Room.one hr) (pv 1) (pv 2) (fun _ _ => rfl)) pe_non (nomark _))
  (pss_one (ps_ret (pe_lst pa_nil)))
  pss_nil)
  (pss_cons (ps_for PassesOwn.never rfl (pi_list (pe_dget (Room.one hr) (pv 0) (pe_dget (Room.one hr) (pv 1) (pv 2) (fun _ _ => rfl)) (fun _ _ => rfl))) (pg_name (i := 5) sc.nd rfl (Or.inl rfl))
  (pss_one (ps_if (pt_cmpR (op_eqD hr) (pe_ix ix_tup (pv 5) pe_int (fun _ _ => rfl)) (pv 2) (nomark _))
  (pss_one (ps_ret (pe_lst (pa_cons (pe_tup (pa_cons (pe_cal gMark (hr.mono (by decide)) (by rfl) (pa_cons (pe_dget (Room.one hr) (pv 1) (pv 2) (fun _ _ => rfl)) (pa_cons pe_int pa_nil))) (pa_cons (pe_op op_sub pe_int (pe_ix ix_tup (pv 5) pe_int (fun _ _ => rfl))) pa_nil))) pa_nil))))
  pss_nil)))
  (pss_one (ps_ret (pe_lst pa_nil))))))), ?_⟩
  have l3 : x.length = 3 := (hL.sp x hx).len
  have dep : ∀ y : T3, (PyData.tuple (y.map PyData.int)).depth ≤ 60 := fun y => Nat.le_trans (depth_tints _) (by decide)
  have g := dg (.inl he) hb
  cases sd with
  | true =>
    have hi : i = 1 := hi
    subst hi
    refine sq_if (b := true) (et_of (et_test (ev_eqI (i := 1) (j := 1) (ev_var rfl) ev_c)) rfl) (fun _ => ?_) (fun z => nomatch z)
    obtain ⟨l, bs, hv, hll, ht⟩ := hL.at' x hx
    have gl := dg (.inl hd) hb
    rw [hv] at gl
    have lb : bs.length = (L x).length := Paired.length ht
    have l12 := hL.ln x hx
    refine ⟨_, rfl, _, rfl, d, .ref l, rfl, gl, l, rfl, ⟨_, SqL.of hll⟩, fun D nD => ?_⟩
    refine lc_listG (K := K) (xs := bs.map V.ref) (fun i τ H' => ∃ (x0 : Option V) (rs : List Addr), τ = [x0] ∧ Same H H' ∧ H' D = some (.lst (rs.map V.ref)) ∧ Prs H' rs (((L x).take i).map fun p => (mkI (p.1, false), p.2)) ∧ rs.length ≤ i)
      ⟨none, [], rfl, (Same.refl _).upd nD, upd_same, .nil, Nat.le_refl _⟩ (fun i τ H' _ ⟨_, _, _, s, _⟩ => s.seq (SqL.of hll)) ?_ ?_
    · rintro i v τ H5 hi ⟨x0, rs, rfl, s5, hD, hrs, hrl⟩
      have hib : i < bs.length := by have := (List.getElem?_eq_some_iff.mp hi).1; rwa [List.length_map] at this
      have hv : v = .ref bs[i] := by
        rw [List.getElem?_map, List.getElem?_eq_getElem hib] at hi
        exact (Option.some.inj hi).symm
      subst hv
      obtain ⟨p, ep, cp, g1, g2⟩ := prs_at (Prs.same ht s5) (i := i) (b := bs[i]) (by simp [hib])
      rw [show (L x).take (i + 1) = (L x).take i ++ [p] by rw [List.take_succ, ep]; rfl, List.map_append]
      dsimp only [gName, tYes]
      rw [if_pos rfl]
      have pm := hL.mem x hx p (List.mem_of_getElem? ep)
      refine te_cal (ea_cons (ev_ixT (v := .ref cp) (ev_var rfl) ev_c (SqT.of g1) rfl) (ea_cons ev_c ea_nil)) ⟨cp, p.1, false, 0, rfl, rfl, (hL.sp _ pm).len, g2, fun m H6 s6 nm em => (ev_ixT (v := .int p.2) (ev_var rfl) ev_c (SqT.of (s6 _ _ g1)) rfl) _ ⟨by show 2 ≤ sizeLine; decide, fun t nt => ?_⟩⟩
      have s7 : Same H6 (upd H6 t (.tup [.ref m, .int p.2])) := (Same.refl H6).upd nt
      have e7 : upd H6 t (.tup [.ref m, .int p.2]) t = some (.tup [.ref m, .int p.2]) := upd_same
      revert s7 e7
      generalize upd H6 t (.tup [.ref m, .int p.2]) = H7
      intro s7 e7
      have hD7 := s7 _ _ (s6 _ _ hD)
      refine ⟨_, hD7, (by rw [List.length_map]; exact small1000 (by omega)), _, rs ++ [t], rfl, same_at ((s5.trans s6).trans s7) nD, ?_, ?_, ?_⟩
      · rw [upd_same, List.map_append]; rfl
      · have up : ∀ b' ys, H7 b' = some (.tup ys) → upd H7 D (.lst (rs.map V.ref ++ [.ref t])) b' = some (.tup ys) := fun b' ys eb => by rw [upd_ne (ne_of eb hD7 (by intro z; cases z))]; exact eb
        exact prs_app (Prs.tups (Prs.same (Prs.same hrs s6) s7) up) (.cons ⟨m, up _ _ e7, up _ _ (s7 _ _ em)⟩ .nil)
      · rw [List.length_append]; simp only [List.length_cons, List.length_nil]; omega
    · rintro τ H5 ⟨x0, rs, rfl, s5, hD, hrs, hrl⟩
      rw [List.length_map] at hrl
      rw [List.length_map, lb, List.take_length] at hrs
      have g5 := dg (.inl (s5 _ _ he)) (s5 _ _ hb)
      dsimp only
      refine sq_if (b := (C x).isSome) (et_of (et_B (ev_din2 (ev_var rfl) (ev_var rfl) g5)) (hC.isS x)) (fun hc => ?_) (fun hc => ?_)
      · refine ⟨_, rfl, .inl ⟨rfl, _, SqL.of hD⟩, te_cal (ea_cons (ev_var rfl) (ea_cons ev_c ea_nil)) ⟨b, x, false, 0, rfl, rfl, l3, s5 _ _ hb, fun m H6 s6 nm em => ⟨by show 2 ≤ sizeLine; decide, fun t nt => ?_⟩⟩⟩
        have s7 : Same H6 (upd H6 t (.tup [.ref m, .int 0])) := (Same.refl H6).upd nt
        have e7 : upd H6 t (.tup [.ref m, .int 0]) t = some (.tup [.ref m, .int 0]) := upd_same
        revert s7 e7
        generalize upd H6 t (.tup [.ref m, .int 0]) = H7
        intro s7 e7
        have hD7 := s7 _ _ (s6 _ _ hD)
        refine ⟨D, _, .ref t, rfl, rfl, hD7, (by rw [List.length_map]; exact small1000 (by omega)), ?_⟩
        have up : ∀ b' ys, H7 b' = some (.tup ys) → upd H7 D (.lst (rs.map V.ref ++ [.ref t])) b' = some (.tup ys) := fun b' ys eb => by rw [upd_ne (ne_of eb hD7 (by intro z; cases z))]; exact eb
        refine ⟨_, rfl, q D (rs ++ [t]) _ (same_at ((s5.trans s6).trans s7) nD) nD (by rw [upd_same, List.map_append]; rfl) ?_⟩
        rw [due_door, if_pos hc]
        exact prs_app (Prs.tups (Prs.same (Prs.same hrs s6) s7) up) (.cons ⟨m, up _ _ e7, up _ _ (s7 _ _ em)⟩ .nil)
      · refine ⟨_, rfl, q D rs H5 s5 nD hD ?_⟩
        rw [due_door, if_neg (by rw [hc]; simp), List.append_nil]
        exact hrs
  | false =>
    have hi : i = 0 := hi
    subst hi
    refine sq_if (b := false) (et_of (et_test (ev_eqI (i := 0) (j := 1) (ev_var rfl) ev_c)) rfl) (fun z => nomatch z) (fun _ => ?_)
    cases hc : C x with
    | none =>
      rw [hC.no x hc] at g
      refine sq_if (b := true) (et_B (ev_dnotin (ev_var rfl) (ev_var rfl) g)) (fun _ => ?_) (fun z => nomatch z)
      refine te_cal (ea_cons (ev_var rfl) (ea_cons ev_c ea_nil)) ⟨b, x, true, 1, rfl, rfl, l3, hb, fun m H1 s1 nm em => ⟨by show 2 ≤ sizeLine; decide, fun t nt => ⟨by show 1 ≤ sizeLine; decide, fun l nl => ?_⟩⟩⟩
      have s2 : Same H1 (upd H1 t (.tup [.ref m, .int 0])) := (Same.refl H1).upd nt
      have e2 : upd H1 t (.tup [.ref m, .int 0]) t = some (.tup [.ref m, .int 0]) := upd_same
      revert s2 e2 nl
      generalize upd H1 t (.tup [.ref m, .int 0]) = H2
      intro nl s2 e2
      have s3 : Same H2 (upd H2 l (.lst [.ref t])) := (Same.refl H2).upd nl
      refine q l [t] _ ((s1.trans s2).trans s3) ((s1.trans s2).free nl) upd_same ?_
      rw [due_none hc]
      exact .cons ⟨m, s3 _ _ e2, s3 _ _ (s2 _ _ em)⟩ .nil
    | some o =>
      refine sq_if (b := false) (et_of (et_B (ev_dnotin (ev_var rfl) (ev_var rfl) g)) (by rw [hC.isS, hc]; rfl)) (fun z => nomatch z) (fun _ => ?_)
      cases o with
      | none =>
        rw [hC.fi x hc] at g
        refine sq_if (b := true) (et_test (ev_isN (ev_dget (ev_var rfl) (ev_var rfl) g) ev_c)) (fun _ => ?_) (fun z => nomatch z)
        refine ⟨Nat.zero_le _, fun l nl => ?_⟩
        refine q l [] _ ((Same.refl H).upd nl) nl upd_same ?_
        rw [due_first hc]
        exact .nil
      | some y =>
        obtain ⟨a2, h1, h2⟩ := hC.ye x y hc
        have hy := hdom x y hc
        rw [h1] at g
        refine sq_if (b := false) (et_test (ev_isN (ev_dget (ev_var rfl) (ev_var rfl) g) ev_c)) (fun z => nomatch z) (fun _ => ?_)
        obtain ⟨l, bs, hv, hll, ht⟩ := hL.at' y hy
        have gl : DGet H d (.ref a2) (some (.ref l)) := by rw [← hv]; exact dg (.inl hd) h2
        refine ev_dget (ev_var rfl) (ev_dget (ev_var rfl) (ev_var rfl) g) gl _ ⟨l, rfl, ⟨_, SqL.of hll⟩, for_list (K := K) (a := l) (xs := bs.map V.ref) (fun j σ H' => ∃ (x5 : Option V), σ = [some (.ref d), some (.ref e), some (.ref b), some (.int 0), none, x5] ∧ H' = H ∧ ∀ k p, k < j → (L y)[k]? = some p → p.1 ≠ x)
          ⟨none, rfl, rfl, fun k _ h => (Nat.not_lt_zero k h).elim⟩ (fun j σ H' _ ⟨_, _, e, _⟩ => by rw [e]; exact SqL.of hll) ?_ ?_⟩
        · rintro j v σ H5 hj ⟨x5, rfl, rfl, hno⟩
          have hjb : j < bs.length := by have := (List.getElem?_eq_some_iff.mp hj).1; rwa [List.length_map] at this
          have hv : v = .ref bs[j] := by
            rw [List.getElem?_map, List.getElem?_eq_getElem hjb] at hj
            exact (Option.some.inj hj).symm
          subst hv
          obtain ⟨p, ep, cp, g1, g2⟩ := prs_at ht (i := j) (b := bs[j]) (by simp [hjb])
          refine gn ?_
          refine rd_if (et_of (et_test (ev_eqD (ev_ixT (v := .ref cp) (ev_var rfl) ev_c (SqT.of g1) rfl) (ev_var rfl) (Dp.ints (SqT.of g2)) (Dp.ints (SqT.of hb)) (dep _))) (eqv_tints _ _)) (fun w => ?_) (fun w => ?_)
          · have e : p.1 = x := of_decide_eq_true w
            refine te_cal (ea_cons (ev_dget (ev_var rfl) (ev_var rfl) g) (ea_cons ev_c ea_nil)) ⟨a2, y, true, 1, rfl, rfl, (hL.sp y hy).len, h2, fun m H6 s6 nm em => (ev_ixT (v := .int p.2) (ev_var rfl) ev_c (SqT.of (s6 _ _ g1)) rfl) _ ⟨0, p.2, rfl, rfl, by show 2 ≤ sizeLine; decide, fun t nt => ⟨by show 1 ≤ sizeLine; decide, fun r nr => ?_⟩⟩⟩
            have s7 : Same H6 (upd H6 t (.tup [.ref m, .int (0 - p.2)])) := (Same.refl H6).upd nt
            have e7 : upd H6 t (.tup [.ref m, .int (0 - p.2)]) t = some (.tup [.ref m, .int (0 - p.2)]) := upd_same
            revert s7 e7 nr
            generalize upd H6 t (.tup [.ref m, .int (0 - p.2)]) = H7
            intro nr s7 e7
            have s8 : Same H7 (upd H7 r (.lst [.ref t])) := (Same.refl H7).upd nr
            refine q r [t] _ ((s6.trans s7).trans s8) ((s6.trans s7).free nr) upd_same ?_
            rw [due_some hc, filter_one (hL.nd y hy) ep e]
            exact .cons ⟨m, s8 _ _ e7, s8 _ _ (s7 _ _ em)⟩ .nil
          · have e : p.1 ≠ x := of_decide_eq_false w
            refine ⟨_, rfl, rfl, fun k p' hk hp' => ?_⟩
            rcases Nat.lt_or_eq_of_le (Nat.le_of_lt_succ hk) with z | z
            · exact hno k p' z hp'
            · rw [z, ep] at hp'; cases hp'; exact e
        · rintro σ H5 ⟨x5, rfl, rfl, hno⟩
          refine ⟨Nat.zero_le _, fun r nr => ?_⟩
          refine q r [] _ ((Same.refl _).upd nr) nr upd_same ?_
          rw [due_some hc, List.filter_eq_nil_iff.mpr ?_]
          · exact .nil
          · intro p hp w
            obtain ⟨k, hk⟩ := List.mem_iff_getElem?.mp hp
            have lb : bs.length = (L y).length := Paired.length ht
            exact hno k p (by have := (List.getElem?_eq_some_iff.mp hk).1; rw [List.length_map]; omega) hk (of_decide_eq_true w)
theorem ok_Alike {f : Addr} {fd : FuncData} (F : Fun K "_law_alike" "_law_alike" sAlike f fd) (T : Txt K mg) (gWhole : Callee P w K mg base "_law_whole" 1 ["_law_found"] spWhole) : FnOk P w K mg base CX0 2 f fd ["_law_found", "_law_due_here"] (spAlike K) := by
  have sc : FnScope ["_law_found", "_law_due_here", "_law_k"] ["_law_found", "_law_due_here"] (defScope sAlike) := ⟨rfl, rfl, rfl, by decide +kernel, rfl, by decide +kernel, by decide +kernel⟩
  refine F.ok sc (fun vs H Q E h => by repeat (first | (obtain ⟨rfl, _⟩ := h; rfl) | (obtain ⟨_, h⟩ := h))) (fun cdv A outer s H vs Q E hr h => ?_)
  obtain ⟨l, m, bs, cs, ps, rfl, hl, hm, hb, hc, hz, q⟩ := h
  refine ⟨_, (pss_cons (ps_if (pw_or (pt_not (pt_val (pe_callB call_isinst (by rfl) T.isinstance_ bt_isinstance (pa_cons (pv 0) (pa_cons (pe_bltn (v := .ty "list") (by rfl) T.list_ bt_list (by rfl)) pa_nil))))) (pw_or1 (pt_cmpR op_ne (pe_callB call_len (by rfl) T.len_ bt_len (pa_cons (pv 0) pa_nil)) (pe_callB call_len (by rfl) T.len_ bt_len (pa_cons (pv 1) pa_nil)) (nomark _)))).pt
  (pss_one (ps_ret pe_bl))
  pss_nil)
  (pss_cons (ps_for PassesOwn.never rfl (pi_range1 (by rfl) T.range_ (pa_cons (pe_callB call_len (by rfl) T.len_ bt_len (pa_cons (pv 1) pa_nil)) pa_nil)) (pg_name (i := 2) sc.nd rfl (Or.inl rfl))
  (pss_cons (ps_if (pw_or (pt_not (pt_val (pe_callB call_isinst (by rfl) T.isinstance_ bt_isinstance (pa_cons (pe_ix ix_list (pv 0) (pv 2) (fun _ _ => rfl)) (pa_cons (pe_bltn (v := .ty "tuple") (by rfl) T.tuple_ bt_tuple (by rfl)) pa_nil))))) (pw_or1 (pt_cmpR op_ne (pe_callB call_len (by rfl) T.len_ bt_len (pa_cons (pe_ix ix_list (pv 0) (pv 2) (fun _ _ => rfl)) pa_nil)) pe_int (nomark _)))).pt
  (pss_one (ps_ret pe_bl))
  pss_nil)
  (pss_one (ps_if (pw_or (pt_not (pt_val (pe_callB call_isinst (by rfl) T.isinstance_ bt_isinstance (pa_cons (pe_ix ix_tup (pe_ix ix_list (pv 0) (pv 2) (fun _ _ => rfl)) pe_int (fun _ _ => rfl)) (pa_cons (pe_bltn (v := .ty "tuple") (by rfl) T.tuple_ bt_tuple (by rfl)) pa_nil))))) (pw_or (pt_not (pt_val (pe_cal gWhole (hr.mono (by decide)) (by rfl) (pa_cons (pe_ix ix_tup (pe_ix ix_list (pv 0) (pv 2) (fun _ _ => rfl)) pe_int (fun _ _ => rfl)) pa_nil)))) (pw_or1 (pt_cmpR (op_neD hr) (pe_ix ix_list (pv 0) (pv 2) (fun _ _ => rfl)) (pe_ix ix_list (pv 1) (pv 2) (fun _ _ => rfl)) (nomark _))))).pt
  (pss_one (ps_ret pe_bl))
  pss_nil))))
  (pss_one (ps_ret pe_bl)))), ?_⟩
  have lb : bs.length = ps.length := Paired.length hb
  have lc : cs.length = ps.length := Paired.length hc
  refine sq_if (b := false) (et_of (et_or (et_not (et_B (ev_cb (v := .bl true) (ea_cons (ev_var rfl) (ea_cons ev_c ea_nil)) fun Q' q' => ⟨_, _, _, _, _, rfl, .ty "list", .lst hl, T.ll, q'⟩))) fun _ => et_test (ev_neI (i := ((bs.map V.ref).length : Nat)) (j := ((cs.map V.ref).length : Nat)) (ev_cb (ea_cons (ev_var rfl) ea_nil) fun Q' q' => ⟨_, _, rfl, .inl ⟨_, SqL.of hl, rfl⟩, q'⟩) (ev_cb (ea_cons (ev_var rfl) ea_nil) fun Q' q' => ⟨_, _, rfl, .inl ⟨_, SqL.of hm, rfl⟩, q'⟩))) (by rw [List.length_map, List.length_map, lb, lc]; simp)) (fun z => nomatch z) (fun _ => ?_)
  refine sq_rng1 (j := ((cs.map V.ref).length : Nat)) (ea_cons (ev_cb (ea_cons (ev_var rfl) ea_nil) fun Q' q' => ⟨_, _, rfl, .inl ⟨_, SqL.of hm, rfl⟩, q'⟩) ea_nil) (by rw [List.length_map]; omega) (by rw [List.length_map]; omega) (for_range (fun i σ H' => ∃ x2 : Option V, σ = [some (.ref l), some (.ref m), x2] ∧ H' = H) ⟨none, rfl, rfl⟩ ?_ ?_)
  · rintro i σ H' hi ⟨x2, rfl, rfl⟩
    rw [List.length_map] at hi
    have hi : i < cs.length := by omega
    rw [Int.zero_add]
    refine gn ?_
    have hib : i < bs.length := by omega
    obtain ⟨p, ep, g⟩ := prs_at hb (i := i) (b := bs[i]) (by simp [hib])
    obtain ⟨p', ep', g'⟩ := prs_at hc (i := i) (b := cs[i]) (by simp [hi])
    rw [ep] at ep'
    cases ep'
    have f1 : ∀ {τ : St}, τ[0]? = some (some (.ref l)) → τ[2]? = some (some (.int i)) → Ev (tOp (rIxL K) (tVar 0) (tVar 2)) τ H' (.ref bs[i]) := fun a1 a2 => ev_ixL (ev_var a1) (ev_var a2) (SqL.of hl) (atI_nat (by simp [hib]))
    have f2 : ∀ {τ : St}, τ[1]? = some (some (.ref m)) → τ[2]? = some (some (.int i)) → Ev (tOp (rIxL K) (tVar 1) (tVar 2)) τ H' (.ref cs[i]) := fun a1 a2 => ev_ixL (ev_var a1) (ev_var a2) (SqL.of hm) (atI_nat (by simp [hi]))
    obtain ⟨c1, h1, h2⟩ := id g
    refine sq_if (b := false) (et_of (et_or (et_not (et_B (ev_cb (v := .bl true) (ea_cons (f1 rfl rfl) (ea_cons ev_c ea_nil)) fun Q' q' => ⟨_, _, _, _, _, rfl, .ty "tuple", .tup h1, T.tt, q'⟩))) fun _ => et_test (ev_neI (i := 2) (j := 2) (ev_cb (ea_cons (f1 rfl rfl) ea_nil) fun Q' q' => ⟨_, _, rfl, .inr ⟨_, SqT.of h1, rfl⟩, q'⟩) ev_c)) rfl) (fun z => nomatch z) (fun _ => ?_)
    have ev0 : Ev (tOp (rIxT K) (tOp (rIxL K) (tVar 0) (tVar 2)) (tC (.int 0))) [some (.ref l), some (.ref m), some (.int i)] H' (.ref c1) := ev_ixT (f1 rfl rfl) ev_c (SqT.of h1) rfl
    refine ev0 _ ⟨_, _, _, _, _, rfl, .ty "tuple", .tup h2, T.tt, true, rfl, ?_⟩
    refine iteF ?_
    refine te_cal (ea_cons (ev_ixT (v := .int p.2) (f1 rfl rfl) ev_c (SqT.of h1) rfl) ea_nil) ⟨p.2, rfl, _, rfl, ?_⟩
    refine iteF ?_
    refine (et_of (et_test (ev_neD (f1 rfl rfl) (f2 rfl rfl) (g.dp (K := K)) (g'.dp (K := K)) (dtP_depth _))) (by rw [eqv_refl (g.dp (K := K)).lay])) _ ?_
    refine iteF ?_
    exact ⟨_, rfl, rfl⟩
  · rintro σ H' ⟨x2, rfl, rfl⟩
    exact q
theorem ok_All {f : Addr} {fd : FuncData} (F : Fun K "_law_all_lead" "_law_all_lead" sAll f fd) (T : Txt K mg) (gSpotOf : Callee P w K mg base "spot_of_mark" 1 ["mark"] spSpotOf) (gIsD : Callee P w K mg base "is_door" 1 ["mark"] spDoor) (gGateA : Callee P w K mg base "gate_arcs" 2 ["arcs", "comes", "spot"] (spArcs K mg false)) (gDoorA : Callee P w K mg base "door_arcs" 2 ["arcs", "comes", "spot"] (spArcs K mg true)) (gMark : Callee P w K mg base "_law_mark" 1 ["_law_spot", "_law_side"] spMark) (gDue : Callee P w K mg base "_law_due" 2 ["_law_links_here", "_law_comes", "_law_spot", "_law_side"] (spDue K)) (gAlike : Callee P w K mg base "_law_alike" 2 ["_law_found", "_law_due_here"] (spAlike K)) : FnOk P w K mg base CX0 4 f fd ["_law_leads", "_law_links_here", "_law_comes", "_law_spots_here"] (spAll K mg) := by
  have sc : FnScope ["_law_leads", "_law_links_here", "_law_comes", "_law_spots_here", "_law_spot", "_law_side", "_law_found"] ["_law_leads", "_law_links_here", "_law_comes", "_law_spots_here"] (defScope sAll) := ⟨rfl, rfl, rfl, by decide +kernel, rfl, by decide +kernel, by decide +kernel⟩
  refine F.ok sc (fun vs H Q E h => by repeat (first | (obtain ⟨rfl, _⟩ := h; rfl) | (obtain ⟨_, h⟩ := h))) (fun cdv A outer s H vs Q E hr h => ?_)
  obtain ⟨g, d, e, p, n, as, sps, sq, kvs, kvs', L, C, rfl, hg, hd, hL, he, hC, hs, hsq, q⟩ := h
  refine ⟨_, (pss_cons (ps_for PassesOwn.never rfl (pi_list (pv 3)) (pg_name (i := 4) sc.nd rfl (Or.inl rfl))
  (pss_one (ps_for PassesOwn.never rfl (pi_list (pe_lst (pa_cons pe_int (pa_cons pe_int pa_nil)))) (pg_name (i := 5) sc.nd rfl (Or.inl rfl))
  (pss_cons (ps_set (i := 6) sc.nd rfl (Or.inl rfl) (pe_callV (r := rLead mg K) (pv 0) (leadCall T gIsD gDoorA gGateA gSpotOf (hr.mono (by decide))) (pa_cons (pe_cal gMark (hr.mono (by decide)) (by rfl) (pa_cons (pv 4) (pa_cons (pv 5) pa_nil))) pa_nil)))
  (pss_cons (ps_if (pt_not (pt_val (pe_cal gAlike (hr.mono (by decide)) (by rfl) (pa_cons (pv 6) (pa_cons (pe_cal gDue (hr.mono (by decide)) (by rfl) (pa_cons (pv 1) (pa_cons (pv 2) (pa_cons (pv 4) (pa_cons (pv 5) pa_nil))))) pa_nil)))))
  (pss_one (ps_ret pe_bl))
  pss_nil)
  (pss_one (ps_expr (pe_bm PySem.F.plainAttrs_list PySem.F.slot_list_append PySem.F.type_list_append mt_append (pv 6) (pa_cons (pe_tup (pa_cons (pe_tup (pa_cons pe_int (pa_cons pe_int (pa_cons pe_int (pa_cons pe_int pa_nil))))) (pa_cons pe_int pa_nil))) pa_nil)))))))))
  (pss_one (ps_ret pe_bl))), ?_⟩
  obtain ⟨og, fdg, hgo, hfd⟩ : ∃ o fd, H g = some (exO g o) ∧ o.data = .func fd := by
    obtain ⟨_, _, _, _, _, _, _, _, h1, _⟩ := hg.ex
    obtain ⟨_, _, e1⟩ := h1.fn
    exact ⟨_, _, e1, rfl⟩
  refine ⟨_, rfl, p, rfl, ⟨_, hs.ls⟩, for_list (K := K) (a := p) (xs := as.map V.ref) (fun i σ H' => ∃ x4 x5 x6 : Option V, σ = [some (.ref g), some (.ref d), some (.ref e), some (.ref p), x4, x5, x6] ∧ Same H H')
    ⟨none, none, none, rfl, Same.refl H⟩ (fun i σ H' _ ⟨_, _, _, _, s⟩ => s.seq hs.ls) ?_ ?_⟩
  · rintro i v σ H1 hi ⟨x4, x5, x6, rfl, s1⟩
    obtain ⟨b, x, rfl, _, _, xq, hb⟩ := (hs.same s1).at hi
    have hx := hsq x xq
    have l3 : x.length = 3 := (hs.sp x xq).len
    refine gn ?_
    refine rd_forL (ea_cons ev_c (ea_cons ev_c ea_nil)) (by show 2 ≤ sizeLine; decide) fun sl nsl => ?_
    have s2 : Same H1 (upd H1 sl (.lst [.int 0, .int 1])) := (Same.refl H1).upd nsl
    have e2 : upd H1 sl (.lst [.int 0, .int 1]) sl = some (.lst [.int 0, .int 1]) := upd_same
    revert s2 e2
    generalize upd H1 sl (.lst [.int 0, .int 1]) = H2
    intro s2 e2
    have S2 := s1.trans s2
    refine ⟨sl, rfl, ⟨_, SqL.of e2⟩, for_list (K := K) (a := sl) (xs := [.int 0, .int 1]) (fun j σ H' => ∃ x5 x6 : Option V, σ = [some (.ref g), some (.ref d), some (.ref e), some (.ref p), some (.ref b), x5, x6] ∧ Same H2 H')
      ⟨_, _, rfl, Same.refl H2⟩ (fun j σ H' _ ⟨_, _, _, s⟩ => s.seq (SqL.of e2)) ?_ ?_⟩
    · rintro j v σ H3 hj ⟨x5, x6, rfl, s3⟩
      obtain ⟨sd, rfl⟩ : ∃ sd : Bool, v = .int (if sd then 1 else 0) := by
        match j, hj with
        | 0, hj => exact ⟨false, (Option.some.inj hj).symm⟩
        | 1, hj => exact ⟨true, (Option.some.inj hj).symm⟩
        | j + 2, hj => simp at hj
      have S3 := S2.trans s3
      have hb3 := (s2.trans s3) _ _ hb
      refine gn ?_
      refine ⟨_, rfl, g, og, fdg, rfl, hfd, te_cal (ea_cons (ev_var rfl) (ea_cons (ev_var rfl) ea_nil)) ⟨b, x, sd, _, rfl, rfl, l3, hb3, fun m H4 s4 nm em => ⟨s4 _ _ (S3 _ _ hgo), lead_call (m := (x, sd)) (hg.same (S3.trans s4)) em hx fun l bs H5 s5 nl el hp => ?_⟩⟩⟩
      have S5 := (S3.trans s4).trans s5
      refine ⟨_, rfl, te_cal (ea_cons (ev_var rfl) (ea_cons (ev_var rfl) (ea_cons (ev_var rfl) (ea_cons (ev_var rfl) ea_nil)))) ⟨d, e, b, n, sps, kvs, kvs', L, C, x, sd, _, rfl, rfl, S5 _ _ hd, hL.same (fun b o _ _ z => S5 b o z), S5 _ _ he, hC.same S5, hg.dom, hx, s5 _ _ (s4 _ _ hb3), fun l2 bs2 H6 s6 nl2 el2 hp2 => ?_⟩⟩
      refine ⟨l, l2, bs, bs2, _, rfl, s6 _ _ el, el2, Prs.same hp s6, hp2, (by have := due_len hL hg.dom hx sd; omega), true, rfl, ?_⟩
      refine iteF ?_
      have el6 := s6 _ _ el
      refine ⟨_, rfl, .inl ⟨rfl, _, SqL.of el6⟩, by show 4 ≤ sizeLine; decide, fun t nt => ⟨by show 2 ≤ sizeLine; decide, fun t2 nt2 => ?_⟩⟩
      have s7 : Same H6 (upd H6 t (.tup [.int 9, .int 9, .int 9, .int 9])) := (Same.refl H6).upd nt
      revert s7 nt2
      generalize upd H6 t (.tup [.int 9, .int 9, .int 9, .int 9]) = H7
      intro nt2 s7
      have s8 : Same H7 (upd H7 t2 (.tup [.ref t, .int 0])) := (Same.refl H7).upd nt2
      revert s8
      generalize upd H7 t2 (.tup [.ref t, .int 0]) = H8
      intro s8
      have lb : bs.length = (dueOf L C (x, sd)).length := Paired.length hp
      refine ⟨l, _, _, rfl, rfl, s8 _ _ (s7 _ _ el6), (by rw [List.length_map]; have := due_len hL hg.dom hx sd; exact small1000 (by omega)), ?_⟩
      exact ⟨_, _, rfl, same_at ((((s3.trans s4).trans s5).trans s6).trans (s7.trans s8)) ((s3.trans s4).free nl)⟩
    · rintro σ H3 ⟨x5, x6, rfl, s3⟩
      exact ⟨_, _, _, rfl, S2.trans s3⟩
  · rintro σ H1 ⟨x4, x5, x6, rfl, s1⟩
    exact q H1 s1
theorem ok_law {f : Addr} {fd : FuncData} (F : Fun K "law" "law" slaw f fd) (T : Txt K mg) (hcv : fd.code = .ref (tbOf K "law").1) (hCH : PySem.W.codeHdIn K (tbOf K "law").1 (tbOf K "law").2 = true) (hBA : base.BuiltinsAt mg (tbOf K "law").2) (hgP : mainGlobals ≠ (tbOf K "law").2) (gGate : Callee P w K mg base "gate" 1 ["spot"] (spCat K false)) (gDoorF : Callee P w K mg base "door" 1 ["spot"] (spCat K true)) (gSpotOf : Callee P w K mg base "spot_of_mark" 1 ["mark"] spSpotOf) (gSplit : Callee P w K mg base "split_arcs" 3 ["arcs", "comes"] (spSplit K mg)) (gSpots : Callee P w K mg base "_law_spots" 2 ["_law_script"] (spSpots K)) (gLinks : Callee P w K mg base "_law_links" 2 ["_law_script", "_law_spots_here"] (spLinks K)) (gLying : Callee P w K mg base "_law_lying" 2 ["_law_script", "_law_spots_here", "_law_links_here"] (spLying K)) (gMark : Callee P w K mg base "_law_mark" 1 ["_law_spot", "_law_side"] spMark) (gAll : Callee P w K mg base "_law_all_lead" 4 ["_law_leads", "_law_links_here", "_law_comes", "_law_spots_here"] (spAll K mg)) : FnOk P w K mg base CX0 5 f fd ["_law_script"] (spLaw K) := by
  have sc : FnScope ["_law_script", "_law_spots_here", "_law_links_here", "_law_comes", "_law_spot", "_law_arcs", "_law_handed", "_law_leads", "_law_bare"] ["_law_script"] (defScope slaw) := ⟨rfl, rfl, rfl, by decide +kernel, rfl, by decide +kernel, by decide +kernel⟩
  refine F.okC hcv sc (fun vs H Q E h => by repeat (first | (obtain ⟨rfl, _⟩ := h; rfl) | (obtain ⟨_, h⟩ := h))) (fun A outer s H vs Q E hr h => ?_)
  obtain ⟨a, ns, rfl, ha, hn, hP1, hP2, hPP, q⟩ := h
  refine ⟨_, (pss_cons (ps_set (i := 1) sc.nd rfl (Or.inl rfl) (pe_cal gSpots (hr.mono (by decide)) (by rfl) (pa_cons (pv 0) pa_nil)))
  (pss_cons (ps_set (i := 2) sc.nd rfl (Or.inr rfl) (pe_cal gLinks (hr.mono (by decide)) (by rfl) (pa_cons (pv 0) (pa_cons (pv 1) pa_nil))))
  (pss_cons (ps_set (i := 3) sc.nd rfl (Or.inl rfl) (pe_cal gLying (hr.mono (by decide)) (by rfl) (pa_cons (pv 0) (pa_cons (pv 1) (pa_cons (pv 2) pa_nil)))))
  (pss_cons (ps_for PassesOwn.never rfl (pi_list (pv 1)) (pg_name (i := 4) sc.nd rfl (Or.inl rfl))
  (pss_cons (ps_if (pw_or (pt_cmpR (op_neD hr) (pe_cal gGate (hr.mono (by decide)) (by rfl) (pa_cons (pv 4) pa_nil)) (pe_cal gMark (hr.mono (by decide)) (by rfl) (pa_cons (pv 4) (pa_cons pe_int pa_nil))) (nomark _)) (pw_or1 (pt_cmpR (op_neD hr) (pe_cal gDoorF (hr.mono (by decide)) (by rfl) (pa_cons (pv 4) pa_nil)) (pe_cal gMark (hr.mono (by decide)) (by rfl) (pa_cons (pv 4) (pa_cons pe_int pa_nil))) (nomark _)))).pt
  (pss_one (ps_ret pe_bl))
  pss_nil)
  (pss_one (ps_if (pw_or (pt_cmpR (op_neD hr) (pe_cal gSpotOf (hr.mono (by decide)) (by rfl) (pa_cons (pe_cal gMark (hr.mono (by decide)) (by rfl) (pa_cons (pv 4) (pa_cons pe_int pa_nil))) pa_nil)) (pv 4) (nomark _)) (pw_or1 (pt_cmpR (op_neD hr) (pe_cal gSpotOf (hr.mono (by decide)) (by rfl) (pa_cons (pe_cal gMark (hr.mono (by decide)) (by rfl) (pa_cons (pv 4) (pa_cons pe_int pa_nil))) pa_nil)) (pv 4) (nomark _)))).pt
  (pss_one (ps_ret pe_bl))
  pss_nil))))
  (pss_cons (ps_nest (i := 5) rfl rfl (by rfl) (by rfl) rfl hCH hBA hgP sc.nd rfl (Or.inl rfl) (.inl rfl))
  (pss_cons (ps_set (i := 6) sc.nd rfl (Or.inl rfl) (pe_callTy call_dict (by rfl) T.dict_ bt_dict (pa_cons (pv 3) pa_nil)))
  (pss_cons (ps_set (i := 7) sc.nd rfl (Or.inl rfl) (pe_cal gSplit (hr.mono (by decide)) (by rfl) (pa_cons (pv 5) (pa_cons (pv 6) pa_nil))))
  (pss_cons (ps_if (pw_or (pt_not (pt_val (pe_calC (i := 2) (y := "_law_links_here") (c := s.heap.objs.size + 1) gAll (hr.mono (by decide)) (by rfl) (pa_cons (pv 7) (pa_cons (pv 2) (pa_cons (pv 3) (pa_cons (pv 1) pa_nil)))) rfl (by rfl) (by rfl) (by show s.heap.objs.size < s.heap.objs.size + 1; omega)))) (pw_or1 (pt_cmpR (op_neDic hr) (pv 6) (pv 3) (nomark _)))).pt
  (pss_one (ps_ret pe_bl))
  pss_nil)
  (pss_cons (ps_expr (pe_bm0 PySem.F.plainAttrs_dict PySem.F.slot_dict_clear PySem.F.type_dict_clear mt_clearT (pv 6)))
  (pss_cons (ps_set (i := 8) sc.nd rfl (Or.inl rfl) (pe_cal gSplit (hr.mono (by decide)) (by rfl) (pa_cons (pv 5) (pa_cons (pv 6) pa_nil))))
  (pss_cons (ps_if (pt_not (pt_val (pe_calC (i := 2) (y := "_law_links_here") (c := s.heap.objs.size + 1) gAll (hr.mono (by decide)) (by rfl) (pa_cons (pv 7) (pa_cons (pv 2) (pa_cons (pv 3) (pa_cons (pe_listRev rfl (by rfl) T.list_ (by rfl) T.reversed_ (pv 1)) pa_nil)))) rfl (by rfl) (by rfl) (by show s.heap.objs.size < s.heap.objs.size + 1; omega))))
  (pss_one (ps_ret pe_bl))
  pss_nil)
  (pss_one (ps_ret (pe_calC (i := 2) (y := "_law_links_here") (c := s.heap.objs.size + 1) gAll (hr.mono (by decide)) (by rfl) (pa_cons (pv 8) (pa_cons (pv 2) (pa_cons pe_dnewT (pa_cons (pv 1) pa_nil)))) rfl (by rfl) (by rfl) (by show s.heap.objs.size < s.heap.objs.size + 1; omega))))))))))))))), ?_⟩
  have dep : ∀ y : T3, (PyData.tuple (y.map PyData.int)).depth ≤ 60 := fun y => Nat.le_trans (depth_tints _) (by decide)
  refine sq_cal (ea_cons (ev_var rfl) ea_nil) ⟨a, ns, rfl, ha, fun n p as sps H1 n10 s1 np hs => ?_⟩
  have ha1 := s1.seq ha
  refine sq_cal (ea_cons (ev_var rfl) (ea_cons (ev_var rfl) ea_nil)) ⟨a, p, ns, n, as, sps, rfl, ha1, hn, hs, fun d H2 kvl L s2 nd ed hL => ?_⟩
  refine sq_cal (ea_cons (ev_var rfl) (ea_cons (ev_var rfl) (ea_cons (ev_var rfl) ea_nil))) ⟨a, p, d, ns, n, as, sps, kvl, L, rfl, s2.seq ha1, hs.same s2, ed, hL, fun cm H3 kvc C s3 ncm ecm hC hdom => ?_⟩
  have S3 := (s1.trans s2).trans s3
  have hs3 := (hs.same s2).same s3
  have ed3 := s3 _ _ ed
  have hL3 := hL.same (H' := H3) fun b o _ _ e => s3 b o e
  refine ⟨_, rfl, p, rfl, ⟨_, hs3.ls⟩, for_list (K := K) (a := p) (xs := as.map V.ref) (fun i σ H' => ∃ x4 : Option V, σ = [some (.ref a), some (.ref p), some (.ref d), some (.ref cm), x4, none, none, none, none] ∧ Same H3 H')
    ⟨none, rfl, Same.refl H3⟩ (fun i σ H' _ ⟨_, _, s⟩ => s.seq hs3.ls) ?_ ?_⟩
  · rintro i v σ H4 hi ⟨x4, rfl, s4⟩
    obtain ⟨b, x, rfl, _, _, xm, hb⟩ := (hs3.same s4).at hi
    have l3 : x.length = 3 := (hs.sp x xm).len
    refine gn ?_
    have dp : ∀ {H' : Hp} {m m2 : Addr} {y : T3}, H' m = some (.tup (y.map V.int)) → H' m2 = some (.tup (y.map V.int)) → ∃ d e, Dp K H' (.ref m) d ∧ Dp K H' (.ref m2) e ∧ d.depth ≤ 60 ∧ PyData.eqv d e = true := fun h1 h2 => ⟨_, _, Dp.ints (SqT.of h1), Dp.ints (SqT.of h2), dep _, by rw [eqv_tints]; exact decide_eq_true rfl⟩
    refine te_cal (ea_cons (ev_var rfl) ea_nil) ⟨b, x, rfl, l3, hb, fun m1 H5 s5 nm1 em1 => te_cal (ea_cons (ev_var rfl) (ea_cons ev_c ea_nil)) ⟨b, x, false, 0, rfl, rfl, l3, s5 _ _ hb, fun m2 H6 s6 nm2 em2 => ?_⟩⟩
    obtain ⟨d1, e1, g1, g2, g3, g4⟩ := dp (s6 _ _ em1) em2
    refine ⟨d1, e1, g1, g2, g3, _, rfl, ?_⟩
    rw [g4]
    refine iteF ?_
    refine te_cal (ea_cons (ev_var rfl) ea_nil) ⟨b, x, rfl, l3, s6 _ _ (s5 _ _ hb), fun m3 H7 s7 nm3 em3 => te_cal (ea_cons (ev_var rfl) (ea_cons ev_c ea_nil)) ⟨b, x, true, 1, rfl, rfl, l3, s7 _ _ (s6 _ _ (s5 _ _ hb)), fun m4 H8 s8 nm4 em4 => ?_⟩⟩
    obtain ⟨d1, e1, g1, g2, g3, g4⟩ := dp (s8 _ _ em3) em4
    refine ⟨d1, e1, g1, g2, g3, _, rfl, ?_⟩
    rw [g4]
    refine iteF ?_
    have S8 := (s5.trans s6).trans (s7.trans s8)
    refine te_nest (te_cal (ea_cons (ev_var rfl) (ea_cons ev_c ea_nil)) ⟨b, x, false, 0, rfl, rfl, l3, S8 _ _ hb, fun m5 H9 s9 nm5 em5 => ⟨m5, (x, false), rfl, l3, em5, fun t nt => ?_⟩⟩)
    have s10 : Same H9 (upd H9 t (.tup (x.map V.int))) := (Same.refl H9).upd nt
    have e10 : upd H9 t (.tup (x.map V.int)) t = some (.tup (x.map V.int)) := upd_same
    revert s10 e10
    dsimp only
    generalize upd H9 t (.tup (x.map V.int)) = H10
    intro s10 e10
    obtain ⟨d1, e1, g1, g2, g3, g4⟩ := dp e10 (s10 _ _ (s9 _ _ (S8 _ _ hb)))
    refine ⟨_, rfl, d1, e1, g1, g2, g3, _, rfl, ?_⟩
    rw [g4]
    refine iteF ?_
    have S10 := (S8.trans s9).trans s10
    refine te_nest (te_cal (ea_cons (ev_var rfl) (ea_cons ev_c ea_nil)) ⟨b, x, true, 1, rfl, rfl, l3, S10 _ _ hb, fun m6 H11 s11 nm6 em6 => ⟨m6, (x, true), rfl, l3, em6, fun t2 nt2 => ?_⟩⟩)
    have s12 : Same H11 (upd H11 t2 (.tup (x.map V.int))) := (Same.refl H11).upd nt2
    have e12 : upd H11 t2 (.tup (x.map V.int)) t2 = some (.tup (x.map V.int)) := upd_same
    revert s12 e12
    dsimp only
    generalize upd H11 t2 (.tup (x.map V.int)) = H12
    intro s12 e12
    obtain ⟨d1, e1, g1, g2, g3, g4⟩ := dp e12 (s12 _ _ (s11 _ _ (S10 _ _ hb)))
    refine ⟨_, rfl, d1, e1, g1, g2, g3, _, rfl, ?_⟩
    rw [g4]
    refine iteF ?_
    exact ⟨_, rfl, s4.trans ((S10.trans s11).trans s12)⟩
  · rintro σ H4 ⟨x4, rfl, s4⟩
    have S4 := S3.trans s4
    have hP1' := S4 _ _ hP1
    have hP2' := S4 _ _ hP2
    dsimp only
    refine ⟨#[], hP1', trivial, .inl ⟨rfl, fun f0 c' oc ctv doc nf nc' fc hco => ?_⟩⟩
    have K5 : ∀ b o, b ≠ (tbOf K "law").2 → H4 b = some o → upd (upd (upd H4 (tbOf K "law").2 (.tbl (#[] ++ #[rawInt (posOf arcSt).line, rawInt (posOf arcSt).col, .ref c']))) c' (exO c' oc)) f0 (exO f0 (arcObj mg (s.heap.objs.size + 1) c' doc ctv)) b = some o := fun b o nb eb => by
      rw [upd_ne (ne_of_none eb nf), upd_ne (ne_of_none eb nc'), upd_ne nb]; exact eb
    have fa5 : FnA mg (upd (upd (upd H4 (tbOf K "law").2 (.tbl (#[] ++ #[rawInt (posOf arcSt).line, rawInt (posOf arcSt).col, .ref c']))) c' (exO c' oc)) f0 (exO f0 (arcObj mg (s.heap.objs.size + 1) c' doc ctv))) f0 (s.heap.objs.size + 1) c' := ⟨⟨doc, ctv, upd_same⟩, ⟨oc, by rw [upd_ne fc.symm, upd_same], hco⟩⟩
    revert K5 fa5
    show (∀ b o, b ≠ (tbOf K "law").2 → H4 b = some o → _ = some o) → FnA mg _ f0 (s.heap.objs.size + 1) c' → tSeq _ _ _ _ (upd (upd (upd H4 (tbOf K "law").2 (.tbl (#[] ++ #[rawInt (posOf arcSt).line, rawInt (posOf arcSt).col, .ref c']))) c' (exO c' oc)) f0 (exO f0 (arcObj mg (s.heap.objs.size + 1) c' doc ctv)))
    generalize upd (upd (upd H4 (tbOf K "law").2 (.tbl (#[] ++ #[rawInt (posOf arcSt).line, rawInt (posOf arcSt).col, .ref c']))) c' (exO c' oc)) f0 (exO f0 (arcObj mg (s.heap.objs.size + 1) c' doc ctv)) = H5
    intro K5 fa5
    have K5' : ∀ b o, (∀ ps, o ≠ .tbl ps) → H4 b = some o → H5 b = some o := fun b o no eb => K5 b o (ne_of eb hP1' (no _)) eb
    have P25 := K5 _ _ hPP.symm hP2'
    have ed5 := K5' _ _ (by intro _ z; cases z) (s4 _ _ ed3)
    have ecm5 := K5' _ _ (by intro _ z; cases z) (s4 _ _ ecm)
    have hC5 := (hC.same s4).tups fun b ys e => K5' b _ (by intro _ z; cases z) e
    have hL5 := (hL3.same (H' := H4) fun b o _ _ e => s4 b o e).same (H' := H5) fun b o _ n e => K5' b o n e
    have hs4 := hs3.same s4
    have hs5 : SpsAt K H5 n p as sps := hs4.keep fun b o n e => K5' b o n e
    refine ⟨_, rfl, cm, rfl, .inr ⟨kvc, .inl ecm5, hC5.hash n10, fun h1 nh1 => ?_⟩⟩
    have s6 : Same H5 (upd H5 h1 (.dT kvc)) := (Same.refl H5).upd nh1
    have eh6 : upd H5 h1 (.dT kvc) h1 = some (.dT kvc) := upd_same
    revert s6 eh6
    generalize upd H5 h1 (.dT kvc) = H6
    intro s6 eh6
    have P26 := s6 _ _ P25
    have fa6 := fa5.same (H' := H6) fun b o _ e => s6 b o e
    have hC6 := hC5.same s6
    obtain ⟨_, _, ef6⟩ := fa6.fn
    obtain ⟨_, ec6, _⟩ := fa6.cd
    refine sq_cal (ea_cons (ev_var rfl) (ea_cons (ev_var rfl) ea_nil)) ⟨f0, h1, n, kvc, C, _, rfl, n10, ef6, (by intro _ z; cases z), eh6, hC6, .inl P26, fun g1 H7 cA cK c2 k1 kt kn tb7 nA nK hld ek nk hCk => ?_⟩
    have kt7 : ∀ b o, (∀ ps, o ≠ .tbl ps) → H5 b = some o → H7 b = some o := fun b o no e => kt b o no (s6 _ _ e)
    have fa7 := fa6.same kt
    have ed7 := kt7 _ _ (by intro _ z; cases z) ed5
    have ecm7 := kt7 _ _ (by intro _ z; cases z) ecm5
    have eh7 := kt _ _ (by intro _ z; cases z) eh6
    have hC7 := hC6.tups (H' := H7) fun b ys e => kt b _ (by intro _ z; cases z) e
    have hL7 := hL5.same (H' := H7) fun b o _ n e => kt7 b o n e
    have hs7 : SpsAt K H7 n p as sps := hs5.keep fun b o n e => kt7 b o n e
    have ne1 : f0 ≠ cA ∧ c' ≠ cA ∧ f0 ≠ cK ∧ c' ≠ cK := ⟨ne_of_none ef6 nA, ne_of_none ec6 nA, ne_of_none ef6 nK, ne_of_none ec6 nK⟩
    refine ⟨_, rfl, _, rfl, _, rfl, _, rfl, .ref d, rfl, fun o u nc ru ho => ?_⟩
    cases ru
    have sc7 : Same H7 (upd H7 (s.heap.objs.size + 1) (exO (s.heap.objs.size + 1) o)) := (Same.refl H7).upd nc
    refine ⟨g1, d, cm, p, n, as, sps, sps, kvl, kvc, L, C, rfl, lead_with nc ho hld fa7 ne1 ed7 hL7 ek hCk hdom, sc7 _ _ ed7, hL7.same (fun b o _ _ e => sc7 b o e), sc7 _ _ ecm7, hC7.same sc7, hs7.same sc7, (fun x hx => hx), fun H' s' => ⟨s' _ _ upd_same, true, rfl, ?_⟩⟩
    refine iteF ?_
    have s8 := same_drp nc s'
    revert s8
    generalize drp H' (s.heap.objs.size + 1) = H8
    intro s8
    have ecm8 := s8 _ _ ecm7
    have eh8 := s8 _ _ eh7
    have hC8 := hC7.same s8
    refine (et_test (ev_neDic (K := K) (ev_var rfl) (ev_var rfl) (cm_smd (.inl eh8) (.inl ecm8) hC8 hC8))) _ ?_
    refine iteF ?_
    dsimp only [tNext]
    refine ⟨_, rfl, .inr (.inr (.inl ⟨rfl, .inr ⟨_, eh8⟩⟩)), h1, kvc, rfl, rfl, eh8, ?_⟩
    have nd1 : d ≠ h1 := ne_of_none ed5 nh1
    have nm1 : cm ≠ h1 := ne_of_none ecm5 nh1
    have nk1 : k1 ≠ h1 := fun z => by rw [z, eh6] at nk; cases nk
    have K9 : ∀ b o, b ≠ h1 → H8 b = some o → upd H8 h1 (.dT []) b = some o := fun b o nb e => by rw [upd_ne nb]; exact e
    have eh9 : upd H8 h1 (.dT []) h1 = some (.dT []) := upd_same
    revert K9 eh9
    generalize upd H8 h1 (.dT []) = H9
    intro K9 eh9
    have K9' : ∀ b o, (∀ kv, o ≠ .dT kv) → H8 b = some o → H9 b = some o := fun b o no e => K9 b o (ne_of e eh8 (no _)) e
    have kx : ∀ b o, (∃ φ, o = .ext φ) → H7 b = some o → H9 b = some o := fun b o ⟨φ, h⟩ e => K9' b o (fun _ z => by rw [h] at z; cases z) (s8 _ _ e)
    have k79 : ∀ b ys, H7 b = some (.tup ys) → H9 b = some (.tup ys) := fun b ys e => K9' b _ (by intro _ z; cases z) (s8 _ _ e)
    have fa9 : FnA mg H9 f0 (s.heap.objs.size + 1) c' := ⟨let ⟨a1, a2, e⟩ := fa7.fn; ⟨a1, a2, kx _ _ ⟨_, rfl⟩ e⟩, let ⟨a1, e, h⟩ := fa7.cd; ⟨a1, kx _ _ ⟨_, rfl⟩ e, h⟩⟩
    have hld9 : LeadAt mg H9 g1 cA cK c2 f0 k1 := ⟨let ⟨a1, a2, e⟩ := hld.fn; ⟨a1, a2, kx _ _ ⟨_, rfl⟩ e⟩, let ⟨a1, e, h⟩ := hld.cd; ⟨a1, kx _ _ ⟨_, rfl⟩ e, h⟩, hld.ne, let ⟨a1, e, h⟩ := hld.ea; ⟨a1, kx _ _ ⟨_, rfl⟩ e, h⟩, let ⟨a1, e, h⟩ := hld.ek; ⟨a1, kx _ _ ⟨_, rfl⟩ e, h⟩⟩
    have ed9 := K9 _ _ nd1 (s8 _ _ ed7)
    have ecm9 := K9 _ _ nm1 ecm8
    have ek9 := K9 _ _ nk1 (s8 _ _ ek)
    have hCk9 := hCk.tups k79
    have hC9 := hC7.tups k79
    have hL9 : LkAt H9 n kvl sps L := ⟨fun x hx => by
      obtain ⟨l, bs, h1, h2, h3⟩ := hL7.at' x hx
      exact ⟨l, bs, h1, K9' _ _ (by intro _ z; cases z) (s8 _ _ h2), Prs.tups h3 k79⟩, hL7.mem, hL7.nd, hL7.sp, hL7.ln⟩
    have hs9 : SpsAt K H9 n p as sps := (hs7.same s8).keepL (fun b o n e => K9' b o n e)
    have tb9 : TbL K H9 := by
      rcases tb7 with e | ⟨a1, a2, e1, e2, e3⟩
      · exact .inl (K9' _ _ (by intro _ z; cases z) (s8 _ _ e))
      · exact .inr ⟨a1, a2, K9' _ _ (by intro _ z; cases z) (s8 _ _ e1), kx _ _ ⟨_, rfl⟩ e2, e3⟩
    obtain ⟨_, _, ef9⟩ := fa9.fn
    obtain ⟨_, ec9, _⟩ := fa9.cd
    dsimp only
    refine sq_cal (ea_cons (ev_var rfl) (ea_cons (ev_var rfl) ea_nil)) ⟨f0, h1, n, [], fun _ => none, _, rfl, n10, ef9, (by intro _ z; cases z), eh9, cm_nil, tb9, fun g2 H10 cA2 cK2 c22 k2 kt10 kn10 tb10 nA2 nK2 hld2 ek2 nk2 hCk2 => ?_⟩
    have fa10 := fa9.same kt10
    have hld10 := hld9.same kt10
    have ed10 := kt10 _ _ (by intro _ z; cases z) ed9
    have ecm10 := kt10 _ _ (by intro _ z; cases z) ecm9
    have ek10 := kt10 _ _ (by intro _ z; cases z) ek9
    have t10 : ∀ b ys, H9 b = some (.tup ys) → H10 b = some (.tup ys) := fun b ys e => kt10 b _ (by intro _ z; cases z) e
    have hCk10 := hCk9.tups t10
    have hC10 := hC9.tups t10
    have hL10 := hL9.same (H' := H10) fun b o _ n e => kt10 b o n e
    have hs10 : SpsAt K H10 n p as sps := hs9.keep fun b o n e => kt10 b o n e
    have ne2 : f0 ≠ cA2 ∧ c' ≠ cA2 ∧ f0 ≠ cK2 ∧ c' ≠ cK2 := ⟨ne_of_none ef9 nA2, ne_of_none ec9 nA2, ne_of_none ef9 nK2, ne_of_none ec9 nK2⟩
    refine ⟨_, rfl, _, rfl, _, rfl, _, rfl, p, _, rfl, hs10.ls, fun rv nrv => ⟨.ref d, rfl, fun o u nc ru ho => ?_⟩⟩
    cases ru
    have s11 : Same H10 (upd H10 rv (.lst (as.map V.ref).reverse)) := (Same.refl H10).upd nrv
    have e11 : upd H10 rv (.lst (as.map V.ref).reverse) rv = some (.lst (as.reverse.map V.ref)) := by rw [upd_same, List.map_reverse]
    revert s11 e11 nc
    generalize upd H10 rv (.lst (as.map V.ref).reverse) = H11
    intro nc s11 e11
    have sc11 : Same H11 (upd H11 (s.heap.objs.size + 1) (exO (s.heap.objs.size + 1) o)) := (Same.refl H11).upd nc
    have S11 := s11.trans sc11
    have hs11 : SpsAt K (upd H11 (s.heap.objs.size + 1) (exO (s.heap.objs.size + 1) o)) n rv as.reverse sps.reverse := ⟨SqL.of (sc11 _ _ e11), (tups_rev hs10.tp).same S11, (List.reverse_perm _).nodup_iff.mpr hs.nd, (fun x hx => hs.sp x (List.mem_reverse.mp hx)), (by rw [List.length_reverse]; exact hs.l2), (by rw [List.length_reverse]; exact hs.l12)⟩
    refine ⟨g1, d, cm, rv, n, as.reverse, sps, sps.reverse, kvl, kvc, L, C, rfl, lead_with nc ho (hld10.same fun b o _ e => s11 b o e) (fa10.same fun b o _ e => s11 b o e) ne1 (s11 _ _ ed10) (hL10.same fun b o _ _ e => s11 b o e) (s11 _ _ ek10) (hCk10.same s11) hdom, S11 _ _ ed10, hL10.same (fun b o _ _ e => S11 b o e), S11 _ _ ecm10, hC10.same S11, hs11, (fun x hx => List.mem_reverse.mp hx), fun H' s' => ⟨s' _ _ upd_same, true, rfl, ?_⟩⟩
    refine iteF ?_
    have s12 := s11.trans (same_drp nc s')
    revert s12
    generalize drp H' (s.heap.objs.size + 1) = H12
    intro s12
    dsimp only [tNext]
    refine ⟨_, rfl, _, rfl, fun z nz => ⟨_, rfl, .ref d, rfl, fun o u nc ru ho => ?_⟩⟩
    cases ru
    have s13 : Same H12 (upd H12 z (.dT [])) := (Same.refl H12).upd nz
    have e13 : upd H12 z (.dT []) z = some (.dT []) := upd_same
    revert s13 e13 nc
    generalize upd H12 z (.dT []) = H13
    intro nc s13 e13
    have S13 := s12.trans s13
    have sc13 : Same H13 (upd H13 (s.heap.objs.size + 1) (exO (s.heap.objs.size + 1) o)) := (Same.refl H13).upd nc
    have S14 := S13.trans sc13
    exact ⟨g2, d, z, p, n, as, sps, sps, kvl, [], L, fun _ => none, rfl, lead_with nc ho (hld2.same fun b o _ e => S13 b o e) (fa10.same fun b o _ e => S13 b o e) ne2 (S13 _ _ ed10) (hL10.same fun b o _ _ e => S13 b o e) (S13 _ _ ek2) (hCk2.same S13) (fun _ _ h => nomatch h), S14 _ _ ed10, hL10.same (fun b o _ _ e => S14 b o e), sc13 _ _ e13, cm_nil, hs10.same S14, (fun x hx => hx), fun H' s' => ⟨s' _ _ upd_same, q _⟩⟩
end
theorem all_mk {l : PySem.W.OpenLaw} {w : World} {K : PySem.W.Frag} {h : Heap} {mg : Str → Option Value} {fa : Addr} (X : K.In h) (G : h.Ns mainGlobals mg) (hfa : mg "law" = some (.ref fa))
    {f0 : Addr} {od0 an0 : Option Addr} {sl0 : Array (Option Value)} {oc0 kV0 dc0 pm0 cd0 ct0 : Value}
    {f1 : Addr} {od1 an1 : Option Addr} {sl1 : Array (Option Value)} {oc1 kV1 dc1 pm1 cd1 ct1 : Value}
    {f2 : Addr} {od2 an2 : Option Addr} {sl2 : Array (Option Value)} {oc2 kV2 dc2 pm2 cd2 ct2 : Value}
    {f3 : Addr} {od3 an3 : Option Addr} {sl3 : Array (Option Value)} {oc3 kV3 dc3 pm3 cd3 ct3 : Value}
    {f4 : Addr} {od4 an4 : Option Addr} {sl4 : Array (Option Value)} {oc4 kV4 dc4 pm4 cd4 ct4 : Value}
    {f5 : Addr} {od5 an5 : Option Addr} {sl5 : Array (Option Value)} {oc5 kV5 dc5 pm5 cd5 ct5 : Value}
    {f6 : Addr} {od6 an6 : Option Addr} {sl6 : Array (Option Value)} {oc6 kV6 dc6 pm6 cd6 ct6 : Value}
    {f7 : Addr} {od7 an7 : Option Addr} {sl7 : Array (Option Value)} {oc7 kV7 dc7 pm7 cd7 ct7 : Value}
    {f8 : Addr} {od8 an8 : Option Addr} {sl8 : Array (Option Value)} {oc8 kV8 dc8 pm8 cd8 ct8 : Value}
    {f9 : Addr} {od9 an9 : Option Addr} {sl9 : Array (Option Value)} {oc9 kV9 dc9 pm9 cd9 ct9 : Value}
    {f10 : Addr} {od10 an10 : Option Addr} {sl10 : Array (Option Value)} {oc10 kV10 dc10 pm10 cd10 ct10 : Value}
    {f11 : Addr} {od11 an11 : Option Addr} {sl11 : Array (Option Value)} {oc11 kV11 dc11 pm11 cd11 ct11 : Value}
    {f12 : Addr} {od12 an12 : Option Addr} {sl12 : Array (Option Value)} {oc12 kV12 dc12 pm12 cd12 ct12 : Value}
    {f13 : Addr} {od13 an13 : Option Addr} {sl13 : Array (Option Value)} {oc13 kV13 dc13 pm13 cd13 ct13 : Value}
    {f14 : Addr} {od14 an14 : Option Addr} {sl14 : Array (Option Value)} {oc14 kV14 dc14 pm14 cd14 ct14 : Value}
    {f15 : Addr} {od15 an15 : Option Addr} {sl15 : Array (Option Value)} {oc15 kV15 dc15 pm15 cd15 ct15 : Value}
    {f16 : Addr} {od16 an16 : Option Addr} {sl16 : Array (Option Value)} {oc16 kV16 dc16 pm16 cd16 ct16 : Value}
    {f17 : Addr} {od17 an17 : Option Addr} {sl17 : Array (Option Value)} {oc17 kV17 dc17 pm17 cd17 ct17 : Value}
    {cC cP dC dP : Addr}
    (a0 : PySem.W.nsIn K mainGlobals "gate" = some (some (.ref f0)))
    (l0 : K.lookup f0 = some ⟨oc0, od0, .func (PySem.W.fnOf "gate" "gate" (defArgs sGate) (defBody sGate) (defScope sGate) .none kV0 dc0 pm0 an0 cd0 ct0), sl0⟩)
    (c0 : PySem.W.codeIn K cd0 "gate" = true)
    (k0 : PySem.W.keepIn K (.ref f0) = true)
    (a1 : PySem.W.nsIn K mainGlobals "door" = some (some (.ref f1)))
    (l1 : K.lookup f1 = some ⟨oc1, od1, .func (PySem.W.fnOf "door" "door" (defArgs sDoorF) (defBody sDoorF) (defScope sDoorF) .none kV1 dc1 pm1 an1 cd1 ct1), sl1⟩)
    (c1 : PySem.W.codeIn K cd1 "door" = true)
    (k1 : PySem.W.keepIn K (.ref f1) = true)
    (a2 : PySem.W.nsIn K mainGlobals "spot_of_mark" = some (some (.ref f2)))
    (l2 : K.lookup f2 = some ⟨oc2, od2, .func (PySem.W.fnOf "spot_of_mark" "spot_of_mark" (defArgs sSpotOf) (defBody sSpotOf) (defScope sSpotOf) .none kV2 dc2 pm2 an2 cd2 ct2), sl2⟩)
    (c2 : PySem.W.codeIn K cd2 "spot_of_mark" = true)
    (k2 : PySem.W.keepIn K (.ref f2) = true)
    (a3 : PySem.W.nsIn K mainGlobals "is_door" = some (some (.ref f3)))
    (l3 : K.lookup f3 = some ⟨oc3, od3, .func (PySem.W.fnOf "is_door" "is_door" (defArgs sIsD) (defBody sIsD) (defScope sIsD) .none kV3 dc3 pm3 an3 cd3 ct3), sl3⟩)
    (c3 : PySem.W.codeIn K cd3 "is_door" = true)
    (k3 : PySem.W.keepIn K (.ref f3) = true)
    (a4 : PySem.W.nsIn K mainGlobals "gate_arcs" = some (some (.ref f4)))
    (l4 : K.lookup f4 = some ⟨oc4, od4, .func (PySem.W.fnOf "gate_arcs" "gate_arcs" (defArgs sGateA) (defBody sGateA) (defScope sGateA) .none kV4 dc4 pm4 an4 cd4 ct4), sl4⟩)
    (c4 : PySem.W.codeIn K cd4 "gate_arcs" = true)
    (k4 : PySem.W.keepIn K (.ref f4) = true)
    (a5 : PySem.W.nsIn K mainGlobals "door_arcs" = some (some (.ref f5)))
    (l5 : K.lookup f5 = some ⟨oc5, od5, .func (PySem.W.fnOf "door_arcs" "door_arcs" (defArgs sDoorA) (defBody sDoorA) (defScope sDoorA) .none kV5 dc5 pm5 an5 cd5 ct5), sl5⟩)
    (c5 : PySem.W.codeIn K cd5 "door_arcs" = true)
    (k5 : PySem.W.keepIn K (.ref f5) = true)
    (a6 : PySem.W.nsIn K mainGlobals "split_arcs" = some (some (.ref f6)))
    (l6 : K.lookup f6 = some ⟨oc6, od6, .func (PySem.W.fnOf "split_arcs" "split_arcs" (defArgs sSplit) (defBody sSplit) (defScope sSplit) .none kV6 dc6 pm6 an6 cd6 ct6), sl6⟩)
    (c6 : PySem.W.codeIn K cd6 "split_arcs" = true)
    (k6 : PySem.W.keepIn K (.ref f6) = true)
    (a7 : PySem.W.nsIn K mainGlobals "_law_cell_at" = some (some (.ref f7)))
    (l7 : K.lookup f7 = some ⟨oc7, od7, .func (PySem.W.fnOf "_law_cell_at" "_law_cell_at" (defArgs sCell) (defBody sCell) (defScope sCell) .none kV7 dc7 pm7 an7 cd7 ct7), sl7⟩)
    (c7 : PySem.W.codeIn K cd7 "_law_cell_at" = true)
    (k7 : PySem.W.keepIn K (.ref f7) = true)
    (a8 : PySem.W.nsIn K mainGlobals "_law_whole" = some (some (.ref f8)))
    (l8 : K.lookup f8 = some ⟨oc8, od8, .func (PySem.W.fnOf "_law_whole" "_law_whole" (defArgs sWhole) (defBody sWhole) (defScope sWhole) .none kV8 dc8 pm8 an8 cd8 ct8), sl8⟩)
    (c8 : PySem.W.codeIn K cd8 "_law_whole" = true)
    (k8 : PySem.W.keepIn K (.ref f8) = true)
    (a9 : PySem.W.nsIn K mainGlobals "_law_spots" = some (some (.ref f9)))
    (l9 : K.lookup f9 = some ⟨oc9, od9, .func (PySem.W.fnOf "_law_spots" "_law_spots" (defArgs sSpots) (defBody sSpots) (defScope sSpots) .none kV9 dc9 pm9 an9 cd9 ct9), sl9⟩)
    (c9 : PySem.W.codeIn K cd9 "_law_spots" = true)
    (k9 : PySem.W.keepIn K (.ref f9) = true)
    (a10 : PySem.W.nsIn K mainGlobals "_law_mix" = some (some (.ref f10)))
    (l10 : K.lookup f10 = some ⟨oc10, od10, .func (PySem.W.fnOf "_law_mix" "_law_mix" (defArgs sMix) (defBody sMix) (defScope sMix) .none kV10 dc10 pm10 an10 cd10 ct10), sl10⟩)
    (c10 : PySem.W.codeIn K cd10 "_law_mix" = true)
    (k10 : PySem.W.keepIn K (.ref f10) = true)
    (a11 : PySem.W.nsIn K mainGlobals "_law_links" = some (some (.ref f11)))
    (l11 : K.lookup f11 = some ⟨oc11, od11, .func (PySem.W.fnOf "_law_links" "_law_links" (defArgs sLinks) (defBody sLinks) (defScope sLinks) .none kV11 dc11 pm11 an11 cd11 ct11), sl11⟩)
    (c11 : PySem.W.codeIn K cd11 "_law_links" = true)
    (k11 : PySem.W.keepIn K (.ref f11) = true)
    (a12 : PySem.W.nsIn K mainGlobals "_law_lying" = some (some (.ref f12)))
    (l12 : K.lookup f12 = some ⟨oc12, od12, .func (PySem.W.fnOf "_law_lying" "_law_lying" (defArgs sLying) (defBody sLying) (defScope sLying) .none kV12 dc12 pm12 an12 cd12 ct12), sl12⟩)
    (c12 : PySem.W.codeIn K cd12 "_law_lying" = true)
    (k12 : PySem.W.keepIn K (.ref f12) = true)
    (a13 : PySem.W.nsIn K mainGlobals "_law_mark" = some (some (.ref f13)))
    (l13 : K.lookup f13 = some ⟨oc13, od13, .func (PySem.W.fnOf "_law_mark" "_law_mark" (defArgs sMark) (defBody sMark) (defScope sMark) .none kV13 dc13 pm13 an13 cd13 ct13), sl13⟩)
    (c13 : PySem.W.codeIn K cd13 "_law_mark" = true)
    (k13 : PySem.W.keepIn K (.ref f13) = true)
    (a14 : PySem.W.nsIn K mainGlobals "_law_due" = some (some (.ref f14)))
    (l14 : K.lookup f14 = some ⟨oc14, od14, .func (PySem.W.fnOf "_law_due" "_law_due" (defArgs sDue) (defBody sDue) (defScope sDue) .none kV14 dc14 pm14 an14 cd14 ct14), sl14⟩)
    (c14 : PySem.W.codeIn K cd14 "_law_due" = true)
    (k14 : PySem.W.keepIn K (.ref f14) = true)
    (a15 : PySem.W.nsIn K mainGlobals "_law_alike" = some (some (.ref f15)))
    (l15 : K.lookup f15 = some ⟨oc15, od15, .func (PySem.W.fnOf "_law_alike" "_law_alike" (defArgs sAlike) (defBody sAlike) (defScope sAlike) .none kV15 dc15 pm15 an15 cd15 ct15), sl15⟩)
    (c15 : PySem.W.codeIn K cd15 "_law_alike" = true)
    (k15 : PySem.W.keepIn K (.ref f15) = true)
    (a16 : PySem.W.nsIn K mainGlobals "_law_all_lead" = some (some (.ref f16)))
    (l16 : K.lookup f16 = some ⟨oc16, od16, .func (PySem.W.fnOf "_law_all_lead" "_law_all_lead" (defArgs sAll) (defBody sAll) (defScope sAll) .none kV16 dc16 pm16 an16 cd16 ct16), sl16⟩)
    (c16 : PySem.W.codeIn K cd16 "_law_all_lead" = true)
    (k16 : PySem.W.keepIn K (.ref f16) = true)
    (a17 : PySem.W.nsIn K mainGlobals "law" = some (some (.ref f17)))
    (l17 : K.lookup f17 = some ⟨oc17, od17, .func (PySem.W.fnOf "law" "law" (defArgs slaw) (defBody slaw) (defScope slaw) .none kV17 dc17 pm17 an17 cd17 ct17), sl17⟩)
    (c17 : PySem.W.codeIn K cd17 "law" = true)
    (k17 : PySem.W.keepIn K (.ref f17) = true)
    (z_len : PySem.W.nsIn K mainGlobals "len" = some none)
    (z_range : PySem.W.nsIn K mainGlobals "range" = some none)
    (z_isinstance : PySem.W.nsIn K mainGlobals "isinstance" = some none)
    (z_int : PySem.W.nsIn K mainGlobals "int" = some none)
    (z_bool : PySem.W.nsIn K mainGlobals "bool" = some none)
    (z_tuple : PySem.W.nsIn K mainGlobals "tuple" = some none)
    (z_list : PySem.W.nsIn K mainGlobals "list" = some none)
    (z_dict : PySem.W.nsIn K mainGlobals "dict" = some none)
    (z_reversed : PySem.W.nsIn K mainGlobals "reversed" = some none)
    (ii : PySem.W.kitOne K (.type "int") (.type "int") = some true)
    (ib : PySem.W.kitOne K (.type "int") (.type "bool") = some false)
    (tt : PySem.W.kitOne K (.type "tuple") (.type "tuple") = some true)
    (ll : PySem.W.kitOne K (.type "list") (.type "list") = some true)
    (tb : PySem.W.tabIn K "law" = some (cC, cP))
    (tc : cd17 = .ref cC)
    (th : PySem.W.codeHdIn K cC cP = true)
    (ub : PySem.W.tabIn K "split_arcs" = some (dC, dP))
    (uc : cd6 = .ref dC)
    (uh : PySem.W.codeHdIn K dC dP = true)
    : ∃ fd : FuncData, (∀ (s : Shared) (v : Value), BindsTo s fd ⟨[v], []⟩ [("_law_script", v)]) ∧ ∀ base : Heap, K.In base → base.Ns mainGlobals mg → base.BuiltinsAt mg (tbOf K "law").2 → mainGlobals ≠ (tbOf K "law").2 → base.BuiltinsAt mg (tbOf K "split_arcs").2 → mainGlobals ≠ (tbOf K "split_arcs").2 → FnOk l.prog w K mg base CX0 5 fa fd ["_law_script"] (spLaw K) := by
  have e := hfa.symm.trans (PySem.W.mg_of X G a17)
  cases e
  have T : Txt K mg := ⟨PySem.W.mg_none_of X G z_len, PySem.W.mg_none_of X G z_range, PySem.W.mg_none_of X G z_isinstance, PySem.W.mg_none_of X G z_int, PySem.W.mg_none_of X G z_bool, PySem.W.mg_none_of X G z_tuple, PySem.W.mg_none_of X G z_list, PySem.W.mg_none_of X G z_dict, PySem.W.mg_none_of X G z_reversed, ii, ib, tt, ll⟩
  have F0 := fun_mk (st := sGate) l0 c0 k0
  have b0 := F0.binds (ps := ["spot"]) fun _ _ _ _ _ _ us hl => match us, hl with | [_], _ => rfl
  have F1 := fun_mk (st := sDoorF) l1 c1 k1
  have b1 := F1.binds (ps := ["spot"]) fun _ _ _ _ _ _ us hl => match us, hl with | [_], _ => rfl
  have F2 := fun_mk (st := sSpotOf) l2 c2 k2
  have b2 := F2.binds (ps := ["mark"]) fun _ _ _ _ _ _ us hl => match us, hl with | [_], _ => rfl
  have F3 := fun_mk (st := sIsD) l3 c3 k3
  have b3 := F3.binds (ps := ["mark"]) fun _ _ _ _ _ _ us hl => match us, hl with | [_], _ => rfl
  have F4 := fun_mk (st := sGateA) l4 c4 k4
  have b4 := F4.binds (ps := ["arcs", "comes", "spot"]) fun _ _ _ _ _ _ us hl => match us, hl with | [_, _, _], _ => rfl
  have F5 := fun_mk (st := sDoorA) l5 c5 k5
  have b5 := F5.binds (ps := ["arcs", "comes", "spot"]) fun _ _ _ _ _ _ us hl => match us, hl with | [_, _, _], _ => rfl
  have F6 := fun_mk (st := sSplit) l6 c6 k6
  have b6 := F6.binds (ps := ["arcs", "comes"]) fun _ _ _ _ _ _ us hl => match us, hl with | [_, _], _ => rfl
  have F7 := fun_mk (st := sCell) l7 c7 k7
  have b7 := F7.binds (ps := ["_law_script", "_law_k"]) fun _ _ _ _ _ _ us hl => match us, hl with | [_, _], _ => rfl
  have F8 := fun_mk (st := sWhole) l8 c8 k8
  have b8 := F8.binds (ps := ["_law_found"]) fun _ _ _ _ _ _ us hl => match us, hl with | [_], _ => rfl
  have F9 := fun_mk (st := sSpots) l9 c9 k9
  have b9 := F9.binds (ps := ["_law_script"]) fun _ _ _ _ _ _ us hl => match us, hl with | [_], _ => rfl
  have F10 := fun_mk (st := sMix) l10 c10 k10
  have b10 := F10.binds (ps := ["_law_cell", "_law_k", "_law_prime"]) fun _ _ _ _ _ _ us hl => match us, hl with | [_, _, _], _ => rfl
  have F11 := fun_mk (st := sLinks) l11 c11 k11
  have b11 := F11.binds (ps := ["_law_script", "_law_spots_here"]) fun _ _ _ _ _ _ us hl => match us, hl with | [_, _], _ => rfl
  have F12 := fun_mk (st := sLying) l12 c12 k12
  have b12 := F12.binds (ps := ["_law_script", "_law_spots_here", "_law_links_here"]) fun _ _ _ _ _ _ us hl => match us, hl with | [_, _, _], _ => rfl
  have F13 := fun_mk (st := sMark) l13 c13 k13
  have b13 := F13.binds (ps := ["_law_spot", "_law_side"]) fun _ _ _ _ _ _ us hl => match us, hl with | [_, _], _ => rfl
  have F14 := fun_mk (st := sDue) l14 c14 k14
  have b14 := F14.binds (ps := ["_law_links_here", "_law_comes", "_law_spot", "_law_side"]) fun _ _ _ _ _ _ us hl => match us, hl with | [_, _, _, _], _ => rfl
  have F15 := fun_mk (st := sAlike) l15 c15 k15
  have b15 := F15.binds (ps := ["_law_found", "_law_due_here"]) fun _ _ _ _ _ _ us hl => match us, hl with | [_, _], _ => rfl
  have F16 := fun_mk (st := sAll) l16 c16 k16
  have b16 := F16.binds (ps := ["_law_leads", "_law_links_here", "_law_comes", "_law_spots_here"]) fun _ _ _ _ _ _ us hl => match us, hl with | [_, _, _, _], _ => rfl
  have F17 := fun_mk (st := slaw) l17 c17 k17
  refine ⟨PySem.W.fnOf "law" "law" (defArgs slaw) (defBody slaw) (defScope slaw) .none kV17 dc17 pm17 an17 cd17 ct17, fun s v => .of_eq rfl, fun base hB _ hBA hgP hBA2 hgP2 => ?_⟩
  have e0 : tbOf K "law" = (cC, cP) := by unfold tbOf; rw [tb]; rfl
  have hcv : cd17 = .ref (tbOf K "law").1 := by rw [e0]; exact tc
  have hCH : PySem.W.codeHdIn K (tbOf K "law").1 (tbOf K "law").2 = true := by rw [e0]; exact th
  have e1 : tbOf K "split_arcs" = (dC, dP) := by unfold tbOf; rw [ub]; rfl
  have hcv2 : cd6 = .ref (tbOf K "split_arcs").1 := by rw [e1]; exact uc
  have hCH2 : PySem.W.codeHdIn K (tbOf K "split_arcs").1 (tbOf K "split_arcs").2 = true := by rw [e1]; exact uh
  have gGate : Callee l.prog w K mg base "gate" 1 ["spot"] (spCat K false) := ⟨f0, _, ok_Gate F0 T, PySem.W.mg_of X G a0, k0, b0⟩
  have gDoorF : Callee l.prog w K mg base "door" 1 ["spot"] (spCat K true) := ⟨f1, _, ok_DoorF F1 T, PySem.W.mg_of X G a1, k1, b1⟩
  have gSpotOf : Callee l.prog w K mg base "spot_of_mark" 1 ["mark"] spSpotOf := ⟨f2, _, ok_SpotOf F2 T, PySem.W.mg_of X G a2, k2, b2⟩
  have gIsD : Callee l.prog w K mg base "is_door" 1 ["mark"] spDoor := ⟨f3, _, ok_IsD F3 T, PySem.W.mg_of X G a3, k3, b3⟩
  have gGateA : Callee l.prog w K mg base "gate_arcs" 2 ["arcs", "comes", "spot"] (spArcs K mg false) := ⟨f4, _, ok_GateA F4 T gDoorF, PySem.W.mg_of X G a4, k4, b4⟩
  have gDoorA : Callee l.prog w K mg base "door_arcs" 2 ["arcs", "comes", "spot"] (spArcs K mg true) := ⟨f5, _, ok_DoorA F5 T gGate, PySem.W.mg_of X G a5, k5, b5⟩
  have gSplit : Callee l.prog w K mg base "split_arcs" 3 ["arcs", "comes"] (spSplit K mg) := ⟨f6, _, ok_Split F6 T hcv2 hCH2 hBA2 hgP2 gSpotOf gIsD gGateA gDoorA, PySem.W.mg_of X G a6, k6, b6⟩
  have gCell : Callee l.prog w K mg base "_law_cell_at" 1 ["_law_script", "_law_k"] (spCell K) := ⟨f7, _, ok_Cell F7 T, PySem.W.mg_of X G a7, k7, b7⟩
  have gWhole : Callee l.prog w K mg base "_law_whole" 1 ["_law_found"] spWhole := ⟨f8, _, ok_Whole F8 T, PySem.W.mg_of X G a8, k8, b8⟩
  have gSpots : Callee l.prog w K mg base "_law_spots" 2 ["_law_script"] (spSpots K) := ⟨f9, _, ok_Spots F9 T gCell, PySem.W.mg_of X G a9, k9, b9⟩
  have gMix : Callee l.prog w K mg base "_law_mix" 1 ["_law_cell", "_law_k", "_law_prime"] spMix := ⟨f10, _, ok_Mix F10 T, PySem.W.mg_of X G a10, k10, b10⟩
  have gLinks : Callee l.prog w K mg base "_law_links" 2 ["_law_script", "_law_spots_here"] (spLinks K) := ⟨f11, _, ok_Links F11 T gMix, PySem.W.mg_of X G a11, k11, b11⟩
  have gLying : Callee l.prog w K mg base "_law_lying" 2 ["_law_script", "_law_spots_here", "_law_links_here"] (spLying K) := ⟨f12, _, ok_Lying F12 T gCell, PySem.W.mg_of X G a12, k12, b12⟩
  have gMark : Callee l.prog w K mg base "_law_mark" 1 ["_law_spot", "_law_side"] spMark := ⟨f13, _, ok_Mark F13 T, PySem.W.mg_of X G a13, k13, b13⟩
  have gDue : Callee l.prog w K mg base "_law_due" 2 ["_law_links_here", "_law_comes", "_law_spot", "_law_side"] (spDue K) := ⟨f14, _, ok_Due F14 T gMark, PySem.W.mg_of X G a14, k14, b14⟩
  have gAlike : Callee l.prog w K mg base "_law_alike" 2 ["_law_found", "_law_due_here"] (spAlike K) := ⟨f15, _, ok_Alike F15 T gWhole, PySem.W.mg_of X G a15, k15, b15⟩
  have gAll : Callee l.prog w K mg base "_law_all_lead" 4 ["_law_leads", "_law_links_here", "_law_comes", "_law_spots_here"] (spAll K mg) := ⟨f16, _, ok_All F16 T gSpotOf gIsD gGateA gDoorA gMark gDue gAlike, PySem.W.mg_of X G a16, k16, b16⟩
  exact ok_law F17 T hcv hCH hBA hgP gGate gDoorF gSpotOf gSplit gSpots gLinks gLying gMark gAll
theorem walk {l : PySem.W.OpenLaw} {q : Program} {loose : List Str} {XP : (Str → Option Value) → Heap → Prop} {YP : World → Heap → Prop} {d : DefRec} {K : Params → PySem.W.Frag} (hn : l.most = some 63) (hdf : d.params.defaults = [])
    (hY : ∀ (w : World) (h : Heap), YP w h → (K w.params).In h) (hrec : ∃ e, (PyProof.Rows.recsOf q).find? (fun e => e.name == ("law" : Str)) = some e) (hrec2 : ∃ e, (PyProof.Rows.recsOf q).find? (fun e => e.name == ("split_arcs" : Str)) = some e)
    (hT : ∀ w : World, ∃ c P c2 P2, PySem.W.tabIn (K w.params) "law" = some (c, P) ∧ (K w.params).lookup P = none ∧ PySem.W.tabIn (K w.params) "split_arcs" = some (c2, P2) ∧ (K w.params).lookup P2 = none ∧ P ≠ P2)
    (F : ∀ (w : World) (mg : Str → Option Value) (fa : Addr) (h : Heap), (K w.params).In h → h.Ns mainGlobals mg → mg d.name = some (.ref fa) →
      ∃ fd : FuncData, (∀ (s : Shared) (u : Value), BindsTo s fd ⟨[u], []⟩ [("_law_script", u)]) ∧ ∀ base : Heap, (K w.params).In base → base.Ns mainGlobals mg → base.BuiltinsAt mg (tbOf (K w.params) "law").2 → mainGlobals ≠ (tbOf (K w.params) "law").2 → base.BuiltinsAt mg (tbOf (K w.params) "split_arcs").2 → mainGlobals ≠ (tbOf (K w.params) "split_arcs").2 → FnOk l.prog w (K w.params) mg base CX0 5 fa fd ["_law_script"] (spLaw (K w.params))) :
    PySem.W.WalkO q loose XP YP l.row.toRowW d [] (fun f vs => PySem.call f vs) := by
  have e0 : ∀ w : World, (PySem.W.tabIn (K w.params) "law" = some (tbOf (K w.params) "law") ∧ (K w.params).lookup (tbOf (K w.params) "law").2 = none) ∧ (PySem.W.tabIn (K w.params) "split_arcs" = some (tbOf (K w.params) "split_arcs") ∧ (K w.params).lookup (tbOf (K w.params) "split_arcs").2 = none) ∧ (tbOf (K w.params) "law").2 ≠ (tbOf (K w.params) "split_arcs").2 := fun w => by
    obtain ⟨c, P, c2, P2, h1, h2, h3, h4, h5⟩ := hT w
    unfold tbOf
    rw [h1, h3]
    exact ⟨⟨rfl, h2⟩, ⟨rfl, h4⟩, h5⟩
  refine L2.walk_ofT (n := 63) (k := 5) (x := "_law_script") (xs := ["law", "split_arcs"]) (CX := fun _ => CX0) (sp := fun w => spLaw (K w.params)) hn (by decide) hdf ⟨rfl, by decide, by decide, rfl⟩ hY (fun w => [tbOf (K w.params) "law", tbOf (K w.params) "split_arcs"]) (fun y hy => ?_) (fun w t ht => ?_) (fun w mg fa h KX G hmg => ?_) (fun w H a ns hl _ hT hS => ⟨a, ns, rfl, hS, hl, hT _ List.mem_cons_self, hT _ (List.mem_cons_of_mem _ List.mem_cons_self), (e0 w).2.2, fun _ => rfl⟩) fun _ _ _ _ _ z => z
  · rcases List.mem_cons.mp hy with e | e
    · rw [e]; exact hrec
    · rw [List.mem_singleton.mp e]; exact hrec2
  · rcases List.mem_cons.mp ht with e | e
    · rw [e]; exact ⟨⟨_, List.mem_cons_self, (e0 w).1.1⟩, (e0 w).1.2⟩
    · rw [List.mem_singleton.mp e]; exact ⟨⟨_, List.mem_cons_of_mem _ List.mem_cons_self, (e0 w).2.1.1⟩, (e0 w).2.1.2⟩
  · obtain ⟨fd, h1, h2⟩ := F w mg fa h KX G hmg
    exact ⟨fd, h1, fun base hB hN hBM => h2 base hB hN (hBM _ List.mem_cons_self).1 (hBM _ List.mem_cons_self).2 (hBM _ (List.mem_cons_of_mem _ List.mem_cons_self)).1 (hBM _ (List.mem_cons_of_mem _ List.mem_cons_self)).2⟩
end K32
open PySem PySem.W PyProof.Rows
set_option maxRecDepth 100000 in
set_option maxHeartbeats 0 in
theorem PySem.Challenge.cw_wirefloor_k32_gates_and_doors_holds : PySem.Challenge.rw_wirefloor_k32_gates_and_doors.Holds := by
  w_on; o_law; k_head; (case hw => w_witness2)
  k_fill
  refine K32.walk (l := PySem.Challenge.rw_wirefloor_k32_gates_and_doors) rfl rfl (fun w h Y => PySem.W.km_in_of Y) ⟨_, by first | rfl | decide +kernel⟩ ⟨_, by first | rfl | decide +kernel⟩ ?T ?F
  case T =>
    intro w
    refine' ⟨131, 127, 58, 54, ?tbx, ?tnx, ?tby, ?tny, by decide⟩
    (case tbx => kernel_rfl)
    (case tnx => kernel_rfl)
    (case tby => kernel_rfl)
    (case tny => kernel_rfl)
  case F =>
    intro w mg fa h KX G hmg
    refine' K32.all_mk KX G hmg ?a0 ?l0 ?c0 ?k0 ?a1 ?l1 ?c1 ?k1 ?a2 ?l2 ?c2 ?k2 ?a3 ?l3 ?c3 ?k3 ?a4 ?l4 ?c4 ?k4 ?a5 ?l5 ?c5 ?k5 ?a6 ?l6 ?c6 ?k6 ?a7 ?l7 ?c7 ?k7 ?a8 ?l8 ?c8 ?k8 ?a9 ?l9 ?c9 ?k9 ?a10 ?l10 ?c10 ?k10 ?a11 ?l11 ?c11 ?k11 ?a12 ?l12 ?c12 ?k12 ?a13 ?l13 ?c13 ?k13 ?a14 ?l14 ?c14 ?k14 ?a15 ?l15 ?c15 ?k15 ?a16 ?l16 ?c16 ?k16 ?a17 ?l17 ?c17 ?k17 ?z_len ?z_range ?z_isinstance ?z_int ?z_bool ?z_tuple ?z_list ?z_dict ?z_reversed ?ii ?ib ?tt ?ll ?tb ?tc ?th ?ub ?uc ?uh
    (case a0 => k_is)
    (case l0 => k_is)
    (case c0 => k_is)
    (case k0 => k_is)
    (case a1 => k_is)
    (case l1 => k_is)
    (case c1 => k_is)
    (case k1 => k_is)
    (case a2 => k_is)
    (case l2 => k_is)
    (case c2 => k_is)
    (case k2 => k_is)
    (case a3 => k_is)
    (case l3 => k_is)
    (case c3 => k_is)
    (case k3 => k_is)
    (case a4 => k_is)
    (case l4 => k_is)
    (case c4 => k_is)
    (case k4 => k_is)
    (case a5 => k_is)
    (case l5 => k_is)
    (case c5 => k_is)
    (case k5 => k_is)
    (case a6 => k_is)
    (case l6 => k_is)
    (case c6 => k_is)
    (case k6 => k_is)
    (case a7 => k_is)
    (case l7 => k_is)
    (case c7 => k_is)
    (case k7 => k_is)
    (case a8 => k_is)
    (case l8 => k_is)
    (case c8 => k_is)
    (case k8 => k_is)
    (case a9 => k_is)
    (case l9 => k_is)
    (case c9 => k_is)
    (case k9 => k_is)
    (case a10 => k_is)
    (case l10 => k_is)
    (case c10 => k_is)
    (case k10 => k_is)
    (case a11 => k_is)
    (case l11 => k_is)
    (case c11 => k_is)
    (case k11 => k_is)
    (case a12 => k_is)
    (case l12 => k_is)
    (case c12 => k_is)
    (case k12 => k_is)
    (case a13 => k_is)
    (case l13 => k_is)
    (case c13 => k_is)
    (case k13 => k_is)
    (case a14 => k_is)
    (case l14 => k_is)
    (case c14 => k_is)
    (case k14 => k_is)
    (case a15 => k_is)
    (case l15 => k_is)
    (case c15 => k_is)
    (case k15 => k_is)
    (case a16 => k_is)
    (case l16 => k_is)
    (case c16 => k_is)
    (case k16 => k_is)
    (case a17 => k_is)
    (case l17 => k_is)
    (case c17 => k_is)
    (case k17 => k_is)
    (case z_len => k_is)
    (case z_range => k_is)
    (case z_isinstance => k_is)
    (case z_int => k_is)
    (case z_bool => k_is)
    (case z_tuple => k_is)
    (case z_list => k_is)
    (case z_dict => k_is)
    (case z_reversed => k_is)
    (case ii => kit_is)
    (case ib => kit_is)
    (case tt => kit_is)
    (case ll => kit_is)
    (case tb => (show PySem.W.tabIn _ _ = some (131, 127); kernel_rfl))
    (case tc => rfl)
    (case th => kernel_rfl)
    (case ub => (show PySem.W.tabIn _ _ = some (58, 54); kernel_rfl))
    (case uc => rfl)
    (case uh => kernel_rfl)
